/- Texts of this seat, joined. -/
import Derived.Test.YtmhlkdlcpicekaaGreatDoorJ24
import Derived.Test.YtmhlkdlcpicekaaGreatDoorJ25
import Derived.Test.YtmhlkdlcpicekaaGreatDoorJ22
import Derived.Test.YtmhlkdlcpicekaaGreatDoorJ23
import Derived.Test.YtmhlkdlcpicekaaGreatDoorJ21
import Derived.BigQuiet
import Derived.Sort.Walk0
set_option linter.unusedSimpArgs false
set_option linter.unusedVariables false
set_option maxRecDepth 100000
set_option maxHeartbeats 20000000
namespace Go.Proofs.YtmhlkdlcpicekaaGreatDoor
open Go.RowKit Go.Shelf Go.Lib
theorem Tryz.infoListed : (Tryz.prog.info? 179).map (fun i => (i.zero, i.size, i.bytes)) = some (some (.agg #[.string ⟨#[]⟩, .int .i64 0, .int .u32 0, .int .i64 0, .int .i64 0, .int .i64 0, .int .i64 0, .int .i64 0, .int .i64 0, .int .i64 0, .string ⟨#[]⟩, .int .i64 0, .int .i64 0]), 13, 120) := by kernel_rfl
theorem cell_list_new (w : World) (xs : List Value) (t : TypeId) : ∀ (j : Nat) (x : Value), xs[j]? = some x → (w.alloc (.cells xs.toArray t)).cell? ((⟨w.heap.size, 0, none⟩ : Addr).add j) = some x := by
 intro j x h
 have hb := heap_alloc_new w (.cells xs.toArray t)
 have e0 : ((⟨w.heap.size, 0, none⟩ : Addr).add j) = ⟨w.heap.size, j, none⟩ := by
  cases j with
  | zero => rfl
  | succ j => simp [Addr.add]
 rw [e0, row_cell hb j]; simpa using h
def lstV (l : List Ent) : List Value := l.flatMap fun e => listL e 0 0
theorem lstV_snoc (l : List Ent) (e : Ent) : lstV (l ++ [e]) = lstV l ++ listL e 0 0 := by simp [lstV]
theorem lstV_get (l : List Ent) : ∀ i (h : i < l.length) j, j < 13 → (lstV l)[i * 13 + j]? = (listL l[i] 0 0)[j]? := by
 induction l with
 | nil => intro i h; simp at h
 | cons a l ih =>
  intro i h j hj
  have e : lstV (a :: l) = listL a 0 0 ++ lstV l := rfl
  have hl : (listL a 0 0).length = 13 := rfl
  cases i with
  | zero => rw [e, List.getElem?_append_left (by omega)]; simp
  | succ i =>
   have := ih i (by simpa using h) j hj
   rw [e, List.getElem?_append_right (by omega), hl, show (i + 1) * 13 + j - 13 = i * 13 + j by omega, this]
   rfl
theorem LstAt.owned {w : World} {base g cap : Nat} {l : List Ent} (h : w.ownsRow base 179 13 (.slice (some ⟨g, 0, none⟩) l.length cap) l.length (lstV l)) : base ≤ g ∧ LstAt w g (l.map bareE) ∧ ∀ i, w.frozen? ⟨g, i, none⟩ = false := by
 obtain ⟨h1, ⟨h2, _⟩ | ⟨g', cap', cur, e, hb, hg, h3, h4, h5, h6⟩⟩ := h
 ·cases h2
 ·cases e
  refine ⟨hb, ⟨fun i hi j hj => ?_, (Array.getElem?_eq_some_iff.1 hg).1⟩, fun i => frozen_row hg i⟩
  have hi' : i < l.length := by simpa using hi
  have hlt : i * 13 + j < l.length * 13 := by omega
  have := lstV_get l i hi' j hj
  rw [row_cell hg (i * 13 + j)]
  simp only [List.getElem_map, bareE]
  rw [← this, ← h6, List.getElem?_take_of_lt hlt]; simp
def listedPost (s : ByteArray) (E rb p : Nat) (r : Ending) (w' : World) : Prop := match entAt s E p with
 | none => ∃ (e : Ent) (a b : Nat), r = .returned (.tuple #[.agg #[.string e.name, .int .i64 (e.method : Int), .int .u32 (e.sum : Int), .int .i64 (e.packed : Int), .int .i64 (e.size : Int), .int .i64 (a : Int), .int .i64 (e.maker : Int), .int .i64 (e.flags : Int), .int .i64 (e.disk : Int), .int .i64 (e.outer : Int), .string e.three, .int .i64 (e.ahead : Int), .int .i64 (b : Int)], .bool false])
 | some (e, q) => r = .returned (.tuple #[.agg #[.string e.name, .int .i64 (e.method : Int), .int .u32 (e.sum : Int), .int .i64 (e.packed : Int), .int .i64 (e.size : Int), .int .i64 0, .int .i64 (e.maker : Int), .int .i64 (e.flags : Int), .int .i64 (e.disk : Int), .int .i64 (e.outer : Int), .string e.three, .int .i64 (e.ahead : Int), .int .i64 0], .bool true]) ∧ FR w' rb s E (some q)
theorem takeAll_of (w : World) (s : ByteArray) (d : Dir) (h1 : d.place ≤ d.stop) (h2 : d.stop ≤ s.size) (hc : d.count ≤ 9223372036854775807) (hs : s.size ≤ 2147483648)
  (hT : ∀ W rb p, FR W rb s d.stop (some p) → Calls Tryz.prog 88 #[.pointer (some ⟨rb, 0, none⟩)] W fun r w' => Touch (fun k => k = rb) W w' ∧ listedPost s d.stop rb p r w') :
  Calls Tryz.prog 44 #[.agg #[.int .i64 (d.count : Int), .int .i64 (d.size : Int), .int .i64 (d.place : Int), .int .i64 (d.stop : Int)], .string s] w fun r w' => Touch (fun _ => False) w w' ∧ takePost w.heap.size (entsGo s d.stop d.count d.place []) r w' := by
 obtain ⟨i0, hi, hz0, hz1, hz2⟩ := info_parts Tryz.infoListed
 have HT : Hid (∀ W rb p, FR W rb s d.stop (some p) → Calls Tryz.prog 88 #[.pointer (some ⟨rb, 0, none⟩)] W fun r w' => Touch (fun k => k = rb) W w' ∧ listedPost s d.stop rb p r w') := hT
 have W1 := (Touch.refl (fun _ => False) w).alloc (Obj.cells #[.int .i64 (d.count : Int), .int .i64 (d.size : Int), .int .i64 (d.place : Int), .int .i64 (d.stop : Int)] 120)
 have b1 : (d.place : Int) ≤ (d.stop : Int) := by omega
 have b2 : (d.stop : Int) ≤ (s.size : Int) := by omega
 obtain ⟨R, hR⟩ : ∃ R, R = entsGo s d.stop d.count d.place [] := ⟨_, rfl⟩
 have HR : Hid (R = entsGo s d.stop (d.count - 0) d.place []) := hR
 rw [← hR]
 clear hT hR
 go_enter Tryz.func44, Tryz.ntmps44
 go_wp2
 have T0 := W1.alloc (Obj.cells #[.string (s.extract d.place d.stop), .bool false] 175)
 have F0 := FR.newE (w.alloc (Obj.cells #[.int .i64 (d.count : Int), .int .i64 (d.size : Int), .int .i64 (d.place : Int), .int .i64 (d.stop : Int)] 120)) s d.place d.stop h1 h2 _ rfl
 rw [World.size_alloc] at F0
 have hS0 : w.heap.size + 2 ≤ ((w.alloc (Obj.cells #[.int .i64 (d.count : Int), .int .i64 (d.size : Int), .int .i64 (d.place : Int), .int .i64 (d.stop : Int)] 120)).alloc (Obj.cells #[.string (s.extract d.place d.stop), .bool false] 175)).heap.size := by simp
 go_loopw [7, 20] (fun v i wr => ∃ (k p : Nat) (acc : List Ent), k ≤ d.count ∧ acc.length = k ∧ i = .int .i64 (k : Int) ∧ wr.ownsRow (w.heap.size + 2) 179 13 v acc.length (lstV acc) ∧ FR wr (w.heap.size + 1) s d.stop (some p) ∧ k * 46 + d.place ≤ p ∧ Hid (R = entsGo s d.stop (d.count - k) p acc) ∧ Touch (fun _ => False) w wr ∧ w.heap.size + 2 ≤ wr.heap.size) (fun v i wr => d.count - (intOf i).toNat)
 case atStart => exact ⟨0, d.place, [], Nat.zero_le _, rfl, rfl, World.ownsRow_nil _ _ _ _, F0, by omega, HR, T0, hS0⟩
 case round =>
  obtain ⟨k, p, acc, hk, hacc, rfl, hro, hF, hp46, HK, ht, hsz⟩ := hrel
  have hpE := hF.le p rfl
  by_cases hlt : k < d.count
  ·have hlt' : (k : Int) < (d.count : Int) := by omega
   have HX : Hid (R = match entAt s d.stop p with
     | none => .error 5
     | some (e, q) => if faultOf e = 0 then entsGo s d.stop (d.count - (k + 1)) q (acc ++ [e]) else .error (faultOf e)) := by
    unfold Hid; rw [HK.out, show d.count - k = (d.count - (k + 1)) + 1 by omega]; rfl
   clear HK
   go_wp2_with fail
   refine (HT.out _ _ p hF).mono ?_
   rintro e w1 ⟨t1, h1'⟩
   unfold listedPost at h1'
   have T1 : Touch (fun _ => False) w w1 := ht.onNew t1 (by omega)
   have hsz1 := t1.size
   have hro1 := t1.owns hro (fun q hq e => by have h3 := (hro.lt q hq).1; have h4 : q = w.heap.size + 1 := e; omega)
   clear t1 hF hro
   cases hea : entAt s d.stop p with
   | none =>
    rw [hea] at h1' HX
    obtain ⟨e0, a0, b0, rfl⟩ := (show ∃ (e : Ent) (a b : Nat), _ = _ from h1')
    have FIN : Hid (∀ w', takePost w.heap.size R (.returned (.tuple #[.slice none 0 0, .int .i64 5])) w') := by
     intro w'; rw [HX.out]; rfl
    clear HX h1' hea
    go_wp2
    go_ret2
    exact ⟨T1.alloc _, FIN.out _⟩
   | some eq =>
    obtain ⟨e, q⟩ := eq
    rw [hea] at h1' HX
    obtain ⟨rfl, fr1⟩ := (show _ = _ ∧ FR w1 (w.heap.size + 1) s d.stop (some q) from h1')
    obtain ⟨p1, p2, hok⟩ := entAt_ok s _ _ _ _ hea
    have HX' : Hid (R = if faultOf e = 0 then entsGo s d.stop (d.count - (k + 1)) q (acc ++ [e]) else .error (faultOf e)) := HX
    have bx := heap_alloc_new w1 (Obj.cells #[.string e.name, .int .i64 (e.method : Int), .int .u32 (e.sum : Int), .int .i64 (e.packed : Int), .int .i64 (e.size : Int), .int .i64 0, .int .i64 (e.maker : Int), .int .i64 (e.flags : Int), .int .i64 (e.disk : Int), .int .i64 (e.outer : Int), .string e.three, .int .i64 (e.ahead : Int), .int .i64 0] 179)
    have HLA : Hid (ListAt (w1.alloc (Obj.cells #[.string e.name, .int .i64 (e.method : Int), .int .u32 (e.sum : Int), .int .i64 (e.packed : Int), .int .i64 (e.size : Int), .int .i64 0, .int .i64 (e.maker : Int), .int .i64 (e.flags : Int), .int .i64 (e.disk : Int), .int .i64 (e.outer : Int), .string e.three, .int .i64 (e.ahead : Int), .int .i64 0] 179)) w1.heap.size 0 e 0 0) := by
     intro i hi
     rw [Nat.zero_add, row_cell bx i]; simp [listL]
    have hfr1 := fr1.keep ((Touch.refl (fun _ => False) w1).alloc (Obj.cells #[.string e.name, .int .i64 (e.method : Int), .int .u32 (e.sum : Int), .int .i64 (e.packed : Int), .int .i64 (e.size : Int), .int .i64 0, .int .i64 (e.maker : Int), .int .i64 (e.flags : Int), .int .i64 (e.disk : Int), .int .i64 (e.outer : Int), .string e.three, .int .i64 (e.ahead : Int), .int .i64 0] 179)) (fun e => e)
    clear HX h1' hea
    go_wp2_with fail
    refine (fault_c _ _ 0 e 0 0 HLA.out hok).mono ?_
    rintro e' w2 ⟨rfl, t2⟩
    have T2 := (T1.alloc _).trans t2
    have bx2 := (t2.block _ (by simp) (fun e => e)).trans bx
    have hro2 := t2.owns (hro1.alloc _) (fun _ _ h => h)
    have fr2 := hfr1.keep t2 (fun e => e)
    have hsz2 := t2.size
    rw [World.size_alloc] at hsz2
    have lt2 : w1.heap.size < w2.heap.size := by omega
    clear t2 bx HLA hfr1 fr1 hro1
    by_cases hfa : faultOf e = 0
    ·have hr := HX'.out
     rw [if_pos hfa] at hr
     have HN : Hid (R = entsGo s d.stop (d.count - (k + 1)) q (acc ++ [e])) := hr
     rw [hfa]
     clear hr HX'
     have c0 : w2.cell? ⟨w1.heap.size, 0, none⟩ = some (.string e.name) := by rw [row_cell bx2 0]; rfl
     have c1 : w2.cell? ⟨w1.heap.size, 1, none⟩ = some (.int .i64 (e.method : Int)) := by rw [row_cell bx2 1]; rfl
     have c2 : w2.cell? ⟨w1.heap.size, 2, none⟩ = some (.int .u32 (e.sum : Int)) := by rw [row_cell bx2 2]; rfl
     have c3 : w2.cell? ⟨w1.heap.size, 3, none⟩ = some (.int .i64 (e.packed : Int)) := by rw [row_cell bx2 3]; rfl
     have c4 : w2.cell? ⟨w1.heap.size, 4, none⟩ = some (.int .i64 (e.size : Int)) := by rw [row_cell bx2 4]; rfl
     have c5 : w2.cell? ⟨w1.heap.size, 5, none⟩ = some (.int .i64 0) := by rw [row_cell bx2 5]; rfl
     have c6 : w2.cell? ⟨w1.heap.size, 6, none⟩ = some (.int .i64 (e.maker : Int)) := by rw [row_cell bx2 6]; rfl
     have c7 : w2.cell? ⟨w1.heap.size, 7, none⟩ = some (.int .i64 (e.flags : Int)) := by rw [row_cell bx2 7]; rfl
     have c8 : w2.cell? ⟨w1.heap.size, 8, none⟩ = some (.int .i64 (e.disk : Int)) := by rw [row_cell bx2 8]; rfl
     have c9 : w2.cell? ⟨w1.heap.size, 9, none⟩ = some (.int .i64 (e.outer : Int)) := by rw [row_cell bx2 9]; rfl
     have c10 : w2.cell? ⟨w1.heap.size, 10, none⟩ = some (.string e.three) := by rw [row_cell bx2 10]; rfl
     have c11 : w2.cell? ⟨w1.heap.size, 11, none⟩ = some (.int .i64 (e.ahead : Int)) := by rw [row_cell bx2 11]; rfl
     have c12 : w2.cell? ⟨w1.heap.size, 12, none⟩ = some (.int .i64 0) := by rw [row_cell bx2 12]; rfl
     have HQ : Hid (∀ (j : Nat) (y : Value), (listL e 0 0)[j]? = some y → (w2.alloc (Obj.cells #[.string e.name, .int .i64 (e.method : Int), .int .u32 (e.sum : Int), .int .i64 (e.packed : Int), .int .i64 (e.size : Int), .int .i64 0, .int .i64 (e.maker : Int), .int .i64 (e.flags : Int), .int .i64 (e.disk : Int), .int .i64 (e.outer : Int), .string e.three, .int .i64 (e.ahead : Int), .int .i64 0] 179)).cell? ((⟨w2.heap.size, 0, none⟩ : Addr).add j) = some y) := cell_list_new w2 (listL e 0 0) _
     have b3 : acc.length + 1 ≤ maxLen := by unfold maxLen; omega
     have b4 : (acc.length + 1) * 120 ≤ 140737488355328 := by omega
     clear bx2
     go_wp2_with (at_builtin; refine wpList_append_own _ rfl _ _ 123 rfl (w.heap.size + 2) 179 i0 (.agg #[.string ⟨#[]⟩, .int .i64 0, .int .u32 0, .int .i64 0, .int .i64 0, .int .i64 0, .int .i64 0, .int .i64 0, .int .i64 0, .int .i64 0, .string ⟨#[]⟩, .int .i64 0, .int .i64 0]) 13 120 Tryz.underlying123 hi hz0 hz1 hz2 rfl (by decide) _ _ _ rfl (hro2.alloc _) ⟨w2.heap.size, 0, none⟩ 1 1 (listL e 0 0) rfl rfl HQ.out (by simp [listL, Value.oneCell']) b3 b4 (by simp; omega) ?_; intro v' w3 hown' hgrow hnil)
     have hrowB : ∀ q, u7.ownBlock = some q → w.heap.size + 2 ≤ q := fun q hq => (hro2.lt q hq).1
     have TB : Touch (fun q => u7.ownBlock = some q) w2 w3 := ((Touch.refl (fun q => u7.ownBlock = some q) w2).alloc _).grown hgrow (fun q hq => hq)
     have hsz3 := TB.size
     refine ⟨⟨k + 1, q, acc ++ [e], by omega, by simp; omega, by go_num, ?_, ?_, by omega, HN, ?_, by omega⟩, by simp [intOf]; omega⟩
     ·rw [lstV_snoc, List.length_append]; exact hown'
     ·refine fr2.keep TB (fun e => ?_)
      have := hrowB _ e; omega
     ·exact (T2.alloc _).grownNew hgrow (fun q hq => by have := hrowB q hq; omega)
    ·have hfa' : ¬ (faultOf e : Int) = 0 := by omega
     have hr := HX'.out
     rw [if_neg hfa] at hr
     have FIN : Hid (∀ w', takePost w.heap.size R (.returned (.tuple #[.slice none 0 0, .int .i64 (faultOf e : Int)])) w') := by
      intro w'; rw [hr]; rfl
     clear hr HX' bx2
     generalize faultOf e = fe at hfa hfa' FIN ⊢
     go_wp2
     go_ret2
     exact ⟨T2, FIN.out _⟩
  ·obtain rfl : k = d.count := by omega
   have hr := HK.out
   rw [Nat.sub_self] at hr
   have hr' : R = if p = d.stop then .ok acc else .error 5 := hr
   have r1 := hF.rest
   simp only [restOf] at r1
   by_cases hpe : p = d.stop
   ·rw [if_pos hpe] at hr'
    have em : (s.extract p d.stop).toList.isEmpty = true := by simpa using extract_empty s p d.stop (by omega)
    have FIN : Hid (takePost w.heap.size R (.returned (.tuple #[u7, .int .i64 0])) wr) := by
     unfold Hid
     rw [hr']
     have hll : (acc.map bareE).length = acc.length := List.length_map ..
     obtain ⟨q1, ⟨q2, q3⟩ | ⟨g', cap', cur, rfl, hrest⟩⟩ := id hro
     ·exact ⟨none, 0, w.heap.size, by rw [q2, hll, q3], by rw [hll]; omega, Nat.le_refl _, by rw [hll]; omega⟩
     ·obtain ⟨z1, z2, z3⟩ := LstAt.owned hro
      exact ⟨some ⟨g', 0, none⟩, cap', g', by rw [hll], fun _ => rfl, by omega, fun _ => ⟨z2, z3⟩⟩
    clear hr hr' HK hro hF
    go_wp2
    go_ret2
    exact ⟨ht, FIN.out⟩
   ·rw [if_neg hpe] at hr'
    have ne : (s.extract p d.stop).toList.isEmpty = false := by simpa using extract_nonempty s p d.stop h2 (by omega)
    have FIN : Hid (∀ w', takePost w.heap.size R (.returned (.tuple #[.slice none 0 0, .int .i64 5])) w') := by
     intro w'; rw [hr']; rfl
    clear hr hr' HK hro hF
    go_wp2
    go_ret2
    exact ⟨ht, FIN.out _⟩
end Go.Proofs.YtmhlkdlcpicekaaGreatDoor
namespace Go.Proofs.YtmhlkdlcpicekaaGreatDoor
open Go.RowKit Go.Shelf Go.Lib
def strV (l : List UInt8) : Value := .string ⟨l.toArray⟩
def strs (l : List (List UInt8)) : List Value := l.map strV
end Go.Proofs.YtmhlkdlcpicekaaGreatDoor
namespace Go.Proofs.YtmhlkdlcpicekaaGreatDoor
open Go.RowKit Go.Shelf Go.Lib
structure StrsAt (w : World) (g : Nat) (X : List (List UInt8)) : Prop where
 cells : ∀ i (h : i < X.length), w.cell? ⟨g, i, none⟩ = some (strV X[i])
 lt : g < w.heap.size
theorem StrsAt.keep {S : Nat → Prop} {w w' : World} {g : Nat} {X : List (List UInt8)} (h : StrsAt w g X) (ht : Touch S w w') (hs : ¬ S g) : StrsAt w' g X :=
 ⟨fun i hi => (ht.cell (p := ⟨g, i, none⟩) h.lt hs).trans (h.cells i hi), Nat.lt_of_lt_of_le h.lt ht.size⟩
theorem StrsAt.owned {w : World} {base : Nat} {v : Value} {X : List (List UInt8)} (h : w.ownsRow base 9 1 v X.length (strs X)) (hX : 0 < X.length) : ∃ g cap, v = .slice (some ⟨g, 0, none⟩) X.length cap ∧ StrsAt w g X := by
 obtain ⟨h1, ⟨h2, h3⟩ | ⟨g', cap', cur, rfl, hb, hg, h3, h4, h5, h6⟩⟩ := h
 ·omega
 ·refine ⟨g', cap', rfl, fun i hi => ?_, (Array.getElem?_eq_some_iff.1 hg).1⟩
  have e : (strs X)[i]? = some (strV X[i]) := by unfold strs; rw [List.getElem?_map, List.getElem?_eq_getElem hi]; rfl
  rw [row_cell hg i, ← e, ← h6, List.getElem?_take_of_lt (by omega)]; simp
end Go.Proofs.YtmhlkdlcpicekaaGreatDoor
