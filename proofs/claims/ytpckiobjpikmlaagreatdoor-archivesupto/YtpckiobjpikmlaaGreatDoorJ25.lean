/- Texts of this seat, joined. -/
import Derived.Test.YtpckiobjpikmlaaGreatDoorJ23
import Derived.Test.YtpckiobjpikmlaaGreatDoorJ24
import Derived.Test.YtpckiobjpikmlaaGreatDoorJ21
import Derived.Test.YtpckiobjpikmlaaGreatDoorJ22
set_option linter.unusedSimpArgs false
set_option linter.unusedVariables false
set_option maxRecDepth 100000
set_option maxHeartbeats 20000000
namespace Go.Proofs.YtpckiobjpikmlaaGreatDoor
open Go.RowKit Go.Shelf Go.Lib
theorem Tryz.infoListed : (Tryz.prog.info? 103).map (fun i => (i.zero, i.size, i.bytes)) = some (some (.agg #[.string ⟨#[]⟩, .int .i64 0, .int .u32 0, .int .i64 0, .int .i64 0, .int .i64 0, .int .i64 0, .int .i64 0, .int .i64 0, .int .i64 0, .string ⟨#[]⟩, .int .i64 0, .int .i64 0]), 13, 120) := by kernel_rfl
theorem cell_list_new (w : World) (xs : List Value) (t : TypeId) : ∀ (j : Nat) (x : Value), xs[j]? = some x → (w.alloc (.cells xs.toArray t)).cell? ((⟨w.heap.size, 0, none⟩ : Addr).add j) = some x := by
 intro j x h
 have hb := heap_alloc_new w (.cells xs.toArray t)
 have e0 : ((⟨w.heap.size, 0, none⟩ : Addr).add j) = ⟨w.heap.size, j, none⟩ := by
  cases j with
  | zero => rfl
  | succ j => simp [Addr.add]
 rw [e0, row_cell hb j]; simpa using h
def lstV (l : List Ent) : List Value := l.flatMap fun e => listL e 0 0
theorem lstV_snoc (l : List Ent) (e : Ent) : lstV (l ++ [e]) = lstV l ++ listL e 0 0 := by simp [lstV]
theorem lstV_get (l : List Ent) : ∀ i (h : i < l.length) j, j < 13 → (lstV l)[i * 13 + j]? = (listL l[i] 0 0)[j]? := by
 induction l with
 | nil => intro i h; simp at h
 | cons a l ih =>
  intro i h j hj
  have e : lstV (a :: l) = listL a 0 0 ++ lstV l := rfl
  have hl : (listL a 0 0).length = 13 := rfl
  cases i with
  | zero => rw [e, List.getElem?_append_left (by omega)]; simp
  | succ i =>
   have := ih i (by simpa using h) j hj
   rw [e, List.getElem?_append_right (by omega), hl, show (i + 1) * 13 + j - 13 = i * 13 + j by omega, this]
   rfl
theorem LstAt.owned {w : World} {base g cap : Nat} {l : List Ent} (h : w.ownsRow base 103 13 (.slice (some ⟨g, 0, none⟩) l.length cap) l.length (lstV l)) : base ≤ g ∧ LstAt w g (l.map bareE) ∧ ∀ i, w.frozen? ⟨g, i, none⟩ = false := by
 obtain ⟨h1, ⟨h2, _⟩ | ⟨g', cap', cur, e, hb, hg, h3, h4, h5, h6⟩⟩ := h
 ·cases h2
 ·cases e
  refine ⟨hb, ⟨fun i hi j hj => ?_, (Array.getElem?_eq_some_iff.1 hg).1⟩, fun i => frozen_row hg i⟩
  have hi' : i < l.length := by simpa using hi
  have hlt : i * 13 + j < l.length * 13 := by omega
  have := lstV_get l i hi' j hj
  rw [row_cell hg (i * 13 + j)]
  simp only [List.getElem_map, bareE]
  rw [← this, ← h6, List.getElem?_take_of_lt hlt]; simp
def listedPost (s : ByteArray) (E rb p : Nat) (r : Ending) (w' : World) : Prop := match entAt s E p with
 | none => ∃ (e : Ent) (a b : Nat), r = .returned (.tuple #[.agg #[.string e.name, .int .i64 (e.method : Int), .int .u32 (e.sum : Int), .int .i64 (e.packed : Int), .int .i64 (e.size : Int), .int .i64 (a : Int), .int .i64 (e.maker : Int), .int .i64 (e.flags : Int), .int .i64 (e.disk : Int), .int .i64 (e.outer : Int), .string e.three, .int .i64 (e.ahead : Int), .int .i64 (b : Int)], .bool false])
 | some (e, q) => r = .returned (.tuple #[.agg #[.string e.name, .int .i64 (e.method : Int), .int .u32 (e.sum : Int), .int .i64 (e.packed : Int), .int .i64 (e.size : Int), .int .i64 0, .int .i64 (e.maker : Int), .int .i64 (e.flags : Int), .int .i64 (e.disk : Int), .int .i64 (e.outer : Int), .string e.three, .int .i64 (e.ahead : Int), .int .i64 0], .bool true]) ∧ FR w' rb s E (some q)
theorem takeAll_of (w : World) (s : ByteArray) (d : Dir) (h1 : d.place ≤ d.stop) (h2 : d.stop ≤ s.size) (hc : d.count ≤ 9223372036854775807) (hs : s.size ≤ 2147483648)
  (hT : ∀ W rb p, FR W rb s d.stop (some p) → Calls Tryz.prog 34 #[.pointer (some ⟨rb, 0, none⟩)] W fun r w' => Touch (fun k => k = rb) W w' ∧ listedPost s d.stop rb p r w') :
  Calls Tryz.prog 13 #[.agg #[.int .i64 (d.count : Int), .int .i64 (d.size : Int), .int .i64 (d.place : Int), .int .i64 (d.stop : Int)], .string s] w fun r w' => Touch (fun _ => False) w w' ∧ takePost w.heap.size (entsGo s d.stop d.count d.place []) r w' := by
 obtain ⟨i0, hi, hz0, hz1, hz2⟩ := info_parts Tryz.infoListed
 have HT : Hid (∀ W rb p, FR W rb s d.stop (some p) → Calls Tryz.prog 34 #[.pointer (some ⟨rb, 0, none⟩)] W fun r w' => Touch (fun k => k = rb) W w' ∧ listedPost s d.stop rb p r w') := hT
 have W1 := (Touch.refl (fun _ => False) w).alloc (Obj.cells #[.int .i64 (d.count : Int), .int .i64 (d.size : Int), .int .i64 (d.place : Int), .int .i64 (d.stop : Int)] 66)
 have b1 : (d.place : Int) ≤ (d.stop : Int) := by omega
 have b2 : (d.stop : Int) ≤ (s.size : Int) := by omega
 obtain ⟨R, hR⟩ : ∃ R, R = entsGo s d.stop d.count d.place [] := ⟨_, rfl⟩
 have HR : Hid (R = entsGo s d.stop (d.count - 0) d.place []) := hR
 rw [← hR]
 clear hT hR
 go_enter Tryz.func13, Tryz.ntmps13
 go_wp2
 have T0 := W1.alloc (Obj.cells #[.string (s.extract d.place d.stop), .bool false] 99)
 have F0 := FR.newE (w.alloc (Obj.cells #[.int .i64 (d.count : Int), .int .i64 (d.size : Int), .int .i64 (d.place : Int), .int .i64 (d.stop : Int)] 66)) s d.place d.stop h1 h2 _ rfl
 rw [World.size_alloc] at F0
 have hS0 : w.heap.size + 2 ≤ ((w.alloc (Obj.cells #[.int .i64 (d.count : Int), .int .i64 (d.size : Int), .int .i64 (d.place : Int), .int .i64 (d.stop : Int)] 66)).alloc (Obj.cells #[.string (s.extract d.place d.stop), .bool false] 99)).heap.size := by simp
 go_loopw [7, 20] (fun v i wr => ∃ (k p : Nat) (acc : List Ent), k ≤ d.count ∧ acc.length = k ∧ i = .int .i64 (k : Int) ∧ wr.ownsRow (w.heap.size + 2) 103 13 v acc.length (lstV acc) ∧ FR wr (w.heap.size + 1) s d.stop (some p) ∧ k * 46 + d.place ≤ p ∧ Hid (R = entsGo s d.stop (d.count - k) p acc) ∧ Touch (fun _ => False) w wr ∧ w.heap.size + 2 ≤ wr.heap.size) (fun v i wr => d.count - (intOf i).toNat)
 case atStart => exact ⟨0, d.place, [], Nat.zero_le _, rfl, rfl, World.ownsRow_nil _ _ _ _, F0, by omega, HR, T0, hS0⟩
 case round =>
  obtain ⟨k, p, acc, hk, hacc, rfl, hro, hF, hp46, HK, ht, hsz⟩ := hrel
  have hpE := hF.le p rfl
  by_cases hlt : k < d.count
  ·have hlt' : (k : Int) < (d.count : Int) := by omega
   have HX : Hid (R = match entAt s d.stop p with
     | none => .error 5
     | some (e, q) => if faultOf e = 0 then entsGo s d.stop (d.count - (k + 1)) q (acc ++ [e]) else .error (faultOf e)) := by
    unfold Hid; rw [HK.out, show d.count - k = (d.count - (k + 1)) + 1 by omega]; rfl
   clear HK
   go_wp2_with fail
   refine (HT.out _ _ p hF).mono ?_
   rintro e w1 ⟨t1, h1'⟩
   unfold listedPost at h1'
   have T1 : Touch (fun _ => False) w w1 := ht.onNew t1 (by omega)
   have hsz1 := t1.size
   have hro1 := t1.owns hro (fun q hq e => by have h3 := (hro.lt q hq).1; have h4 : q = w.heap.size + 1 := e; omega)
   clear t1 hF hro
   cases hea : entAt s d.stop p with
   | none =>
    rw [hea] at h1' HX
    obtain ⟨e0, a0, b0, rfl⟩ := (show ∃ (e : Ent) (a b : Nat), _ = _ from h1')
    have FIN : Hid (∀ w', takePost w.heap.size R (.returned (.tuple #[.slice none 0 0, .int .i64 5])) w') := by
     intro w'; rw [HX.out]; rfl
    clear HX h1' hea
    go_wp2
    go_ret2
    exact ⟨T1.alloc _, FIN.out _⟩
   | some eq =>
    obtain ⟨e, q⟩ := eq
    rw [hea] at h1' HX
    obtain ⟨rfl, fr1⟩ := (show _ = _ ∧ FR w1 (w.heap.size + 1) s d.stop (some q) from h1')
    obtain ⟨p1, p2, hok⟩ := entAt_ok s _ _ _ _ hea
    have HX' : Hid (R = if faultOf e = 0 then entsGo s d.stop (d.count - (k + 1)) q (acc ++ [e]) else .error (faultOf e)) := HX
    have bx := heap_alloc_new w1 (Obj.cells #[.string e.name, .int .i64 (e.method : Int), .int .u32 (e.sum : Int), .int .i64 (e.packed : Int), .int .i64 (e.size : Int), .int .i64 0, .int .i64 (e.maker : Int), .int .i64 (e.flags : Int), .int .i64 (e.disk : Int), .int .i64 (e.outer : Int), .string e.three, .int .i64 (e.ahead : Int), .int .i64 0] 103)
    have HLA : Hid (ListAt (w1.alloc (Obj.cells #[.string e.name, .int .i64 (e.method : Int), .int .u32 (e.sum : Int), .int .i64 (e.packed : Int), .int .i64 (e.size : Int), .int .i64 0, .int .i64 (e.maker : Int), .int .i64 (e.flags : Int), .int .i64 (e.disk : Int), .int .i64 (e.outer : Int), .string e.three, .int .i64 (e.ahead : Int), .int .i64 0] 103)) w1.heap.size 0 e 0 0) := by
     intro i hi
     rw [Nat.zero_add, row_cell bx i]; simp [listL]
    have hfr1 := fr1.keep ((Touch.refl (fun _ => False) w1).alloc (Obj.cells #[.string e.name, .int .i64 (e.method : Int), .int .u32 (e.sum : Int), .int .i64 (e.packed : Int), .int .i64 (e.size : Int), .int .i64 0, .int .i64 (e.maker : Int), .int .i64 (e.flags : Int), .int .i64 (e.disk : Int), .int .i64 (e.outer : Int), .string e.three, .int .i64 (e.ahead : Int), .int .i64 0] 103)) (fun e => e)
    clear HX h1' hea
    go_wp2_with fail
    refine (fault_c _ _ 0 e 0 0 HLA.out hok).mono ?_
    rintro e' w2 ⟨rfl, t2⟩
    have T2 := (T1.alloc _).trans t2
    have bx2 := (t2.block _ (by simp) (fun e => e)).trans bx
    have hro2 := t2.owns (hro1.alloc _) (fun _ _ h => h)
    have fr2 := hfr1.keep t2 (fun e => e)
    have hsz2 := t2.size
    rw [World.size_alloc] at hsz2
    have lt2 : w1.heap.size < w2.heap.size := by omega
    clear t2 bx HLA hfr1 fr1 hro1
    by_cases hfa : faultOf e = 0
    ·have hr := HX'.out
     rw [if_pos hfa] at hr
     have HN : Hid (R = entsGo s d.stop (d.count - (k + 1)) q (acc ++ [e])) := hr
     rw [hfa]
     clear hr HX'
     have c0 : w2.cell? ⟨w1.heap.size, 0, none⟩ = some (.string e.name) := by rw [row_cell bx2 0]; rfl
     have c1 : w2.cell? ⟨w1.heap.size, 1, none⟩ = some (.int .i64 (e.method : Int)) := by rw [row_cell bx2 1]; rfl
     have c2 : w2.cell? ⟨w1.heap.size, 2, none⟩ = some (.int .u32 (e.sum : Int)) := by rw [row_cell bx2 2]; rfl
     have c3 : w2.cell? ⟨w1.heap.size, 3, none⟩ = some (.int .i64 (e.packed : Int)) := by rw [row_cell bx2 3]; rfl
     have c4 : w2.cell? ⟨w1.heap.size, 4, none⟩ = some (.int .i64 (e.size : Int)) := by rw [row_cell bx2 4]; rfl
     have c5 : w2.cell? ⟨w1.heap.size, 5, none⟩ = some (.int .i64 0) := by rw [row_cell bx2 5]; rfl
     have c6 : w2.cell? ⟨w1.heap.size, 6, none⟩ = some (.int .i64 (e.maker : Int)) := by rw [row_cell bx2 6]; rfl
     have c7 : w2.cell? ⟨w1.heap.size, 7, none⟩ = some (.int .i64 (e.flags : Int)) := by rw [row_cell bx2 7]; rfl
     have c8 : w2.cell? ⟨w1.heap.size, 8, none⟩ = some (.int .i64 (e.disk : Int)) := by rw [row_cell bx2 8]; rfl
     have c9 : w2.cell? ⟨w1.heap.size, 9, none⟩ = some (.int .i64 (e.outer : Int)) := by rw [row_cell bx2 9]; rfl
     have c10 : w2.cell? ⟨w1.heap.size, 10, none⟩ = some (.string e.three) := by rw [row_cell bx2 10]; rfl
     have c11 : w2.cell? ⟨w1.heap.size, 11, none⟩ = some (.int .i64 (e.ahead : Int)) := by rw [row_cell bx2 11]; rfl
     have c12 : w2.cell? ⟨w1.heap.size, 12, none⟩ = some (.int .i64 0) := by rw [row_cell bx2 12]; rfl
     have HQ : Hid (∀ (j : Nat) (y : Value), (listL e 0 0)[j]? = some y → (w2.alloc (Obj.cells #[.string e.name, .int .i64 (e.method : Int), .int .u32 (e.sum : Int), .int .i64 (e.packed : Int), .int .i64 (e.size : Int), .int .i64 0, .int .i64 (e.maker : Int), .int .i64 (e.flags : Int), .int .i64 (e.disk : Int), .int .i64 (e.outer : Int), .string e.three, .int .i64 (e.ahead : Int), .int .i64 0] 103)).cell? ((⟨w2.heap.size, 0, none⟩ : Addr).add j) = some y) := cell_list_new w2 (listL e 0 0) _
     have b3 : acc.length + 1 ≤ maxLen := by unfold maxLen; omega
     have b4 : (acc.length + 1) * 120 ≤ 140737488355328 := by omega
     clear bx2
     go_wp2_with (at_builtin; refine wpList_append_own _ rfl _ _ 69 rfl (w.heap.size + 2) 103 i0 (.agg #[.string ⟨#[]⟩, .int .i64 0, .int .u32 0, .int .i64 0, .int .i64 0, .int .i64 0, .int .i64 0, .int .i64 0, .int .i64 0, .int .i64 0, .string ⟨#[]⟩, .int .i64 0, .int .i64 0]) 13 120 Tryz.underlying69 hi hz0 hz1 hz2 rfl (by decide) _ _ _ rfl (hro2.alloc _) ⟨w2.heap.size, 0, none⟩ 1 1 (listL e 0 0) rfl rfl HQ.out (by simp [listL, Value.oneCell']) b3 b4 (by simp; omega) ?_; intro v' w3 hown' hgrow hnil)
     have hrowB : ∀ q, u7.ownBlock = some q → w.heap.size + 2 ≤ q := fun q hq => (hro2.lt q hq).1
     have TB : Touch (fun q => u7.ownBlock = some q) w2 w3 := ((Touch.refl (fun q => u7.ownBlock = some q) w2).alloc _).grown hgrow (fun q hq => hq)
     have hsz3 := TB.size
     refine ⟨⟨k + 1, q, acc ++ [e], by omega, by simp; omega, by go_num, ?_, ?_, by omega, HN, ?_, by omega⟩, by simp [intOf]; omega⟩
     ·rw [lstV_snoc, List.length_append]; exact hown'
     ·refine fr2.keep TB (fun e => ?_)
      have := hrowB _ e; omega
     ·exact (T2.alloc _).grownNew hgrow (fun q hq => by have := hrowB q hq; omega)
    ·have hfa' : ¬ (faultOf e : Int) = 0 := by omega
     have hr := HX'.out
     rw [if_neg hfa] at hr
     have FIN : Hid (∀ w', takePost w.heap.size R (.returned (.tuple #[.slice none 0 0, .int .i64 (faultOf e : Int)])) w') := by
      intro w'; rw [hr]; rfl
     clear hr HX' bx2
     generalize faultOf e = fe at hfa hfa' FIN ⊢
     go_wp2
     go_ret2
     exact ⟨T2, FIN.out _⟩
  ·obtain rfl : k = d.count := by omega
   have hr := HK.out
   rw [Nat.sub_self] at hr
   have hr' : R = if p = d.stop then .ok acc else .error 5 := hr
   have r1 := hF.rest
   simp only [restOf] at r1
   by_cases hpe : p = d.stop
   ·rw [if_pos hpe] at hr'
    have em : (s.extract p d.stop).toList.isEmpty = true := by simpa using extract_empty s p d.stop (by omega)
    have FIN : Hid (takePost w.heap.size R (.returned (.tuple #[u7, .int .i64 0])) wr) := by
     unfold Hid
     rw [hr']
     have hll : (acc.map bareE).length = acc.length := List.length_map ..
     obtain ⟨q1, ⟨q2, q3⟩ | ⟨g', cap', cur, rfl, hrest⟩⟩ := id hro
     ·exact ⟨none, 0, w.heap.size, by rw [q2, hll, q3], by rw [hll]; omega, Nat.le_refl _, by rw [hll]; omega⟩
     ·obtain ⟨z1, z2, z3⟩ := LstAt.owned hro
      exact ⟨some ⟨g', 0, none⟩, cap', g', by rw [hll], fun _ => rfl, by omega, fun _ => ⟨z2, z3⟩⟩
    clear hr hr' HK hro hF
    go_wp2
    go_ret2
    exact ⟨ht, FIN.out⟩
   ·rw [if_neg hpe] at hr'
    have ne : (s.extract p d.stop).toList.isEmpty = false := by simpa using extract_nonempty s p d.stop h2 (by omega)
    have FIN : Hid (∀ w', takePost w.heap.size R (.returned (.tuple #[.slice none 0 0, .int .i64 5])) w') := by
     intro w'; rw [hr']; rfl
    clear hr hr' HK hro hF
    go_wp2
    go_ret2
    exact ⟨ht, FIN.out _⟩
end Go.Proofs.YtpckiobjpikmlaaGreatDoor
namespace Go.Proofs.YtpckiobjpikmlaaGreatDoor
open Go.RowKit Go.Shelf Go.Lib
structure LB (w : World) (lb : Nat) (e : Ent) : Prop where
 lst : ListAt w lb 0 e 0 0
 frozen : ∀ i, w.frozen? ⟨lb, i, none⟩ = false
 lt : lb < w.heap.size
theorem LB.keep {S : Nat → Prop} {w w' : World} {lb : Nat} {e : Ent} (h : LB w lb e) (ht : Touch S w w') (hs : ¬ S lb) : LB w' lb e :=
 ⟨h.lst.keep ht hs, fun i => (ht.frozen (p := ⟨lb, i, none⟩) h.lt hs).trans (h.frozen i), Nat.lt_of_lt_of_le h.lt ht.size⟩
theorem LB.set {w : World} {lb : Nat} {e : Ent} (h : LB w lb e) (k : Nat) (v : Value) (e' : Ent) (hk : k < 13) (hl : listL e' 0 0 = (listL e 0 0).set k v) : LB (w.setCell ⟨lb, k, none⟩ v) lb e' := by
 refine ⟨fun i hi => ?_, fun i => by rw [World.frozen?_setCell]; exact h.frozen i, by simpa using h.lt⟩
 have h1 := h.lst i hi
 have h2 := h.lst k hk
 rw [Nat.zero_add] at h1 h2 ⊢
 have hlen : (listL e 0 0).length = 13 := rfl
 rw [cell_set_if, hl, List.getElem?_set]
 by_cases hik : i = k
 ·subst hik
  have hex : (w.cell? ⟨lb, i, none⟩).isSome = true := by
   rw [h2, List.getElem?_eq_getElem (by omega)]; rfl
  have hex' := Option.isSome_iff_exists.1 hex
  simp [hlen, hi, hex']
 ·have hik' : ¬ k = i := fun e => hik e.symm
  simp [hik, hik', h1]
def ent0 : Ent := ⟨⟨#[]⟩, 0, 0, 0, 0, 0, 0, 0, 0, 0, ⟨#[]⟩⟩
theorem LB.new (w : World) : LB (w.alloc (Obj.cells #[.string ⟨#[]⟩, .int .i64 0, .int .u32 0, .int .i64 0, .int .i64 0, .int .i64 0, .int .i64 0, .int .i64 0, .int .i64 0, .int .i64 0, .string ⟨#[]⟩, .int .i64 0, .int .i64 0] 103)) w.heap.size ent0 := by
 have hb := heap_alloc_new w (Obj.cells #[.string ⟨#[]⟩, .int .i64 0, .int .u32 0, .int .i64 0, .int .i64 0, .int .i64 0, .int .i64 0, .int .i64 0, .int .i64 0, .int .i64 0, .string ⟨#[]⟩, .int .i64 0, .int .i64 0] 103)
 refine ⟨fun i hi => ?_, fun i => frozen_row hb i, by simp⟩
 rw [Nat.zero_add, row_cell hb i]; simp [listL, ent0]
def fitB (s : ByteArray) (E : Nat) (p : Option Nat) : Bool := (fldTo E p (46 + fldNum s E (fldTo E p 28) 2 + fldNum s E (fldTo E p 30) 2 + fldNum s E (fldTo E p 32) 2)).isSome && decide ((fldOf s E p 4).toList = [80, 75, 1, 2])
theorem takeListed_bad (w : World) (rb : Nat) (s : ByteArray) (E : Nat) (p : Option Nat) (hr : FR w rb s E p) (hs : s.size ≤ 140737488355328) (hbad : fitB s E p = false) :
  Calls Tryz.prog 34 #[.pointer (some ⟨rb, 0, none⟩)] w fun r w' => Touch (fun k => k = rb) w w' ∧ r = .returned (.tuple #[.agg #[.string ⟨#[]⟩, .int .i64 0, .int .u32 0, .int .i64 0, .int .i64 0, .int .i64 0, .int .i64 0, .int .i64 0, .int .i64 0, .int .i64 0, .string ⟨#[]⟩, .int .i64 0, .int .i64 0], .bool false]) := by
 have hE := hr.size
 have hrl := World.block_lt_of_cell? w _ hr.rest
 have hne : ¬ w.heap.size + 1 = rb := fun e => by have : rb < w.heap.size := hrl; omega
 have hne0 : ¬ w.heap.size = rb := fun e => by have : rb < w.heap.size := hrl; omega
 have HB : Hid (fitB s E p = false) := hbad
 have A0 := LB.new w
 have A1 := A0.keep ((Touch.refl (fun _ => False) _).alloc (Obj.cells #[.string ⟨#[]⟩, .int .i64 0, .int .u32 0, .int .i64 0, .int .i64 0, .int .i64 0, .int .i64 0, .int .i64 0, .int .i64 0, .int .i64 0, .string ⟨#[]⟩, .int .i64 0, .int .i64 0] 103)) (fun e => e)
 have B0 := LB.new (w.alloc (Obj.cells #[.string ⟨#[]⟩, .int .i64 0, .int .u32 0, .int .i64 0, .int .i64 0, .int .i64 0, .int .i64 0, .int .i64 0, .int .i64 0, .int .i64 0, .string ⟨#[]⟩, .int .i64 0, .int .i64 0] 103))
 rw [World.size_alloc] at B0
 have U0 : Touch (fun k => k = rb ∨ k = w.heap.size + 1) ((w.alloc (Obj.cells #[.string ⟨#[]⟩, .int .i64 0, .int .u32 0, .int .i64 0, .int .i64 0, .int .i64 0, .int .i64 0, .int .i64 0, .int .i64 0, .int .i64 0, .string ⟨#[]⟩, .int .i64 0, .int .i64 0] 103)).alloc (Obj.cells #[.string ⟨#[]⟩, .int .i64 0, .int .u32 0, .int .i64 0, .int .i64 0, .int .i64 0, .int .i64 0, .int .i64 0, .int .i64 0, .int .i64 0, .string ⟨#[]⟩, .int .i64 0, .int .i64 0] 103)) ((w.alloc (Obj.cells #[.string ⟨#[]⟩, .int .i64 0, .int .u32 0, .int .i64 0, .int .i64 0, .int .i64 0, .int .i64 0, .int .i64 0, .int .i64 0, .int .i64 0, .string ⟨#[]⟩, .int .i64 0, .int .i64 0] 103)).alloc (Obj.cells #[.string ⟨#[]⟩, .int .i64 0, .int .u32 0, .int .i64 0, .int .i64 0, .int .i64 0, .int .i64 0, .int .i64 0, .int .i64 0, .int .i64 0, .string ⟨#[]⟩, .int .i64 0, .int .i64 0] 103)) := Touch.refl _ _
 have HA : Hid (LB ((w.alloc (Obj.cells #[.string ⟨#[]⟩, .int .i64 0, .int .u32 0, .int .i64 0, .int .i64 0, .int .i64 0, .int .i64 0, .int .i64 0, .int .i64 0, .int .i64 0, .string ⟨#[]⟩, .int .i64 0, .int .i64 0] 103)).alloc (Obj.cells #[.string ⟨#[]⟩, .int .i64 0, .int .u32 0, .int .i64 0, .int .i64 0, .int .i64 0, .int .i64 0, .int .i64 0, .int .i64 0, .int .i64 0, .string ⟨#[]⟩, .int .i64 0, .int .i64 0] 103)) w.heap.size ent0) := A1
 have T0 : Touch (fun k => k = rb) w ((w.alloc (Obj.cells #[.string ⟨#[]⟩, .int .i64 0, .int .u32 0, .int .i64 0, .int .i64 0, .int .i64 0, .int .i64 0, .int .i64 0, .int .i64 0, .int .i64 0, .string ⟨#[]⟩, .int .i64 0, .int .i64 0] 103)).alloc (Obj.cells #[.string ⟨#[]⟩, .int .i64 0, .int .u32 0, .int .i64 0, .int .i64 0, .int .i64 0, .int .i64 0, .int .i64 0, .int .i64 0, .int .i64 0, .string ⟨#[]⟩, .int .i64 0, .int .i64 0] 103)) := ((Touch.refl _ w).alloc _).alloc _
 have f0 := (hr.keep ((Touch.refl (fun _ => False) w).alloc (Obj.cells #[.string ⟨#[]⟩, .int .i64 0, .int .u32 0, .int .i64 0, .int .i64 0, .int .i64 0, .int .i64 0, .int .i64 0, .int .i64 0, .int .i64 0, .string ⟨#[]⟩, .int .i64 0, .int .i64 0] 103)) (fun e => e)).keep ((Touch.refl (fun _ => False) _).alloc (Obj.cells #[.string ⟨#[]⟩, .int .i64 0, .int .u32 0, .int .i64 0, .int .i64 0, .int .i64 0, .int .i64 0, .int .i64 0, .int .i64 0, .int .i64 0, .string ⟨#[]⟩, .int .i64 0, .int .i64 0] 103)) (fun e => e)
 clear A0 A1
 have n1 := fldNum_lt s E (fldTo E p 28) 2 hE
 have n2 := fldNum_lt s E (fldTo E p 30) 2 hE
 have n3 := fldNum_lt s E (fldTo E p 32) 2 hE
 have hlb : w.heap.size ≤ w.heap.size + 1 := by omega
 clear hbad hr
 go_enter Tryz.func34, Tryz.ntmps34
 go_wp2_with fail
 refine (take_c _ _ s E _ 4 4 rfl (by omega) hs f0).mono ?_
 rintro r w1 ⟨rfl, f1, t1⟩
 have T1 := T0.trans t1
 have B1 := B0.keep t1 hne
 have U1 := U0.trans (t1.mono (fun k _ e => Or.inl e))
 clear t1 T0 f0 B0 U0
 go_wp2_with fail
 refine (fnumber_c _ _ s E _ 2 2 rfl (by omega) hs f1).mono ?_
 rintro r w2 ⟨rfl, f2, t2⟩
 rw [fldTo_add] at f2
 have T2 := T1.trans t2
 have B2 := B1.keep t2 hne
 have U2 := U1.trans (t2.mono (fun k _ e => Or.inl e))
 clear t2 T1 f1 B1 U1
 have c2_6 : w2.cell? ⟨w.heap.size + 1, 6, none⟩ = some (.int .i64 ((0 : Nat) : Int)) := B2.lst 6 (by omega)
 have z2_6 := B2.frozen 6
 have B2s := (B2.set 6 (.int .i64 (fldNum s E (fldTo E p 4) 2 : Nat)) { ent0 with maker := fldNum s E (fldTo E p 4) 2 } (by omega) rfl)
 have f2s := (f2.other (o := 6) (.int .i64 (fldNum s E (fldTo E p 4) 2 : Nat)) (fun e => hne e.symm))
 have T2s := (T2.setNew (p := ⟨w.heap.size + 1, 6, none⟩) hlb (.int .i64 (fldNum s E (fldTo E p 4) 2 : Nat)))
 have U2s := (U2.setCell (p := ⟨w.heap.size + 1, 6, none⟩) (Or.inr rfl) (.int .i64 (fldNum s E (fldTo E p 4) 2 : Nat)))
 clear B2 f2 T2 U2
 have B2 := B2s
 have f2 := f2s
 have T2 := T2s
 have U2 := U2s
 clear B2s f2s T2s U2s
 go_wp2_with fail
 refine (take_c _ _ s E _ 2 2 rfl (by omega) hs f2).mono ?_
 rintro r w3 ⟨rfl, f3, t3⟩
 rw [fldTo_add] at f3
 have T3 := T2.trans t3
 have B3 := B2.keep t3 hne
 have U3 := U2.trans (t3.mono (fun k _ e => Or.inl e))
 clear t3 T2 f2 B2 U2
 clear c2_6 z2_6
 go_wp2_with fail
 refine (fnumber_c _ _ s E _ 2 2 rfl (by omega) hs f3).mono ?_
 rintro r w4 ⟨rfl, f4, t4⟩
 rw [fldTo_add] at f4
 have T4 := T3.trans t4
 have B4 := B3.keep t4 hne
 have U4 := U3.trans (t4.mono (fun k _ e => Or.inl e))
 clear t4 T3 f3 B3 U3
 go_wp2_with fail
 refine (fnumber_c _ _ s E _ 2 2 rfl (by omega) hs f4).mono ?_
 rintro r w5 ⟨rfl, f5, t5⟩
 rw [fldTo_add] at f5
 have T5 := T4.trans t5
 have B5 := B4.keep t5 hne
 have U5 := U4.trans (t5.mono (fun k _ e => Or.inl e))
 clear t5 T4 f4 B4 U4
 have c5_7 : w5.cell? ⟨w.heap.size + 1, 7, none⟩ = some (.int .i64 ((0 : Nat) : Int)) := B5.lst 7 (by omega)
 have z5_7 := B5.frozen 7
 have c5_1 : w5.cell? ⟨w.heap.size + 1, 1, none⟩ = some (.int .i64 ((0 : Nat) : Int)) := B5.lst 1 (by omega)
 have z5_1 := B5.frozen 1
 have B5s := ((B5.set 7 (.int .i64 (fldNum s E (fldTo E p 8) 2 : Nat)) { { ent0 with maker := fldNum s E (fldTo E p 4) 2 } with flags := fldNum s E (fldTo E p 8) 2 } (by omega) rfl).set 1 (.int .i64 (fldNum s E (fldTo E p 10) 2 : Nat)) { { { ent0 with maker := fldNum s E (fldTo E p 4) 2 } with flags := fldNum s E (fldTo E p 8) 2 } with method := fldNum s E (fldTo E p 10) 2 } (by omega) rfl)
 have f5s := ((f5.other (o := 7) (.int .i64 (fldNum s E (fldTo E p 8) 2 : Nat)) (fun e => hne e.symm)).other (o := 1) (.int .i64 (fldNum s E (fldTo E p 10) 2 : Nat)) (fun e => hne e.symm))
 have T5s := ((T5.setNew (p := ⟨w.heap.size + 1, 7, none⟩) hlb (.int .i64 (fldNum s E (fldTo E p 8) 2 : Nat))).setNew (p := ⟨w.heap.size + 1, 1, none⟩) hlb (.int .i64 (fldNum s E (fldTo E p 10) 2 : Nat)))
 have U5s := ((U5.setCell (p := ⟨w.heap.size + 1, 7, none⟩) (Or.inr rfl) (.int .i64 (fldNum s E (fldTo E p 8) 2 : Nat))).setCell (p := ⟨w.heap.size + 1, 1, none⟩) (Or.inr rfl) (.int .i64 (fldNum s E (fldTo E p 10) 2 : Nat)))
 clear B5 f5 T5 U5
 have B5 := B5s
 have f5 := f5s
 have T5 := T5s
 have U5 := U5s
 clear B5s f5s T5s U5s
 go_wp2_with fail
 refine (take_c _ _ s E _ 4 4 rfl (by omega) hs f5).mono ?_
 rintro r w6 ⟨rfl, f6, t6⟩
 rw [fldTo_add] at f6
 have T6 := T5.trans t6
 have B6 := B5.keep t6 hne
 have U6 := U5.trans (t6.mono (fun k _ e => Or.inl e))
 clear t6 T5 f5 B5 U5
 clear c5_7 z5_7
 clear c5_1 z5_1
 go_wp2_with fail
 refine (take_c _ _ s E _ 12 12 rfl (by omega) hs f6).mono ?_
 rintro r w7 ⟨rfl, f7, t7⟩
 rw [fldTo_add] at f7
 have T7 := T6.trans t7
 have B7 := B6.keep t7 hne
 have U7 := U6.trans (t7.mono (fun k _ e => Or.inl e))
 clear t7 T6 f6 B6 U6
 have c7_10 : w7.cell? ⟨w.heap.size + 1, 10, none⟩ = some (.string ⟨#[]⟩) := B7.lst 10 (by omega)
 have z7_10 := B7.frozen 10
 have B7s := (B7.set 10 (.string (fldOf s E (fldTo E p 16) 12)) { { { { ent0 with maker := fldNum s E (fldTo E p 4) 2 } with flags := fldNum s E (fldTo E p 8) 2 } with method := fldNum s E (fldTo E p 10) 2 } with three := fldOf s E (fldTo E p 16) 12 } (by omega) rfl)
 have f7s := (f7.other (o := 10) (.string (fldOf s E (fldTo E p 16) 12)) (fun e => hne e.symm))
 have T7s := (T7.setNew (p := ⟨w.heap.size + 1, 10, none⟩) hlb (.string (fldOf s E (fldTo E p 16) 12)))
 have U7s := (U7.setCell (p := ⟨w.heap.size + 1, 10, none⟩) (Or.inr rfl) (.string (fldOf s E (fldTo E p 16) 12)))
 clear B7 f7 T7 U7
 have B7 := B7s
 have f7 := f7s
 have T7 := T7s
 have U7 := U7s
 clear B7s f7s T7s U7s
 go_wp2_with fail
 refine (fnumber_c _ _ s E _ 2 2 rfl (by omega) hs f7).mono ?_
 rintro r w8 ⟨rfl, f8, t8⟩
 rw [fldTo_add] at f8
 have T8 := T7.trans t8
 have B8 := B7.keep t8 hne
 have U8 := U7.trans (t8.mono (fun k _ e => Or.inl e))
 clear t8 T7 f7 B7 U7
 clear c7_10 z7_10
 go_wp2_with fail
 refine (fnumber_c _ _ s E _ 2 2 rfl (by omega) hs f8).mono ?_
 rintro r w9 ⟨rfl, f9, t9⟩
 rw [fldTo_add] at f9
 have T9 := T8.trans t9
 have B9 := B8.keep t9 hne
 have U9 := U8.trans (t9.mono (fun k _ e => Or.inl e))
 clear t9 T8 f8 B8 U8
 go_wp2_with fail
 refine (fnumber_c _ _ s E _ 2 2 rfl (by omega) hs f9).mono ?_
 rintro r w10 ⟨rfl, f10, t10⟩
 rw [fldTo_add] at f10
 have T10 := T9.trans t10
 have B10 := B9.keep t10 hne
 have U10 := U9.trans (t10.mono (fun k _ e => Or.inl e))
 clear t10 T9 f9 B9 U9
 go_wp2_with fail
 refine (fnumber_c _ _ s E _ 2 2 rfl (by omega) hs f10).mono ?_
 rintro r w11 ⟨rfl, f11, t11⟩
 rw [fldTo_add] at f11
 have T11 := T10.trans t11
 have B11 := B10.keep t11 hne
 have U11 := U10.trans (t11.mono (fun k _ e => Or.inl e))
 clear t11 T10 f10 B10 U10
 have c11_8 : w11.cell? ⟨w.heap.size + 1, 8, none⟩ = some (.int .i64 ((0 : Nat) : Int)) := B11.lst 8 (by omega)
 have z11_8 := B11.frozen 8
 have B11s := (B11.set 8 (.int .i64 (fldNum s E (fldTo E p 34) 2 : Nat)) { { { { { ent0 with maker := fldNum s E (fldTo E p 4) 2 } with flags := fldNum s E (fldTo E p 8) 2 } with method := fldNum s E (fldTo E p 10) 2 } with three := fldOf s E (fldTo E p 16) 12 } with disk := fldNum s E (fldTo E p 34) 2 } (by omega) rfl)
 have f11s := (f11.other (o := 8) (.int .i64 (fldNum s E (fldTo E p 34) 2 : Nat)) (fun e => hne e.symm))
 have T11s := (T11.setNew (p := ⟨w.heap.size + 1, 8, none⟩) hlb (.int .i64 (fldNum s E (fldTo E p 34) 2 : Nat)))
 have U11s := (U11.setCell (p := ⟨w.heap.size + 1, 8, none⟩) (Or.inr rfl) (.int .i64 (fldNum s E (fldTo E p 34) 2 : Nat)))
 clear B11 f11 T11 U11
 have B11 := B11s
 have f11 := f11s
 have T11 := T11s
 have U11 := U11s
 clear B11s f11s T11s U11s
 go_wp2_with fail
 refine (take_c _ _ s E _ 2 2 rfl (by omega) hs f11).mono ?_
 rintro r w12 ⟨rfl, f12, t12⟩
 rw [fldTo_add] at f12
 have T12 := T11.trans t12
 have B12 := B11.keep t12 hne
 have U12 := U11.trans (t12.mono (fun k _ e => Or.inl e))
 clear t12 T11 f11 B11 U11
 clear c11_8 z11_8
 go_wp2_with fail
 refine (fnumber_c _ _ s E _ 4 4 rfl (by omega) hs f12).mono ?_
 rintro r w13 ⟨rfl, f13, t13⟩
 rw [fldTo_add] at f13
 have T13 := T12.trans t13
 have B13 := B12.keep t13 hne
 have U13 := U12.trans (t13.mono (fun k _ e => Or.inl e))
 clear t13 T12 f12 B12 U12
 go_wp2_with fail
 refine (fnumber_c _ _ s E _ 4 4 rfl (by omega) hs f13).mono ?_
 rintro r w14 ⟨rfl, f14, t14⟩
 rw [fldTo_add] at f14
 have T14 := T13.trans t14
 have B14 := B13.keep t14 hne
 have U14 := U13.trans (t14.mono (fun k _ e => Or.inl e))
 clear t14 T13 f13 B13 U13
 have c14_9 : w14.cell? ⟨w.heap.size + 1, 9, none⟩ = some (.int .i64 ((0 : Nat) : Int)) := B14.lst 9 (by omega)
 have z14_9 := B14.frozen 9
 have c14_11 : w14.cell? ⟨w.heap.size + 1, 11, none⟩ = some (.int .i64 ((0 : Nat) : Int)) := B14.lst 11 (by omega)
 have z14_11 := B14.frozen 11
 have B14s := ((B14.set 9 (.int .i64 (fldNum s E (fldTo E p 38) 4 : Nat)) { { { { { { ent0 with maker := fldNum s E (fldTo E p 4) 2 } with flags := fldNum s E (fldTo E p 8) 2 } with method := fldNum s E (fldTo E p 10) 2 } with three := fldOf s E (fldTo E p 16) 12 } with disk := fldNum s E (fldTo E p 34) 2 } with outer := fldNum s E (fldTo E p 38) 4 } (by omega) rfl).set 11 (.int .i64 (fldNum s E (fldTo E p 42) 4 : Nat)) { { { { { { { ent0 with maker := fldNum s E (fldTo E p 4) 2 } with flags := fldNum s E (fldTo E p 8) 2 } with method := fldNum s E (fldTo E p 10) 2 } with three := fldOf s E (fldTo E p 16) 12 } with disk := fldNum s E (fldTo E p 34) 2 } with outer := fldNum s E (fldTo E p 38) 4 } with ahead := fldNum s E (fldTo E p 42) 4 } (by omega) rfl)
 have f14s := ((f14.other (o := 9) (.int .i64 (fldNum s E (fldTo E p 38) 4 : Nat)) (fun e => hne e.symm)).other (o := 11) (.int .i64 (fldNum s E (fldTo E p 42) 4 : Nat)) (fun e => hne e.symm))
 have T14s := ((T14.setNew (p := ⟨w.heap.size + 1, 9, none⟩) hlb (.int .i64 (fldNum s E (fldTo E p 38) 4 : Nat))).setNew (p := ⟨w.heap.size + 1, 11, none⟩) hlb (.int .i64 (fldNum s E (fldTo E p 42) 4 : Nat)))
 have U14s := ((U14.setCell (p := ⟨w.heap.size + 1, 9, none⟩) (Or.inr rfl) (.int .i64 (fldNum s E (fldTo E p 38) 4 : Nat))).setCell (p := ⟨w.heap.size + 1, 11, none⟩) (Or.inr rfl) (.int .i64 (fldNum s E (fldTo E p 42) 4 : Nat)))
 clear B14 f14 T14 U14
 have B14 := B14s
 have f14 := f14s
 have T14 := T14s
 have U14 := U14s
 clear B14s f14s T14s U14s
 go_wp2_with fail
 refine (take_c _ _ s E _ _ _ rfl (by omega) hs f14).mono ?_
 rintro r w15 ⟨rfl, f15, t15⟩
 rw [fldTo_add] at f15
 have T15 := T14.trans t15
 have B15 := B14.keep t15 hne
 have U15 := U14.trans (t15.mono (fun k _ e => Or.inl e))
 clear t15 T14 f14 B14 U14
 clear c14_9 z14_9
 clear c14_11 z14_11
 have c15_0 : w15.cell? ⟨w.heap.size + 1, 0, none⟩ = some (.string ⟨#[]⟩) := B15.lst 0 (by omega)
 have z15_0 := B15.frozen 0
 have B15s := (B15.set 0 (.string (fldOf s E (fldTo E p 46) (fldNum s E (fldTo E p 28) 2))) { { { { { { { { ent0 with maker := fldNum s E (fldTo E p 4) 2 } with flags := fldNum s E (fldTo E p 8) 2 } with method := fldNum s E (fldTo E p 10) 2 } with three := fldOf s E (fldTo E p 16) 12 } with disk := fldNum s E (fldTo E p 34) 2 } with outer := fldNum s E (fldTo E p 38) 4 } with ahead := fldNum s E (fldTo E p 42) 4 } with name := fldOf s E (fldTo E p 46) (fldNum s E (fldTo E p 28) 2) } (by omega) rfl)
 have f15s := (f15.other (o := 0) (.string (fldOf s E (fldTo E p 46) (fldNum s E (fldTo E p 28) 2))) (fun e => hne e.symm))
 have T15s := (T15.setNew (p := ⟨w.heap.size + 1, 0, none⟩) hlb (.string (fldOf s E (fldTo E p 46) (fldNum s E (fldTo E p 28) 2))))
 have U15s := (U15.setCell (p := ⟨w.heap.size + 1, 0, none⟩) (Or.inr rfl) (.string (fldOf s E (fldTo E p 46) (fldNum s E (fldTo E p 28) 2))))
 clear B15 f15 T15 U15
 have B15 := B15s
 have f15 := f15s
 have T15 := T15s
 have U15 := U15s
 clear B15s f15s T15s U15s
 go_wp2_with fail
 refine (take_c _ _ s E _ _ _ rfl (by omega) hs f15).mono ?_
 rintro r w16 ⟨rfl, f16, t16⟩
 rw [fldTo_add] at f16
 have T16 := T15.trans t16
 have B16 := B15.keep t16 hne
 have U16 := U15.trans (t16.mono (fun k _ e => Or.inl e))
 clear t16 T15 f15 B15 U15
 clear c15_0 z15_0
 go_wp2_with fail
 refine (take_c _ _ s E _ _ _ rfl (by omega) hs f16).mono ?_
 rintro r w17 ⟨rfl, f17, t17⟩
 rw [fldTo_add] at f17
 have T17 := T16.trans t17
 have B17 := B16.keep t17 hne
 have U17 := U16.trans (t17.mono (fun k _ e => Or.inl e))
 clear t17 T16 f16 B16 U16
 have AW := HA.out.keep U17 (fun e => by rcases e with e | e <;> omega)
 have r1 := f17.short
 have a0 : w17.cell? ⟨w.heap.size, 0, none⟩ = some (.string ⟨#[]⟩) := AW.lst 0 (by omega)
 have y0 := AW.frozen 0
 have es0 := setCell_self w17 w.heap.size 0 _ a0
 have a1 : w17.cell? ⟨w.heap.size, 1, none⟩ = some (.int .i64 0) := AW.lst 1 (by omega)
 have y1 := AW.frozen 1
 have es1 := setCell_self w17 w.heap.size 1 _ a1
 have a2 : w17.cell? ⟨w.heap.size, 2, none⟩ = some (.int .u32 0) := AW.lst 2 (by omega)
 have y2 := AW.frozen 2
 have es2 := setCell_self w17 w.heap.size 2 _ a2
 have a3 : w17.cell? ⟨w.heap.size, 3, none⟩ = some (.int .i64 0) := AW.lst 3 (by omega)
 have y3 := AW.frozen 3
 have es3 := setCell_self w17 w.heap.size 3 _ a3
 have a4 : w17.cell? ⟨w.heap.size, 4, none⟩ = some (.int .i64 0) := AW.lst 4 (by omega)
 have y4 := AW.frozen 4
 have es4 := setCell_self w17 w.heap.size 4 _ a4
 have a5 : w17.cell? ⟨w.heap.size, 5, none⟩ = some (.int .i64 0) := AW.lst 5 (by omega)
 have y5 := AW.frozen 5
 have es5 := setCell_self w17 w.heap.size 5 _ a5
 have a6 : w17.cell? ⟨w.heap.size, 6, none⟩ = some (.int .i64 0) := AW.lst 6 (by omega)
 have y6 := AW.frozen 6
 have es6 := setCell_self w17 w.heap.size 6 _ a6
 have a7 : w17.cell? ⟨w.heap.size, 7, none⟩ = some (.int .i64 0) := AW.lst 7 (by omega)
 have y7 := AW.frozen 7
 have es7 := setCell_self w17 w.heap.size 7 _ a7
 have a8 : w17.cell? ⟨w.heap.size, 8, none⟩ = some (.int .i64 0) := AW.lst 8 (by omega)
 have y8 := AW.frozen 8
 have es8 := setCell_self w17 w.heap.size 8 _ a8
 have a9 : w17.cell? ⟨w.heap.size, 9, none⟩ = some (.int .i64 0) := AW.lst 9 (by omega)
 have y9 := AW.frozen 9
 have es9 := setCell_self w17 w.heap.size 9 _ a9
 have a10 : w17.cell? ⟨w.heap.size, 10, none⟩ = some (.string ⟨#[]⟩) := AW.lst 10 (by omega)
 have y10 := AW.frozen 10
 have es10 := setCell_self w17 w.heap.size 10 _ a10
 have a11 : w17.cell? ⟨w.heap.size, 11, none⟩ = some (.int .i64 0) := AW.lst 11 (by omega)
 have y11 := AW.frozen 11
 have es11 := setCell_self w17 w.heap.size 11 _ a11
 have a12 : w17.cell? ⟨w.heap.size, 12, none⟩ = some (.int .i64 0) := AW.lst 12 (by omega)
 have y12 := AW.frozen 12
 have es12 := setCell_self w17 w.heap.size 12 _ a12
 have HS : Hid ((fldTo E p (46 + fldNum s E (fldTo E p 28) 2 + fldNum s E (fldTo E p 30) 2 + fldNum s E (fldTo E p 32) 2)).isNone = true ∨ ((fldTo E p (46 + fldNum s E (fldTo E p 28) 2 + fldNum s E (fldTo E p 30) 2 + fldNum s E (fldTo E p 32) 2)).isNone = false ∧ ((fldOf s E p 4).toList == [80, 75, 1, 2]) = false)) := by
  have := HB.out
  unfold fitB at this
  cases hh : fldTo E p (46 + fldNum s E (fldTo E p 28) 2 + fldNum s E (fldTo E p 30) 2 + fldNum s E (fldTo E p 32) 2) with
  | none => exact .inl rfl
  | some q => rw [hh] at this; exact .inr ⟨rfl, by simpa using this⟩
 clear HB HA AW f17 B17 U17
 rcases HS.out with h1 | ⟨h1, h2⟩
 ·rw [h1] at r1
  clear HS
  go_wp2
  refine bodyPost_ret (v := .tuple #[.agg #[.string ⟨#[]⟩, .int .i64 0, .int .u32 0, .int .i64 0, .int .i64 0, .int .i64 0, .int .i64 0, .int .i64 0, .int .i64 0, .int .i64 0, .string ⟨#[]⟩, .int .i64 0, .int .i64 0], .bool false]) (by simp [results, Tryz.results34, go_sem, a0, a1, a2, a3, a4, a5, a6, a7, a8, a9, a10, a11, a12]) rfl ⟨T17, rfl⟩
 ·rw [h1] at r1
  clear HS
  go_wp2
  refine bodyPost_ret (v := .tuple #[.agg #[.string ⟨#[]⟩, .int .i64 0, .int .u32 0, .int .i64 0, .int .i64 0, .int .i64 0, .int .i64 0, .int .i64 0, .int .i64 0, .int .i64 0, .string ⟨#[]⟩, .int .i64 0, .int .i64 0], .bool false]) (by simp [results, Tryz.results34, go_sem, a0, a1, a2, a3, a4, a5, a6, a7, a8, a9, a10, a11, a12]) rfl ⟨T17, rfl⟩
end Go.Proofs.YtpckiobjpikmlaaGreatDoor
namespace Go.Proofs.YtpckiobjpikmlaaGreatDoor
open Go.RowKit
theorem fldTo_in (E p k : Nat) (h : p + k ≤ E) : fldTo E (some p) k = some (p + k) := by simp [fldTo, h]
theorem fldTo_out (E p k : Nat) (h : ¬ p + k ≤ E) : fldTo E (some p) k = none := by simp [fldTo, h]
theorem fldOf_in (s : ByteArray) (E p k m : Nat) (h : p + k + m ≤ E) : fldOf s E (fldTo E (some p) k) m = s.extract (p + k) (p + k + m) := by
 unfold fldOf; rw [fldTo_add, fldTo_in E p (k + m) (by omega)]; simp only; congr 1 <;> omega
theorem fldNum_in (s : ByteArray) (E p k m : Nat) (hE : E ≤ s.size) (h : p + k + m ≤ E) : fldNum s E (fldTo E (some p) k) m = numIn s (p + k) m := by
 rw [fldTo_in E p k (by omega)]; exact fldNum_some s E _ m hE h
theorem fldOf_zero (s : ByteArray) (E p m : Nat) (h : p + m ≤ E) : fldOf s E (some p) m = s.extract p (p + m) := by
 have := fldOf_in s E p 0 m (by omega)
 rw [fldTo_in E p 0 (by omega)] at this; exact this
@[reducible] def FitP (s : ByteArray) (E p : Nat) : Prop := p + 46 ≤ E ∧ p + 46 + numIn s (p + 28) 2 + numIn s (p + 30) 2 + numIn s (p + 32) 2 ≤ E ∧ markB s p 1 2 = true
theorem fit_iff (s : ByteArray) (E p : Nat) (hE : E ≤ s.size) : fitB s E (some p) = true ↔ FitP s E p := by
 unfold fitB FitP
 by_cases h46 : p + 46 ≤ E
 ·rw [fldNum_in s E p 28 2 hE (by omega), fldNum_in s E p 30 2 hE (by omega), fldNum_in s E p 32 2 hE (by omega), fldOf_zero s E p 4 (by omega)]
  have e : (decide ((s.extract p (p + 4)).toList = [80, 75, 1, 2])) = markB s p 1 2 := rfl
  rw [e]
  by_cases hf : p + 46 + numIn s (p + 28) 2 + numIn s (p + 30) 2 + numIn s (p + 32) 2 ≤ E
  ·rw [fldTo_in E p _ (by omega)]
   simp [h46, hf]
  ·rw [fldTo_out E p _ (by omega)]
   simp [hf]
 ·rw [fldTo_out E p _ (by omega)]
  simp [h46]
theorem entAt_none (s : ByteArray) (E p : Nat) (h : ¬ FitP s E p) : entAt s E p = none := by
 unfold entAt
 simp only
 rw [if_neg (show ¬ (_ ∧ _ ∧ _) from h)]
theorem entAt_fit (s : ByteArray) (E p : Nat) (h : FitP s E p) (cur : Nat → Nat) (h0 : cur 0 = numIn s (p + 24) 4) (h1 : cur 1 = numIn s (p + 20) 4) (h2 : cur 2 = numIn s (p + 42) 4) :
  entAt s E p = ((wideGo s (p + 46 + numIn s (p + 28) 2 + numIn s (p + 30) 2) (numIn s (p + 30) 2 + 1) (p + 46 + numIn s (p + 28) 2) none).bind fun fo => mGo s (fo.getD (0, 0)).2 3 0 (fo.getD (0, 0)).1 cur).map fun d =>
   (⟨s.extract (p + 46) (p + 46 + numIn s (p + 28) 2), numIn s (p + 10) 2, numIn s (p + 16) 4, d 1, d 0, d 2, numIn s (p + 4) 2, numIn s (p + 8) 2, numIn s (p + 34) 2, numIn s (p + 38) 4, s.extract (p + 16) (p + 28)⟩, p + 46 + numIn s (p + 28) 2 + numIn s (p + 30) 2 + numIn s (p + 32) 2) := by
 unfold entAt
 simp only
 rw [if_pos (show _ ∧ _ ∧ _ from h)]
 cases wideGo s (p + 46 + numIn s (p + 28) 2 + numIn s (p + 30) 2) (numIn s (p + 30) 2 + 1) (p + 46 + numIn s (p + 28) 2) none with
 | none => rfl
 | some fo =>
  simp only [Option.bind_some]
  rw [mGo_all s (fo.getD (0, 0)).1 (fo.getD (0, 0)).2 _ _ _ cur h0 h1 h2]
  cases mGo s (fo.getD (0, 0)).2 3 0 (fo.getD (0, 0)).1 cur with
  | none => rfl
  | some d => rfl
theorem fields_fit (s : ByteArray) (E p : Nat) (hE : E ≤ s.size) (h : FitP s E p) :
  fldNum s E (fldTo E (some p) 4) 2 = numIn s (p + 4) 2 ∧ fldNum s E (fldTo E (some p) 8) 2 = numIn s (p + 8) 2 ∧ fldNum s E (fldTo E (some p) 10) 2 = numIn s (p + 10) 2
   ∧ fldOf s E (fldTo E (some p) 16) 12 = s.extract (p + 16) (p + 28) ∧ fldNum s E (fldTo E (some p) 28) 2 = numIn s (p + 28) 2 ∧ fldNum s E (fldTo E (some p) 30) 2 = numIn s (p + 30) 2
   ∧ fldNum s E (fldTo E (some p) 32) 2 = numIn s (p + 32) 2 ∧ fldNum s E (fldTo E (some p) 34) 2 = numIn s (p + 34) 2 ∧ fldNum s E (fldTo E (some p) 38) 4 = numIn s (p + 38) 4
   ∧ fldNum s E (fldTo E (some p) 42) 4 = numIn s (p + 42) 4 ∧ fldOf s E (fldTo E (some p) 46) (numIn s (p + 28) 2) = s.extract (p + 46) (p + 46 + numIn s (p + 28) 2)
   ∧ fldOf s E (fldTo E (some p) (46 + numIn s (p + 28) 2)) (numIn s (p + 30) 2) = s.extract (p + 46 + numIn s (p + 28) 2) (p + 46 + numIn s (p + 28) 2 + numIn s (p + 30) 2)
   ∧ fldTo E (some p) (46 + numIn s (p + 28) 2 + numIn s (p + 30) 2 + numIn s (p + 32) 2) = some (p + 46 + numIn s (p + 28) 2 + numIn s (p + 30) 2 + numIn s (p + 32) 2)
   ∧ (fldOf s E (some p) 4).toList = [80, 75, 1, 2] := by
 obtain ⟨a, b, c⟩ := h
 refine ⟨fldNum_in s E p 4 2 hE (by omega), fldNum_in s E p 8 2 hE (by omega), fldNum_in s E p 10 2 hE (by omega), fldOf_in s E p 16 12 (by omega), fldNum_in s E p 28 2 hE (by omega), fldNum_in s E p 30 2 hE (by omega), fldNum_in s E p 32 2 hE (by omega), fldNum_in s E p 34 2 hE (by omega), fldNum_in s E p 38 4 hE (by omega), fldNum_in s E p 42 4 hE (by omega), fldOf_in s E p 46 _ (by omega), ?_, ?_, ?_⟩
 ·rw [fldOf_in s E p (46 + numIn s (p + 28) 2) _ (by omega)]; congr 1 <;> omega
 ·rw [fldTo_in E p _ (by omega)]; congr 1; omega
 ·rw [fldOf_zero s E p 4 (by omega)]; unfold markB at c; simpa using c
theorem listed_bad (s : ByteArray) (E rb p : Nat) (hE : E ≤ s.size) (h : fitB s E (some p) = false) (w' : World) : listedPost s E rb p (.returned (.tuple #[.agg #[.string ⟨#[]⟩, .int .i64 0, .int .u32 0, .int .i64 0, .int .i64 0, .int .i64 0, .int .i64 0, .int .i64 0, .int .i64 0, .int .i64 0, .string ⟨#[]⟩, .int .i64 0, .int .i64 0], .bool false])) w' := by
 unfold listedPost
 rw [entAt_none s E p (fun hf => by rw [(fit_iff s E p hE).2 hf] at h; cases h)]
 exact ⟨ent0, 0, 0, rfl⟩
end Go.Proofs.YtpckiobjpikmlaaGreatDoor
namespace Go.Proofs.YtpckiobjpikmlaaGreatDoor
open Go.RowKit
theorem refMark_pre (s : ByteArray) (E a : Nat) (x y : UInt8) (hE : E ≤ s.size) : refMark (s.extract 0 E) (a : Int) x y = (decide (a + 4 ≤ E) && markB s a x y) := by
 have hz : (s.extract 0 E).size = E := by rw [ByteArray.size_extract]; omega
 by_cases h : a + 4 ≤ E
 ·rw [refMark_in _ _ a x y rfl (by omega), decide_eq_true h, Bool.true_and]
  unfold markB
  rw [extract_extract s 0 E a (a + 4) hE (by omega)]
  simp only [Nat.zero_add]
 ·rw [refMark_out _ _ x y (by omega), decide_eq_false h]; rfl
def rN (y : ByteArray) (v i : Nat) : Int := if v = 4294967295 then refNum y (i : Int) 8 else (v : Int)
def rI (v i : Nat) : Nat := if v = 4294967295 then i + 8 else i
def rBad (z k a : Int) : Bool := decide (z < 0) || decide (k < 0) || decide (a < 0) || decide (1099511627776 < z) || decide (1099511627776 < k) || decide (1099511627776 < a)
theorem rBad_false (z k a : Int) : rBad z k a = false ↔ (0 ≤ z ∧ z ≤ 1099511627776) ∧ (0 ≤ k ∧ k ≤ 1099511627776) ∧ (0 ≤ a ∧ a ≤ 1099511627776) := by
 unfold rBad
 simp only [Bool.or_eq_false_iff, decide_eq_false_iff_not]
 omega
theorem meant_ref (s : ByteArray) (c e v i : Nat) (he : e ≤ s.size) (hc : c ≤ e) (hv : v < 4294967296) :
  meant s e (c + i) v = if 0 ≤ rN (s.extract c e) v i ∧ rN (s.extract c e) v i ≤ 1099511627776 then some ((rN (s.extract c e) v i).toNat, c + rI v i) else none := by
 have hz : (s.extract c e).size = e - c := by rw [ByteArray.size_extract]; omega
 unfold meant rN rI
 by_cases h : v = 4294967295
 ·rw [if_pos h, if_pos h, if_pos h]
  by_cases h8 : c + i + 8 ≤ e
  ·rw [refNum_in _ i 8 (by omega), numIn_extract s c e i 8 he (by omega)]
   by_cases hb : numIn s (c + i) 8 ≤ 1099511627776
   ·rw [if_pos ⟨h8, hb⟩, if_pos ⟨by omega, by omega⟩]; rfl
   ·rw [if_neg (by omega), if_neg (by omega)]
  ·rw [refNum_out _ _ 8 (by omega), if_neg (by omega), if_neg (by omega)]
 ·rw [if_neg h, if_neg h, if_neg h, if_pos ⟨by omega, by omega⟩]; rfl
theorem meantAll_ref (s : ByteArray) (c e z k a : Nat) (he : e ≤ s.size) (hc : c ≤ e) (hz : z < 4294967296) (hk : k < 4294967296) (ha : a < 4294967296) :
  meantAll s c e z k a = if rBad (rN (s.extract c e) z 0) (rN (s.extract c e) k (rI z 0)) (rN (s.extract c e) a (rI k (rI z 0))) then none
   else some ((rN (s.extract c e) z 0).toNat, (rN (s.extract c e) k (rI z 0)).toNat, (rN (s.extract c e) a (rI k (rI z 0))).toNat) := by
 unfold meantAll
 have h1 := meant_ref s c e z 0 he hc hz
 rw [Nat.add_zero] at h1
 rw [h1]
 by_cases g1 : 0 ≤ rN (s.extract c e) z 0 ∧ rN (s.extract c e) z 0 ≤ 1099511627776
 ·rw [if_pos g1, Option.bind_some]
  simp only
  rw [meant_ref s c e k (rI z 0) he hc hk]
  by_cases g2 : 0 ≤ rN (s.extract c e) k (rI z 0) ∧ rN (s.extract c e) k (rI z 0) ≤ 1099511627776
  ·rw [if_pos g2, Option.bind_some]
   simp only
   rw [meant_ref s c e a (rI k (rI z 0)) he hc ha]
   by_cases g3 : 0 ≤ rN (s.extract c e) a (rI k (rI z 0)) ∧ rN (s.extract c e) a (rI k (rI z 0)) ≤ 1099511627776
   ·rw [if_pos g3, Option.bind_some, (rBad_false _ _ _).2 ⟨g1, g2, g3⟩]; rfl
   ·rw [if_neg g3, if_pos]
    ·rfl
    ·cases hb : rBad (rN (s.extract c e) z 0) (rN (s.extract c e) k (rI z 0)) (rN (s.extract c e) a (rI k (rI z 0))) with
     | true => rfl
     | false => exact absurd ((rBad_false _ _ _).1 hb).2.2 g3
  ·rw [if_neg g2, if_pos]
   ·rfl
   ·cases hb : rBad (rN (s.extract c e) z 0) (rN (s.extract c e) k (rI z 0)) (rN (s.extract c e) a (rI k (rI z 0))) with
    | true => rfl
    | false => exact absurd ((rBad_false _ _ _).1 hb).2.1 g2
 ·rw [if_neg g1, if_pos]
  ·rfl
  ·cases hb : rBad (rN (s.extract c e) z 0) (rN (s.extract c e) k (rI z 0)) (rN (s.extract c e) a (rI k (rI z 0))) with
   | true => rfl
   | false => exact absurd ((rBad_false _ _ _).1 hb).1 g1
theorem entAt_ref (s : ByteArray) (E p : Nat) (hE : E ≤ s.size) (h : FitP s E p) :
  (wideGo (s.extract (p + 46 + numIn s (p + 28) 2) (p + 46 + numIn s (p + 28) 2 + numIn s (p + 30) 2)) (s.extract (p + 46 + numIn s (p + 28) 2) (p + 46 + numIn s (p + 28) 2 + numIn s (p + 30) 2)).size (numIn s (p + 30) 2 + 1) 0 none = none → entAt s E p = none)
  ∧ ∀ f, wideGo (s.extract (p + 46 + numIn s (p + 28) 2) (p + 46 + numIn s (p + 28) 2 + numIn s (p + 30) 2)) (s.extract (p + 46 + numIn s (p + 28) 2) (p + 46 + numIn s (p + 28) 2 + numIn s (p + 30) 2)).size (numIn s (p + 30) 2 + 1) 0 none = some f →
   ∀ y, y = wideBytes (s.extract (p + 46 + numIn s (p + 28) 2) (p + 46 + numIn s (p + 28) 2 + numIn s (p + 30) 2)) f →
   entAt s E p = if rBad (rN y (numIn s (p + 24) 4) 0) (rN y (numIn s (p + 20) 4) (rI (numIn s (p + 24) 4) 0)) (rN y (numIn s (p + 42) 4) (rI (numIn s (p + 20) 4) (rI (numIn s (p + 24) 4) 0))) then none
    else some (⟨s.extract (p + 46) (p + 46 + numIn s (p + 28) 2), numIn s (p + 10) 2, numIn s (p + 16) 4, (rN y (numIn s (p + 20) 4) (rI (numIn s (p + 24) 4) 0)).toNat, (rN y (numIn s (p + 24) 4) 0).toNat, (rN y (numIn s (p + 42) 4) (rI (numIn s (p + 20) 4) (rI (numIn s (p + 24) 4) 0))).toNat, numIn s (p + 4) 2, numIn s (p + 8) 2, numIn s (p + 34) 2, numIn s (p + 38) 4, s.extract (p + 16) (p + 28)⟩, p + 46 + numIn s (p + 28) 2 + numIn s (p + 30) 2 + numIn s (p + 32) 2) := by
 obtain ⟨c, hc⟩ : ∃ c, c = p + 46 + numIn s (p + 28) 2 := ⟨_, rfl⟩
 obtain ⟨k, hk⟩ : ∃ k, k = numIn s (p + 30) 2 := ⟨_, rfl⟩
 have hz : (s.extract c (c + k)).size = k := by rw [ByteArray.size_extract]; have := h.2.1; omega
 have hsh : wideGo s (c + k) (k + 1) c none = (wideGo (s.extract c (c + k)) k (k + 1) 0 none).map (·.map (shP c)) := by
  have := wideGo_shift s c (c + k) (by omega) (by have := h.2.1; omega) (k + 1) 0 none
  rw [Nat.add_sub_cancel_left] at this
  exact this
 rw [← hc, ← hk, hz]
 have he : entAt s E p = (wideGo s (c + k) (k + 1) c none).bind fun found => (meantAll s (found.getD (0, 0)).1 (found.getD (0, 0)).2 (numIn s (p + 24) 4) (numIn s (p + 20) 4) (numIn s (p + 42) 4)).bind fun m => some (⟨s.extract (p + 46) c, numIn s (p + 10) 2, numIn s (p + 16) 4, m.2.1, m.1, m.2.2, numIn s (p + 4) 2, numIn s (p + 8) 2, numIn s (p + 34) 2, numIn s (p + 38) 4, s.extract (p + 16) (p + 28)⟩, c + k + numIn s (p + 32) 2) := by
  unfold entAt
  simp only
  rw [if_pos (show _ ∧ _ ∧ _ from h), ← hc, ← hk]
 rw [he, hsh]
 constructor
 ·intro hn; rw [hn]; rfl
 ·intro f hf y hy
  have hle := wideGo_le s (c + k) (k + 1) c none (f.map (shP c)) (by rw [hsh, hf]; rfl) ⟨Nat.le_refl _, Nat.zero_le _⟩
  have hy2 : y = s.extract ((f.map (shP c)).getD (0, 0)).1 ((f.map (shP c)).getD (0, 0)).2 := by
   rw [hy]
   cases f with
   | none =>
    unfold wideBytes
    apply ByteArray.ext
    simp
   | some z =>
    have : c + z.2 ≤ c + k := hle.2
    exact wideBytes_shift s c (c + k) (by have := h.2.1; omega) z this
  rw [hf]
  simp only [Option.map_some, Option.bind_some]
  have l24 := numIn_le s (p + 24) 4
  have l20 := numIn_le s (p + 20) 4
  have l42 := numIn_le s (p + 42) 4
  rw [meantAll_ref s _ _ _ _ _ (by have := h.2.1; have := hle.2; omega) hle.1 (by omega) (by omega) (by omega), ← hy2]
  split
  ·rfl
  ·rfl
end Go.Proofs.YtpckiobjpikmlaaGreatDoor
namespace Go.Proofs.YtpckiobjpikmlaaGreatDoor
open Go.RowKit Go.Shelf Go.Lib
def nameGo : List UInt8 → List UInt8 → Bool
 | [], part => partOk part
 | c :: l, part => if c = 47 then partOk part && nameGo l [] else byteOk c && nameGo l (part ++ [c])
theorem nameGo_eq : ∀ (t part : List UInt8), nameGo t part = (t.all byteOk && (partsGo t part).all partOk)
 | [], part => by simp [nameGo, partsGo]
 | c :: l, part => by
  unfold nameGo partsGo
  by_cases h : c = 47
  ·rw [if_pos h, if_pos h, nameGo_eq l [], h]
   have : byteOk 47 = true := by decide
   simp only [List.all_cons, this, Bool.true_and]
   cases partOk part <;> simp
  ·rw [if_neg h, if_neg h, nameGo_eq l (part ++ [c])]
   simp only [List.all_cons, Bool.and_assoc]
theorem nameOk_go (s : ByteArray) (h : s.size ≤ 60) : nameOk s = nameGo (bareL s) [] := by
 rw [nameGo_eq]
 unfold nameOk
 rw [decide_eq_true h, Bool.true_and]
 congr 1
 unfold bareL
 split
 ·rename_i hf
  unfold folderB at hf
  simp only [decide_eq_true_eq] at hf
  obtain ⟨l, hl⟩ : ∃ l, s.toList = l ++ [47] := List.getLast?_eq_some_iff.1 hf
  rw [hl]
  simp
  intro _; decide
 ·rfl
theorem drop_cons (T : ByteArray) (k : Nat) (h : k < T.size) : T.toList.drop k = T[k] :: T.toList.drop (k + 1) := by
 have hl : T.toList.length = T.size := by rw [ByteArray.toList_eq]; simp
 rw [List.drop_eq_getElem_cons (by omega)]
 congr 1
 simp only [ByteArray.toList_eq, Array.getElem_toList]; rfl
theorem push_one (T P : ByteArray) (k : Nat) (h : k < T.size) : (P ++ T.extract k (k + 1)).toList = P.toList ++ [T[k]] := by
 have e : (T.extract k (k + 1)).toList = [T[k]] := by
  rw [ByteArray.toList_eq, ByteArray.data_extract, Array.toList_extract, List.extract_eq_take_drop]
  have := drop_cons T k h
  rw [ByteArray.toList_eq] at this
  rw [this, show k + 1 - k = 1 by omega]; rfl
 rw [ByteArray.toList_eq, ByteArray.data_append, Array.toList_append, ← ByteArray.toList_eq, ← ByteArray.toList_eq, e]
theorem partOk_parts (P : ByteArray) : partOk P.toList = (!P.toList.isEmpty && (!(P.toList == [46]) && !(P.toList == [46, 46]))) := by
 unfold partOk
 rw [Bool.eq_iff_iff]
 simp [and_assoc]
theorem byteOk_parts (c : UInt8) : byteOk c = (!decide ((c.toNat : Int) < 32) && (!decide ((126 : Int) < (c.toNat : Int)) && (!((c.toNat : Int) == 92) && (!((c.toNat : Int) == 58) && !((c.toNat : Int) == 34))))) := by
 have e : ∀ n : Nat, n < 256 → (((c.toNat : Int) == (n : Int)) = decide (c = UInt8.ofNat n)) := by
  intro n hn
  rw [Bool.eq_iff_iff]
  simp only [beq_iff_eq, decide_eq_true_eq]
  constructor
  ·intro h; apply UInt8.toNat_inj.1; rw [UInt8.toNat_ofNat']; omega
  ·intro h; rw [h, UInt8.toNat_ofNat']; omega
 have e1 : ((c.toNat : Int) == 92) = decide (c = 92) := e 92 (by omega)
 have e2 : ((c.toNat : Int) == 58) = decide (c = 58) := e 58 (by omega)
 have e3 : ((c.toNat : Int) == 34) = decide (c = 34) := e 34 (by omega)
 have a1 : (!decide ((c.toNat : Int) < 32)) = decide (32 ≤ c) := by
  rw [Bool.eq_iff_iff]; simp [UInt8.le_iff_toNat_le]; omega
 have a2 : (!decide ((126 : Int) < (c.toNat : Int))) = decide (c ≤ 126) := by
  rw [Bool.eq_iff_iff]; simp [UInt8.le_iff_toNat_le]; omega
 unfold byteOk
 rw [a1, a2]
 rw [e1, e2, e3]
 simp [Bool.and_assoc]
theorem empty_list : (⟨#[]⟩ : ByteArray).toList = [] := by rw [ByteArray.toList_eq]
end Go.Proofs.YtpckiobjpikmlaaGreatDoor
namespace Go.Proofs.YtpckiobjpikmlaaGreatDoor
open Go.RowKit Go.Shelf Go.Lib
theorem rIsName_c (w : World) (s : ByteArray) (hs : s.size ≤ 140737488355328) :
  Calls Tryz.prog 105 #[.string s] w fun e w' => e = .returned (.bool (nameOk s)) ∧ Touch (fun _ => False) w w' := by
 by_cases h0 : s.size = 0
 ·have HE : Hid (nameOk s = false) := by
   unfold Hid
   rw [nameOk_go s (by omega)]
   have e : s.toList = [] := by rw [ByteArray.toList_eq]; exact List.eq_nil_of_length_eq_zero (by simpa using h0)
   have : bareL s = [] := by unfold bareL folderB; rw [e]; rfl
   rw [this]; rfl
  have h1 : (s.size : Int) < 1 := by omega
  clear h0
  go_enter Tryz.func105, Tryz.ntmps105
  go_wp2
  go_ret
  exact ⟨by rw [HE.out]; rfl, Touch.refl _ _⟩
 have g1 : ¬ (s.size : Int) < 1 := by omega
 by_cases h60 : s.size ≤ 60
 case neg =>
  have HE : Hid (nameOk s = false) := by unfold Hid nameOk; rw [decide_eq_false h60]; rfl
  have h1 : (60 : Int) < (s.size : Int) := by omega
  go_enter Tryz.func105, Tryz.ntmps105
  go_wp2
  go_ret
  exact ⟨by rw [HE.out]; rfl, Touch.refl _ _⟩
 have g2 : ¬ (60 : Int) < (s.size : Int) := by omega
 have HF : Hid (folderB s = (((s[s.size - 1]'(by omega)).toNat : Int) == 47)) := folder_last s (by omega)
 have k1 : (0 : Int) ≤ (s.size : Int) - 1 := by omega
 have k2 : (s.size : Int) - 1 < (s.size : Int) := by omega
 have k3 : ((s.size : Int) - 1).toNat = s.size - 1 := by omega
 have k4 : s.size - 1 < s.size := by omega
 have k5 : (s.size : Int) - 1 ≤ (s.size : Int) := by omega
 obtain ⟨R, hR⟩ : ∃ R, R = nameOk s := ⟨_, rfl⟩
 rw [← hR]
 have hR2 : R = nameGo (bareS s).toList [] := by rw [hR, nameOk_go s h60, bareS_list]
 have hbz := bareS_size s
 clear hR
 go_enter Tryz.func105, Tryz.ntmps105
 cases hf : folderB s with
 | true =>
  have hb : ((s[s.size - 1]'(by omega)).toNat : Int) = 47 := by have := HF.out; rw [hf] at this; simpa using this.symm
  have e : bareS s = s.extract 0 (s.size - 1) := by unfold bareS; rw [if_pos hf]
  rw [e] at hR2 hbz
  have HR0 : Hid (R = if 0 ≤ (s.extract 0 (s.size - 1)).size then nameGo ((s.extract 0 (s.size - 1)).toList.drop 0) (⟨#[]⟩ : ByteArray).toList else true) := by unfold Hid; rw [if_pos (Nat.zero_le _), empty_list]; exact hR2
  clear hR2 e HF
  go_wp2
  generalize s.extract 0 (s.size - 1) = T at HR0 hbz ⊢
  go_loopw [4, 5] (fun v i wr => ∃ (k : Nat) (P : ByteArray), k ≤ T.size + 1 ∧ P.size ≤ k ∧ v = .string P ∧ i = .int .i64 (k : Int) ∧ Hid (R = if k ≤ T.size then nameGo (T.toList.drop k) P.toList else true) ∧ Touch (fun _ => False) w wr) (fun v i wr => T.size + 1 - (intOf i).toNat)
  case atStart => exact ⟨0, ⟨#[]⟩, by omega, Nat.le_refl _, rfl, rfl, HR0, Touch.refl _ _⟩
  case round =>
   obtain ⟨k, P, hk, hP, rfl, rfl, HK, ht⟩ := hrel
   by_cases hle : k ≤ T.size
   ·have hle' : (k : Int) ≤ (T.size : Int) := by omega
    have hr := HK.out
    rw [if_pos hle] at hr
    by_cases heq : k = T.size
    ·have heq' : ((k : Int) == (T.size : Int)) = true := by simp; omega
     have HX : Hid (R = (!P.toList.isEmpty && (!(P.toList == [46]) && !(P.toList == [46, 46])))) := by
      unfold Hid
      rw [hr, List.drop_of_length_le (by rw [ByteArray.toList_eq]; simp; omega), nameGo, partOk_parts]
     clear HK hr
     cases c1 : P.toList.isEmpty with
     | true =>
      have HE : Hid (R = false) := by unfold Hid; rw [HX.out]; simp [c1]
      clear HX
      go_wp2
      go_ret
      exact ⟨by rw [HE.out]; rfl, ht⟩
     | false =>
      cases c2 : (P.toList == [46]) with
      | true =>
       have HE : Hid (R = false) := by unfold Hid; rw [HX.out]; simp [c1, c2]
       clear HX
       go_wp2
       go_ret
       exact ⟨by rw [HE.out]; rfl, ht⟩
      | false =>
       cases c3 : (P.toList == [46, 46]) with
       | true =>
        have HE : Hid (R = false) := by unfold Hid; rw [HX.out]; simp [c1, c2, c3]
        clear HX
        go_wp2
        go_ret
        exact ⟨by rw [HE.out]; rfl, ht⟩
       | false =>
        have HN : Hid (R = if k + 1 ≤ T.size then nameGo (T.toList.drop (k + 1)) (⟨#[]⟩ : ByteArray).toList else true) := by
         unfold Hid; rw [HX.out, c1, c2, c3, if_neg (by omega)]; rfl
        clear HX
        go_wp2
        exact ⟨⟨k + 1, ⟨#[]⟩, by omega, Nat.zero_le _, rfl, by go_num, HN, ht⟩, by simp [intOf]; omega⟩
    ·have hlt : k < T.size := by omega
     have heq' : ((k : Int) == (T.size : Int)) = false := by simp; omega
     have hlt' : (k : Int) < (T.size : Int) := by omega
     have hk1 : (k : Int) + 1 ≤ (T.size : Int) := by omega
     have hk2 : (k : Int) ≤ (k : Int) + 1 := by omega
     rw [drop_cons T k hlt, nameGo] at hr
     have hpo := push_one T P k hlt
     have HPO : Hid ((P ++ T.extract k (k + 1)).toList = P.toList ++ [T[k]]) := hpo
     clear hpo HK
     by_cases h47 : ((T[k]'hlt).toNat : Int) = 47
     ·have h47b : (((T[k]'hlt).toNat : Int) == 47) = true := by simpa using h47
      have h47u : T[k]'hlt = 47 := by apply UInt8.toNat_inj.1; simpa using (by omega : (T[k]'hlt).toNat = 47)
      rw [if_pos h47u] at hr
      have HX : Hid (R = ((!P.toList.isEmpty && (!(P.toList == [46]) && !(P.toList == [46, 46]))) && nameGo (T.toList.drop (k + 1)) [])) := by
       unfold Hid; rw [hr, partOk_parts]
      clear hr h47u
      cases c1 : P.toList.isEmpty with
      | true =>
       have HE : Hid (R = false) := by unfold Hid; rw [HX.out]; simp [c1]
       clear HX
       go_wp2
       go_ret
       exact ⟨by rw [HE.out]; rfl, ht⟩
      | false =>
       cases c2 : (P.toList == [46]) with
       | true =>
        have HE : Hid (R = false) := by unfold Hid; rw [HX.out]; simp [c1, c2]
        clear HX
        go_wp2
        go_ret
        exact ⟨by rw [HE.out]; rfl, ht⟩
       | false =>
        cases c3 : (P.toList == [46, 46]) with
        | true =>
         have HE : Hid (R = false) := by unfold Hid; rw [HX.out]; simp [c1, c2, c3]
         clear HX
         go_wp2
         go_ret
         exact ⟨by rw [HE.out]; rfl, ht⟩
        | false =>
         have HN : Hid (R = if k + 1 ≤ T.size then nameGo (T.toList.drop (k + 1)) (⟨#[]⟩ : ByteArray).toList else true) := by
          unfold Hid; rw [HX.out, c1, c2, c3, if_pos (by omega), empty_list]; rfl
         clear HX
         go_wp2
         exact ⟨⟨k + 1, ⟨#[]⟩, by omega, Nat.zero_le _, rfl, by go_num, HN, ht⟩, by simp [intOf]; omega⟩
     ·have h47b : (((T[k]'hlt).toNat : Int) == 47) = false := by simpa using h47
      have h47u : ¬ T[k]'hlt = 47 := fun e => h47 (by rw [e]; rfl)
      rw [if_neg h47u] at hr
      have HX : Hid (R = ((!decide (((T[k]'hlt).toNat : Int) < 32) && (!decide ((126 : Int) < ((T[k]'hlt).toNat : Int)) && (!(((T[k]'hlt).toNat : Int) == 92) && (!(((T[k]'hlt).toNat : Int) == 58) && !(((T[k]'hlt).toNat : Int) == 34))))) && nameGo (T.toList.drop (k + 1)) (P.toList ++ [T[k]'hlt]))) := by
       unfold Hid; rw [hr, byteOk_parts]
      clear hr h47u
      by_cases q1 : ((T[k]'hlt).toNat : Int) < 32
      ·have q1' := decide_eq_true q1
       have HE : Hid (R = false) := by unfold Hid; rw [HX.out]; simp [q1]
       clear HX
       go_wp2
       go_ret
       exact ⟨by rw [HE.out]; rfl, ht⟩
      by_cases q2 : (126 : Int) < ((T[k]'hlt).toNat : Int)
      ·skip
       have HE : Hid (R = false) := by unfold Hid; rw [HX.out]; simp [q2]
       clear HX
       go_wp2
       go_ret
       exact ⟨by rw [HE.out]; rfl, ht⟩
      cases q3 : (((T[k]'hlt).toNat : Int) == 92) with
      | true =>
       have HE : Hid (R = false) := by unfold Hid; rw [HX.out]; simp [q3]
       clear HX
       go_wp2
       go_ret
       exact ⟨by rw [HE.out]; rfl, ht⟩
      | false =>
       cases q4 : (((T[k]'hlt).toNat : Int) == 58) with
       | true =>
        have HE : Hid (R = false) := by unfold Hid; rw [HX.out]; simp [q4]
        clear HX
        go_wp2
        go_ret
        exact ⟨by rw [HE.out]; rfl, ht⟩
       | false =>
        cases q5 : (((T[k]'hlt).toNat : Int) == 34) with
        | true =>
         have HE : Hid (R = false) := by unfold Hid; rw [HX.out]; simp [q5]
         clear HX
         go_wp2
         go_ret
         exact ⟨by rw [HE.out]; rfl, ht⟩
        | false =>
         have HN : Hid (R = if k + 1 ≤ T.size then nameGo (T.toList.drop (k + 1)) (P ++ T.extract k (k + 1)).toList else true) := by
          unfold Hid; rw [HX.out, if_pos (by omega), HPO.out, q3, q4, q5, decide_eq_false q1, decide_eq_false q2]; rfl
         have hsz : (P ++ T.extract k (k + 1)).size ≤ k + 1 := by rw [ByteArray.size_append, ByteArray.size_extract]; omega
         clear HX
         go_wp2
         exact ⟨⟨k + 1, P ++ T.extract k (k + 1), by omega, hsz, rfl, by go_num, HN, ht⟩, by simp [intOf]; omega⟩
   ·have hle' : ¬ (k : Int) ≤ (T.size : Int) := by omega
    have HE : Hid (R = true) := by unfold Hid; rw [HK.out, if_neg hle]
    clear HK
    go_wp2
    go_ret
    exact ⟨by rw [HE.out]; rfl, ht⟩
 | false =>
  have hb : ¬ ((s[s.size - 1]'(by omega)).toNat : Int) = 47 := by have := HF.out; rw [hf] at this; simpa using this.symm
  have e : bareS s = s := by unfold bareS; rw [if_neg (by rw [hf]; simp)]
  rw [e] at hR2 hbz
  have HR0 : Hid (R = if 0 ≤ s.size then nameGo (s.toList.drop 0) (⟨#[]⟩ : ByteArray).toList else true) := by unfold Hid; rw [if_pos (Nat.zero_le _), empty_list]; exact hR2
  clear hR2 e HF
  go_wp2
  go_loopw [4, 5] (fun v i wr => ∃ (k : Nat) (P : ByteArray), k ≤ s.size + 1 ∧ P.size ≤ k ∧ v = .string P ∧ i = .int .i64 (k : Int) ∧ Hid (R = if k ≤ s.size then nameGo (s.toList.drop k) P.toList else true) ∧ Touch (fun _ => False) w wr) (fun v i wr => s.size + 1 - (intOf i).toNat)
  case atStart => exact ⟨0, ⟨#[]⟩, by omega, Nat.le_refl _, rfl, rfl, HR0, Touch.refl _ _⟩
  case round =>
   obtain ⟨k, P, hk, hP, rfl, rfl, HK, ht⟩ := hrel
   by_cases hle : k ≤ s.size
   ·have hle' : (k : Int) ≤ (s.size : Int) := by omega
    have hr := HK.out
    rw [if_pos hle] at hr
    by_cases heq : k = s.size
    ·have heq' : ((k : Int) == (s.size : Int)) = true := by simp; omega
     have HX : Hid (R = (!P.toList.isEmpty && (!(P.toList == [46]) && !(P.toList == [46, 46])))) := by
      unfold Hid
      rw [hr, List.drop_of_length_le (by rw [ByteArray.toList_eq]; simp; omega), nameGo, partOk_parts]
     clear HK hr
     cases c1 : P.toList.isEmpty with
     | true =>
      have HE : Hid (R = false) := by unfold Hid; rw [HX.out]; simp [c1]
      clear HX
      go_wp2
      go_ret
      exact ⟨by rw [HE.out]; rfl, ht⟩
     | false =>
      cases c2 : (P.toList == [46]) with
      | true =>
       have HE : Hid (R = false) := by unfold Hid; rw [HX.out]; simp [c1, c2]
       clear HX
       go_wp2
       go_ret
       exact ⟨by rw [HE.out]; rfl, ht⟩
      | false =>
       cases c3 : (P.toList == [46, 46]) with
       | true =>
        have HE : Hid (R = false) := by unfold Hid; rw [HX.out]; simp [c1, c2, c3]
        clear HX
        go_wp2
        go_ret
        exact ⟨by rw [HE.out]; rfl, ht⟩
       | false =>
        have HN : Hid (R = if k + 1 ≤ s.size then nameGo (s.toList.drop (k + 1)) (⟨#[]⟩ : ByteArray).toList else true) := by
         unfold Hid; rw [HX.out, c1, c2, c3, if_neg (by omega)]; rfl
        clear HX
        go_wp2
        exact ⟨⟨k + 1, ⟨#[]⟩, by omega, Nat.zero_le _, rfl, by go_num, HN, ht⟩, by simp [intOf]; omega⟩
    ·have hlt : k < s.size := by omega
     have heq' : ((k : Int) == (s.size : Int)) = false := by simp; omega
     have hlt' : (k : Int) < (s.size : Int) := by omega
     have hk1 : (k : Int) + 1 ≤ (s.size : Int) := by omega
     have hk2 : (k : Int) ≤ (k : Int) + 1 := by omega
     rw [drop_cons s k hlt, nameGo] at hr
     have hpo := push_one s P k hlt
     have HPO : Hid ((P ++ s.extract k (k + 1)).toList = P.toList ++ [s[k]]) := hpo
     clear hpo HK
     by_cases h47 : ((s[k]'hlt).toNat : Int) = 47
     ·have h47b : (((s[k]'hlt).toNat : Int) == 47) = true := by simpa using h47
      have h47u : s[k]'hlt = 47 := by apply UInt8.toNat_inj.1; simpa using (by omega : (s[k]'hlt).toNat = 47)
      rw [if_pos h47u] at hr
      have HX : Hid (R = ((!P.toList.isEmpty && (!(P.toList == [46]) && !(P.toList == [46, 46]))) && nameGo (s.toList.drop (k + 1)) [])) := by
       unfold Hid; rw [hr, partOk_parts]
      clear hr h47u
      cases c1 : P.toList.isEmpty with
      | true =>
       have HE : Hid (R = false) := by unfold Hid; rw [HX.out]; simp [c1]
       clear HX
       go_wp2
       go_ret
       exact ⟨by rw [HE.out]; rfl, ht⟩
      | false =>
       cases c2 : (P.toList == [46]) with
       | true =>
        have HE : Hid (R = false) := by unfold Hid; rw [HX.out]; simp [c1, c2]
        clear HX
        go_wp2
        go_ret
        exact ⟨by rw [HE.out]; rfl, ht⟩
       | false =>
        cases c3 : (P.toList == [46, 46]) with
        | true =>
         have HE : Hid (R = false) := by unfold Hid; rw [HX.out]; simp [c1, c2, c3]
         clear HX
         go_wp2
         go_ret
         exact ⟨by rw [HE.out]; rfl, ht⟩
        | false =>
         have HN : Hid (R = if k + 1 ≤ s.size then nameGo (s.toList.drop (k + 1)) (⟨#[]⟩ : ByteArray).toList else true) := by
          unfold Hid; rw [HX.out, c1, c2, c3, if_pos (by omega), empty_list]; rfl
         clear HX
         go_wp2
         exact ⟨⟨k + 1, ⟨#[]⟩, by omega, Nat.zero_le _, rfl, by go_num, HN, ht⟩, by simp [intOf]; omega⟩
     ·have h47b : (((s[k]'hlt).toNat : Int) == 47) = false := by simpa using h47
      have h47u : ¬ s[k]'hlt = 47 := fun e => h47 (by rw [e]; rfl)
      rw [if_neg h47u] at hr
      have HX : Hid (R = ((!decide (((s[k]'hlt).toNat : Int) < 32) && (!decide ((126 : Int) < ((s[k]'hlt).toNat : Int)) && (!(((s[k]'hlt).toNat : Int) == 92) && (!(((s[k]'hlt).toNat : Int) == 58) && !(((s[k]'hlt).toNat : Int) == 34))))) && nameGo (s.toList.drop (k + 1)) (P.toList ++ [s[k]'hlt]))) := by
       unfold Hid; rw [hr, byteOk_parts]
      clear hr h47u
      by_cases q1 : ((s[k]'hlt).toNat : Int) < 32
      ·have q1' := decide_eq_true q1
       have HE : Hid (R = false) := by unfold Hid; rw [HX.out]; simp [q1]
       clear HX
       go_wp2
       go_ret
       exact ⟨by rw [HE.out]; rfl, ht⟩
      by_cases q2 : (126 : Int) < ((s[k]'hlt).toNat : Int)
      ·skip
       have HE : Hid (R = false) := by unfold Hid; rw [HX.out]; simp [q2]
       clear HX
       go_wp2
       go_ret
       exact ⟨by rw [HE.out]; rfl, ht⟩
      cases q3 : (((s[k]'hlt).toNat : Int) == 92) with
      | true =>
       have HE : Hid (R = false) := by unfold Hid; rw [HX.out]; simp [q3]
       clear HX
       go_wp2
       go_ret
       exact ⟨by rw [HE.out]; rfl, ht⟩
      | false =>
       cases q4 : (((s[k]'hlt).toNat : Int) == 58) with
       | true =>
        have HE : Hid (R = false) := by unfold Hid; rw [HX.out]; simp [q4]
        clear HX
        go_wp2
        go_ret
        exact ⟨by rw [HE.out]; rfl, ht⟩
       | false =>
        cases q5 : (((s[k]'hlt).toNat : Int) == 34) with
        | true =>
         have HE : Hid (R = false) := by unfold Hid; rw [HX.out]; simp [q5]
         clear HX
         go_wp2
         go_ret
         exact ⟨by rw [HE.out]; rfl, ht⟩
        | false =>
         have HN : Hid (R = if k + 1 ≤ s.size then nameGo (s.toList.drop (k + 1)) (P ++ s.extract k (k + 1)).toList else true) := by
          unfold Hid; rw [HX.out, if_pos (by omega), HPO.out, q3, q4, q5, decide_eq_false q1, decide_eq_false q2]; rfl
         have hsz : (P ++ s.extract k (k + 1)).size ≤ k + 1 := by rw [ByteArray.size_append, ByteArray.size_extract]; omega
         clear HX
         go_wp2
         exact ⟨⟨k + 1, P ++ s.extract k (k + 1), by omega, hsz, rfl, by go_num, HN, ht⟩, by simp [intOf]; omega⟩
   ·have hle' : ¬ (k : Int) ≤ (s.size : Int) := by omega
    have HE : Hid (R = true) := by unfold Hid; rw [HK.out, if_neg hle]
    clear HK
    go_wp2
    go_ret
    exact ⟨by rw [HE.out]; rfl, ht⟩
end Go.Proofs.YtpckiobjpikmlaaGreatDoor
namespace Go.Proofs.YtpckiobjpikmlaaGreatDoor
open Go.RowKit Go.Shelf Go.Lib
def oddAt (f k : Nat) : Bool := (f / 2 ^ k % 2 == 1) && (k != 1 && k != 2 && k != 3 && k != 11)
def oddFrom (f : Nat) : Nat → Nat → Bool
 | 0, _ => false
 | n + 1, k => oddAt f k || oddFrom f n (k + 1)
theorem oddFrom_iff (f : Nat) : ∀ n k, oddFrom f n k = true ↔ ∃ j, k ≤ j ∧ j < k + n ∧ oddAt f j = true
 | 0, k => by simp [oddFrom]; intro j h1 h2; omega
 | n + 1, k => by
  rw [oddFrom, Bool.or_eq_true, oddFrom_iff f n (k + 1)]
  constructor
  ·rintro (h | ⟨j, h1, h2, h3⟩)
   ·exact ⟨k, Nat.le_refl _, by omega, h⟩
   ·exact ⟨j, by omega, by omega, h3⟩
  ·rintro ⟨j, h1, h2, h3⟩
   by_cases e : j = k
   ·rw [e] at h3; exact .inl h3
   ·exact .inr ⟨j, by omega, by omega, h3⟩
theorem mask_bit (j : Nat) (h : j < 16) : Nat.testBit 63473 j = (j != 1 && j != 2 && j != 3 && j != 11) := by
 rcases (by omega : j = 0 ∨ j = 1 ∨ j = 2 ∨ j = 3 ∨ j = 4 ∨ j = 5 ∨ j = 6 ∨ j = 7 ∨ j = 8 ∨ j = 9 ∨ j = 10 ∨ j = 11 ∨ j = 12 ∨ j = 13 ∨ j = 14 ∨ j = 15) with rfl | rfl | rfl | rfl | rfl | rfl | rfl | rfl | rfl | rfl | rfl | rfl | rfl | rfl | rfl | rfl <;> decide
theorem oddF_eq (f : Nat) : oddF f = oddFrom f 16 0 := by
 have hbit : ∀ j, j < 16 → (oddAt f j = true ↔ (f &&& 63473).testBit j = true) := by
  intro j hj
  rw [Nat.testBit_and, mask_bit j hj, Nat.testBit_eq_decide_div_mod_eq]
  unfold oddAt
  simp
 rw [Bool.eq_iff_iff, oddFrom_iff]
 unfold oddF
 rw [decide_eq_true_eq]
 constructor
 ·intro h
  obtain ⟨j, hj⟩ := Nat.exists_testBit_of_ne_zero h
  have h16 : j < 16 := by
   apply Classical.byContradiction
   intro hn
   rw [Nat.testBit_and, Nat.testBit_lt_two_pow (x := 63473) (i := j) (Nat.lt_of_lt_of_le (by decide : 63473 < 2 ^ 16) (Nat.pow_le_pow_right (by omega) (by omega)))] at hj
   simp at hj
  exact ⟨j, Nat.zero_le _, by omega, (hbit j h16).2 hj⟩
 ·rintro ⟨j, _, hj, h⟩ e
  have := (hbit j (by omega)).1 h
  rw [e] at this; simp at this
theorem oddAt_pow (f k P : Nat) (hk : k < 16) (hP : P = 2 ^ k) : oddAt f k = ((f / P % 2 == 1) && (P != 2 && P != 4 && P != 8 && P != 2048)) := by
 unfold oddAt
 rw [← hP]
 congr 1
 rw [hP]
 rcases (by omega : k = 0 ∨ k = 1 ∨ k = 2 ∨ k = 3 ∨ k = 4 ∨ k = 5 ∨ k = 6 ∨ k = 7 ∨ k = 8 ∨ k = 9 ∨ k = 10 ∨ k = 11 ∨ k = 12 ∨ k = 13 ∨ k = 14 ∨ k = 15) with rfl | rfl | rfl | rfl | rfl | rfl | rfl | rfl | rfl | rfl | rfl | rfl | rfl | rfl | rfl | rfl <;> decide
theorem pow_le16 (k : Nat) (h : k < 16) : 2 * 2 ^ k ≤ 65536 := by
 have := Nat.pow_le_pow_right (n := 2) (by omega) (show k + 1 ≤ 16 by omega)
 rw [Nat.pow_succ] at this; omega
theorem rodd_c (w : World) (f : Nat) (hf : f < 65536) :
  Calls Tryz.prog 147 #[.int .i64 (f : Int)] w fun e w' => e = .returned (.bool (oddF f)) ∧ Touch (fun _ => False) w w' := by
 obtain ⟨R, hR⟩ : ∃ R, R = oddF f := ⟨_, rfl⟩
 have HR : Hid (R = oddFrom f (16 - 0) 0) := by unfold Hid; rw [hR, oddF_eq]
 rw [← hR]
 clear hR
 go_enter Tryz.func147, Tryz.ntmps147
 go_wp2
 go_loopw [3, 4] (fun v i wr => ∃ (k P : Nat), k ≤ 16 ∧ Hid (P = 2 ^ k) ∧ 1 ≤ P ∧ P ≤ 65536 ∧ v = .int .i64 (P : Int) ∧ i = .int .i64 (k : Int) ∧ Hid (R = oddFrom f (16 - k) k) ∧ Touch (fun _ => False) w wr) (fun v i wr => 16 - (intOf i).toNat)
 case atStart => exact ⟨0, 1, by omega, rfl, by omega, by omega, rfl, rfl, HR, Touch.refl _ _⟩
 case round =>
  obtain ⟨k, P, hk, HP, hp1, hp2, rfl, rfl, HK, ht⟩ := hrel
  by_cases hlt : k < 16
  ·have hlt' : (k : Int) < 16 := by omega
   have e0 : ¬ (P : Int) = 0 := by omega
   obtain ⟨B, hB⟩ : ∃ B, B = f / P % 2 := ⟨_, rfl⟩
   have eb : (wrap64 ((f : Int) / (P : Int))).tmod 2 = (B : Int) := by
    have q1 : ((f : Int) / (P : Int)) = ((f / P : Nat) : Int) := rfl
    have q2 : f / P ≤ f := Nat.div_le_self _ _
    rw [q1]
    generalize f / P = D at q2 hB
    have q3 : wrap64 (D : Int) = (D : Int) := by unfold wrap64; omega
    rw [q3, Int.tmod_eq_emod_of_nonneg (by omega), hB]; rfl
   have HX : Hid (R = (((B == 1) && (P != 2 && P != 4 && P != 8 && P != 2048)) || oddFrom f (16 - (k + 1)) (k + 1))) := by
    unfold Hid
    rw [HK.out, show 16 - k = (16 - (k + 1)) + 1 by omega, oddFrom, oddAt_pow f k P hlt HP.out, ← hB]
   have HN : Hid (2 * P = 2 ^ (k + 1)) := by unfold Hid; rw [HP.out, Nat.pow_succ, Nat.mul_comm]
   have hp3 : 2 * P ≤ 65536 := by rw [HP.out]; exact pow_le16 k hlt
   have NEXT : Hid ((((B == 1) && (P != 2 && P != 4 && P != 8 && P != 2048)) = false) → R = oddFrom f (16 - (k + 1)) (k + 1)) := by
    intro h; rw [HX.out, h, Bool.false_or]
   clear HK hB
   by_cases hb : B = 1
   ·have hbi : (B : Int) = 1 := by omega
    by_cases h2 : P = 2
    ·have ch2 : ((P : Int) != 2) = false := by simp; omega
     have HR2 : Hid (R = oddFrom f (16 - (k + 1)) (k + 1)) := NEXT.out (by simp [h2])
     clear HX NEXT h2
     go_wp2
     exact ⟨⟨k + 1, 2 * P, by omega, HN, by omega, by omega, by go_num, by go_num, HR2, ht⟩, by simp [intOf]; omega⟩
    have b2 : ((P : Int) != 2) = true := by simp; omega
    by_cases h4 : P = 4
    ·have ch4 : ((P : Int) != 4) = false := by simp; omega
     have HR2 : Hid (R = oddFrom f (16 - (k + 1)) (k + 1)) := NEXT.out (by simp [h4])
     clear HX NEXT h4
     go_wp2
     exact ⟨⟨k + 1, 2 * P, by omega, HN, by omega, by omega, by go_num, by go_num, HR2, ht⟩, by simp [intOf]; omega⟩
    have b4 : ((P : Int) != 4) = true := by simp; omega
    by_cases h8 : P = 8
    ·have ch8 : ((P : Int) != 8) = false := by simp; omega
     have HR2 : Hid (R = oddFrom f (16 - (k + 1)) (k + 1)) := NEXT.out (by simp [h8])
     clear HX NEXT h8
     go_wp2
     exact ⟨⟨k + 1, 2 * P, by omega, HN, by omega, by omega, by go_num, by go_num, HR2, ht⟩, by simp [intOf]; omega⟩
    have b8 : ((P : Int) != 8) = true := by simp; omega
    by_cases hz : P = 2048
    ·have chz : ((P : Int) != 2048) = false := by simp; omega
     have HR2 : Hid (R = oddFrom f (16 - (k + 1)) (k + 1)) := NEXT.out (by simp [hz])
     clear HX NEXT hz
     go_wp2
     exact ⟨⟨k + 1, 2 * P, by omega, HN, by omega, by omega, by go_num, by go_num, HR2, ht⟩, by simp [intOf]; omega⟩
    have i2 : ¬ (P : Int) = 2 := by omega
    have i4 : ¬ (P : Int) = 4 := by omega
    have i8 : ¬ (P : Int) = 8 := by omega
    have iz : ¬ (P : Int) = 2048 := by omega
    have HE : Hid (R = true) := by unfold Hid; rw [HX.out]; simp [hb, h2, h4, h8, hz]
    clear HX NEXT
    go_wp2
    go_ret
    exact ⟨by rw [HE.out]; rfl, ht⟩
   ·have hbi : ¬ (B : Int) = 1 := by omega
    have HR2 : Hid (R = oddFrom f (16 - (k + 1)) (k + 1)) := NEXT.out (by simp [hb])
    clear HX NEXT
    go_wp2
    exact ⟨⟨k + 1, 2 * P, by omega, HN, by omega, by omega, by go_num, by go_num, HR2, ht⟩, by simp [intOf]; omega⟩
  ·obtain rfl : k = 16 := by omega
   have HE : Hid (R = false) := by unfold Hid; rw [HK.out]; rfl
   clear HK
   go_wp2
   go_ret
   exact ⟨by rw [HE.out]; rfl, ht⟩
end Go.Proofs.YtpckiobjpikmlaaGreatDoor
