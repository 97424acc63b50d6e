/- Texts of this seat, joined. -/
import Derived.Test.YtnmkmmgaoplfiaaGreatDoorJ23
import Derived.Test.YtnmkmmgaoplfiaaGreatDoorJ24
import Derived.Test.YtnmkmmgaoplfiaaGreatDoorJ21
import Derived.Test.YtnmkmmgaoplfiaaGreatDoorJ22
import Derived.Test.YtnmkmmgaoplfiaaGreatDoorJ13
import Derived.BigQuiet
import Derived.Sort.Walk0
set_option linter.unusedSimpArgs false
set_option linter.unusedVariables false
set_option maxRecDepth 100000
set_option maxHeartbeats 20000000
namespace Go.Proofs.YtnmkmmgaoplfiaaGreatDoor
open Go.RowKit Go.Shelf Go.Lib
theorem Tryz.infoListed : (Tryz.prog.info? 125).map (fun i => (i.zero, i.size, i.bytes)) = some (some (.agg #[.string ⟨#[]⟩, .int .i64 0, .int .u32 0, .int .i64 0, .int .i64 0, .int .i64 0, .int .i64 0, .int .i64 0, .int .i64 0, .int .i64 0, .string ⟨#[]⟩, .int .i64 0, .int .i64 0]), 13, 120) := by kernel_rfl
theorem cell_list_new (w : World) (xs : List Value) (t : TypeId) : ∀ (j : Nat) (x : Value), xs[j]? = some x → (w.alloc (.cells xs.toArray t)).cell? ((⟨w.heap.size, 0, none⟩ : Addr).add j) = some x := by
 intro j x h
 have hb := heap_alloc_new w (.cells xs.toArray t)
 have e0 : ((⟨w.heap.size, 0, none⟩ : Addr).add j) = ⟨w.heap.size, j, none⟩ := by
  cases j with
  | zero => rfl
  | succ j => simp [Addr.add]
 rw [e0, row_cell hb j]; simpa using h
def lstV (l : List Ent) : List Value := l.flatMap fun e => listL e 0 0
theorem lstV_snoc (l : List Ent) (e : Ent) : lstV (l ++ [e]) = lstV l ++ listL e 0 0 := by simp [lstV]
theorem lstV_get (l : List Ent) : ∀ i (h : i < l.length) j, j < 13 → (lstV l)[i * 13 + j]? = (listL l[i] 0 0)[j]? := by
 induction l with
 | nil => intro i h; simp at h
 | cons a l ih =>
  intro i h j hj
  have e : lstV (a :: l) = listL a 0 0 ++ lstV l := rfl
  have hl : (listL a 0 0).length = 13 := rfl
  cases i with
  | zero => rw [e, List.getElem?_append_left (by omega)]; simp
  | succ i =>
   have := ih i (by simpa using h) j hj
   rw [e, List.getElem?_append_right (by omega), hl, show (i + 1) * 13 + j - 13 = i * 13 + j by omega, this]
   rfl
theorem LstAt.owned {w : World} {base g cap : Nat} {l : List Ent} (h : w.ownsRow base 125 13 (.slice (some ⟨g, 0, none⟩) l.length cap) l.length (lstV l)) : base ≤ g ∧ LstAt w g (l.map bareE) ∧ ∀ i, w.frozen? ⟨g, i, none⟩ = false := by
 obtain ⟨h1, ⟨h2, _⟩ | ⟨g', cap', cur, e, hb, hg, h3, h4, h5, h6⟩⟩ := h
 ·cases h2
 ·cases e
  refine ⟨hb, ⟨fun i hi j hj => ?_, (Array.getElem?_eq_some_iff.1 hg).1⟩, fun i => frozen_row hg i⟩
  have hi' : i < l.length := by simpa using hi
  have hlt : i * 13 + j < l.length * 13 := by omega
  have := lstV_get l i hi' j hj
  rw [row_cell hg (i * 13 + j)]
  simp only [List.getElem_map, bareE]
  rw [← this, ← h6, List.getElem?_take_of_lt hlt]; simp
def listedPost (s : ByteArray) (E rb p : Nat) (r : Ending) (w' : World) : Prop := match entAt s E p with
 | none => ∃ (e : Ent) (a b : Nat), r = .returned (.tuple #[.agg #[.string e.name, .int .i64 (e.method : Int), .int .u32 (e.sum : Int), .int .i64 (e.packed : Int), .int .i64 (e.size : Int), .int .i64 (a : Int), .int .i64 (e.maker : Int), .int .i64 (e.flags : Int), .int .i64 (e.disk : Int), .int .i64 (e.outer : Int), .string e.three, .int .i64 (e.ahead : Int), .int .i64 (b : Int)], .bool false])
 | some (e, q) => r = .returned (.tuple #[.agg #[.string e.name, .int .i64 (e.method : Int), .int .u32 (e.sum : Int), .int .i64 (e.packed : Int), .int .i64 (e.size : Int), .int .i64 0, .int .i64 (e.maker : Int), .int .i64 (e.flags : Int), .int .i64 (e.disk : Int), .int .i64 (e.outer : Int), .string e.three, .int .i64 (e.ahead : Int), .int .i64 0], .bool true]) ∧ FR w' rb s E (some q)
theorem takeAll_of (w : World) (s : ByteArray) (d : Dir) (h1 : d.place ≤ d.stop) (h2 : d.stop ≤ s.size) (hc : d.count ≤ 9223372036854775807) (hs : s.size ≤ 2147483648)
  (hT : ∀ W rb p, FR W rb s d.stop (some p) → Calls Tryz.prog 48 #[.pointer (some ⟨rb, 0, none⟩)] W fun r w' => Touch (fun k => k = rb) W w' ∧ listedPost s d.stop rb p r w') :
  Calls Tryz.prog 25 #[.agg #[.int .i64 (d.count : Int), .int .i64 (d.size : Int), .int .i64 (d.place : Int), .int .i64 (d.stop : Int)], .string s] w fun r w' => Touch (fun _ => False) w w' ∧ takePost w.heap.size (entsGo s d.stop d.count d.place []) r w' := by
 obtain ⟨i0, hi, hz0, hz1, hz2⟩ := info_parts Tryz.infoListed
 have HT : Hid (∀ W rb p, FR W rb s d.stop (some p) → Calls Tryz.prog 48 #[.pointer (some ⟨rb, 0, none⟩)] W fun r w' => Touch (fun k => k = rb) W w' ∧ listedPost s d.stop rb p r w') := hT
 have W1 := (Touch.refl (fun _ => False) w).alloc (Obj.cells #[.int .i64 (d.count : Int), .int .i64 (d.size : Int), .int .i64 (d.place : Int), .int .i64 (d.stop : Int)] 66)
 have b1 : (d.place : Int) ≤ (d.stop : Int) := by omega
 have b2 : (d.stop : Int) ≤ (s.size : Int) := by omega
 obtain ⟨R, hR⟩ : ∃ R, R = entsGo s d.stop d.count d.place [] := ⟨_, rfl⟩
 have HR : Hid (R = entsGo s d.stop (d.count - 0) d.place []) := hR
 rw [← hR]
 clear hT hR
 go_enter Tryz.func25, Tryz.ntmps25
 go_wp2
 have T0 := W1.alloc (Obj.cells #[.string (s.extract d.place d.stop), .bool false] 121)
 have F0 := FR.newE (w.alloc (Obj.cells #[.int .i64 (d.count : Int), .int .i64 (d.size : Int), .int .i64 (d.place : Int), .int .i64 (d.stop : Int)] 66)) s d.place d.stop h1 h2 _ rfl
 rw [World.size_alloc] at F0
 have hS0 : w.heap.size + 2 ≤ ((w.alloc (Obj.cells #[.int .i64 (d.count : Int), .int .i64 (d.size : Int), .int .i64 (d.place : Int), .int .i64 (d.stop : Int)] 66)).alloc (Obj.cells #[.string (s.extract d.place d.stop), .bool false] 121)).heap.size := by simp
 go_loopw [7, 20] (fun v i wr => ∃ (k p : Nat) (acc : List Ent), k ≤ d.count ∧ acc.length = k ∧ i = .int .i64 (k : Int) ∧ wr.ownsRow (w.heap.size + 2) 125 13 v acc.length (lstV acc) ∧ FR wr (w.heap.size + 1) s d.stop (some p) ∧ k * 46 + d.place ≤ p ∧ Hid (R = entsGo s d.stop (d.count - k) p acc) ∧ Touch (fun _ => False) w wr ∧ w.heap.size + 2 ≤ wr.heap.size) (fun v i wr => d.count - (intOf i).toNat)
 case atStart => exact ⟨0, d.place, [], Nat.zero_le _, rfl, rfl, World.ownsRow_nil _ _ _ _, F0, by omega, HR, T0, hS0⟩
 case round =>
  obtain ⟨k, p, acc, hk, hacc, rfl, hro, hF, hp46, HK, ht, hsz⟩ := hrel
  have hpE := hF.le p rfl
  by_cases hlt : k < d.count
  ·have hlt' : (k : Int) < (d.count : Int) := by omega
   have HX : Hid (R = match entAt s d.stop p with
     | none => .error 5
     | some (e, q) => if faultOf e = 0 then entsGo s d.stop (d.count - (k + 1)) q (acc ++ [e]) else .error (faultOf e)) := by
    unfold Hid; rw [HK.out, show d.count - k = (d.count - (k + 1)) + 1 by omega]; rfl
   clear HK
   go_wp2_with fail
   refine (HT.out _ _ p hF).mono ?_
   rintro e w1 ⟨t1, h1'⟩
   unfold listedPost at h1'
   have T1 : Touch (fun _ => False) w w1 := ht.onNew t1 (by omega)
   have hsz1 := t1.size
   have hro1 := t1.owns hro (fun q hq e => by have h3 := (hro.lt q hq).1; have h4 : q = w.heap.size + 1 := e; omega)
   clear t1 hF hro
   cases hea : entAt s d.stop p with
   | none =>
    rw [hea] at h1' HX
    obtain ⟨e0, a0, b0, rfl⟩ := (show ∃ (e : Ent) (a b : Nat), _ = _ from h1')
    have FIN : Hid (∀ w', takePost w.heap.size R (.returned (.tuple #[.slice none 0 0, .int .i64 5])) w') := by
     intro w'; rw [HX.out]; rfl
    clear HX h1' hea
    go_wp2
    go_ret2
    exact ⟨T1.alloc _, FIN.out _⟩
   | some eq =>
    obtain ⟨e, q⟩ := eq
    rw [hea] at h1' HX
    obtain ⟨rfl, fr1⟩ := (show _ = _ ∧ FR w1 (w.heap.size + 1) s d.stop (some q) from h1')
    obtain ⟨p1, p2, hok⟩ := entAt_ok s _ _ _ _ hea
    have HX' : Hid (R = if faultOf e = 0 then entsGo s d.stop (d.count - (k + 1)) q (acc ++ [e]) else .error (faultOf e)) := HX
    have bx := heap_alloc_new w1 (Obj.cells #[.string e.name, .int .i64 (e.method : Int), .int .u32 (e.sum : Int), .int .i64 (e.packed : Int), .int .i64 (e.size : Int), .int .i64 0, .int .i64 (e.maker : Int), .int .i64 (e.flags : Int), .int .i64 (e.disk : Int), .int .i64 (e.outer : Int), .string e.three, .int .i64 (e.ahead : Int), .int .i64 0] 125)
    have HLA : Hid (ListAt (w1.alloc (Obj.cells #[.string e.name, .int .i64 (e.method : Int), .int .u32 (e.sum : Int), .int .i64 (e.packed : Int), .int .i64 (e.size : Int), .int .i64 0, .int .i64 (e.maker : Int), .int .i64 (e.flags : Int), .int .i64 (e.disk : Int), .int .i64 (e.outer : Int), .string e.three, .int .i64 (e.ahead : Int), .int .i64 0] 125)) w1.heap.size 0 e 0 0) := by
     intro i hi
     rw [Nat.zero_add, row_cell bx i]; simp [listL]
    have hfr1 := fr1.keep ((Touch.refl (fun _ => False) w1).alloc (Obj.cells #[.string e.name, .int .i64 (e.method : Int), .int .u32 (e.sum : Int), .int .i64 (e.packed : Int), .int .i64 (e.size : Int), .int .i64 0, .int .i64 (e.maker : Int), .int .i64 (e.flags : Int), .int .i64 (e.disk : Int), .int .i64 (e.outer : Int), .string e.three, .int .i64 (e.ahead : Int), .int .i64 0] 125)) (fun e => e)
    clear HX h1' hea
    go_wp2_with fail
    refine (fault_c _ _ 0 e 0 0 HLA.out hok).mono ?_
    rintro e' w2 ⟨rfl, t2⟩
    have T2 := (T1.alloc _).trans t2
    have bx2 := (t2.block _ (by simp) (fun e => e)).trans bx
    have hro2 := t2.owns (hro1.alloc _) (fun _ _ h => h)
    have fr2 := hfr1.keep t2 (fun e => e)
    have hsz2 := t2.size
    rw [World.size_alloc] at hsz2
    have lt2 : w1.heap.size < w2.heap.size := by omega
    clear t2 bx HLA hfr1 fr1 hro1
    by_cases hfa : faultOf e = 0
    ·have hr := HX'.out
     rw [if_pos hfa] at hr
     have HN : Hid (R = entsGo s d.stop (d.count - (k + 1)) q (acc ++ [e])) := hr
     rw [hfa]
     clear hr HX'
     have c0 : w2.cell? ⟨w1.heap.size, 0, none⟩ = some (.string e.name) := by rw [row_cell bx2 0]; rfl
     have c1 : w2.cell? ⟨w1.heap.size, 1, none⟩ = some (.int .i64 (e.method : Int)) := by rw [row_cell bx2 1]; rfl
     have c2 : w2.cell? ⟨w1.heap.size, 2, none⟩ = some (.int .u32 (e.sum : Int)) := by rw [row_cell bx2 2]; rfl
     have c3 : w2.cell? ⟨w1.heap.size, 3, none⟩ = some (.int .i64 (e.packed : Int)) := by rw [row_cell bx2 3]; rfl
     have c4 : w2.cell? ⟨w1.heap.size, 4, none⟩ = some (.int .i64 (e.size : Int)) := by rw [row_cell bx2 4]; rfl
     have c5 : w2.cell? ⟨w1.heap.size, 5, none⟩ = some (.int .i64 0) := by rw [row_cell bx2 5]; rfl
     have c6 : w2.cell? ⟨w1.heap.size, 6, none⟩ = some (.int .i64 (e.maker : Int)) := by rw [row_cell bx2 6]; rfl
     have c7 : w2.cell? ⟨w1.heap.size, 7, none⟩ = some (.int .i64 (e.flags : Int)) := by rw [row_cell bx2 7]; rfl
     have c8 : w2.cell? ⟨w1.heap.size, 8, none⟩ = some (.int .i64 (e.disk : Int)) := by rw [row_cell bx2 8]; rfl
     have c9 : w2.cell? ⟨w1.heap.size, 9, none⟩ = some (.int .i64 (e.outer : Int)) := by rw [row_cell bx2 9]; rfl
     have c10 : w2.cell? ⟨w1.heap.size, 10, none⟩ = some (.string e.three) := by rw [row_cell bx2 10]; rfl
     have c11 : w2.cell? ⟨w1.heap.size, 11, none⟩ = some (.int .i64 (e.ahead : Int)) := by rw [row_cell bx2 11]; rfl
     have c12 : w2.cell? ⟨w1.heap.size, 12, none⟩ = some (.int .i64 0) := by rw [row_cell bx2 12]; rfl
     have HQ : Hid (∀ (j : Nat) (y : Value), (listL e 0 0)[j]? = some y → (w2.alloc (Obj.cells #[.string e.name, .int .i64 (e.method : Int), .int .u32 (e.sum : Int), .int .i64 (e.packed : Int), .int .i64 (e.size : Int), .int .i64 0, .int .i64 (e.maker : Int), .int .i64 (e.flags : Int), .int .i64 (e.disk : Int), .int .i64 (e.outer : Int), .string e.three, .int .i64 (e.ahead : Int), .int .i64 0] 125)).cell? ((⟨w2.heap.size, 0, none⟩ : Addr).add j) = some y) := cell_list_new w2 (listL e 0 0) _
     have b3 : acc.length + 1 ≤ maxLen := by unfold maxLen; omega
     have b4 : (acc.length + 1) * 120 ≤ 140737488355328 := by omega
     clear bx2
     go_wp2_with (at_builtin; refine wpList_append_own _ rfl _ _ 69 rfl (w.heap.size + 2) 125 i0 (.agg #[.string ⟨#[]⟩, .int .i64 0, .int .u32 0, .int .i64 0, .int .i64 0, .int .i64 0, .int .i64 0, .int .i64 0, .int .i64 0, .int .i64 0, .string ⟨#[]⟩, .int .i64 0, .int .i64 0]) 13 120 Tryz.underlying69 hi hz0 hz1 hz2 rfl (by decide) _ _ _ rfl (hro2.alloc _) ⟨w2.heap.size, 0, none⟩ 1 1 (listL e 0 0) rfl rfl HQ.out (by simp [listL, Value.oneCell']) b3 b4 (by simp; omega) ?_; intro v' w3 hown' hgrow hnil)
     have hrowB : ∀ q, u7.ownBlock = some q → w.heap.size + 2 ≤ q := fun q hq => (hro2.lt q hq).1
     have TB : Touch (fun q => u7.ownBlock = some q) w2 w3 := ((Touch.refl (fun q => u7.ownBlock = some q) w2).alloc _).grown hgrow (fun q hq => hq)
     have hsz3 := TB.size
     refine ⟨⟨k + 1, q, acc ++ [e], by omega, by simp; omega, by go_num, ?_, ?_, by omega, HN, ?_, by omega⟩, by simp [intOf]; omega⟩
     ·rw [lstV_snoc, List.length_append]; exact hown'
     ·refine fr2.keep TB (fun e => ?_)
      have := hrowB _ e; omega
     ·exact (T2.alloc _).grownNew hgrow (fun q hq => by have := hrowB q hq; omega)
    ·have hfa' : ¬ (faultOf e : Int) = 0 := by omega
     have hr := HX'.out
     rw [if_neg hfa] at hr
     have FIN : Hid (∀ w', takePost w.heap.size R (.returned (.tuple #[.slice none 0 0, .int .i64 (faultOf e : Int)])) w') := by
      intro w'; rw [hr]; rfl
     clear hr HX' bx2
     generalize faultOf e = fe at hfa hfa' FIN ⊢
     go_wp2
     go_ret2
     exact ⟨T2, FIN.out _⟩
  ·obtain rfl : k = d.count := by omega
   have hr := HK.out
   rw [Nat.sub_self] at hr
   have hr' : R = if p = d.stop then .ok acc else .error 5 := hr
   have r1 := hF.rest
   simp only [restOf] at r1
   by_cases hpe : p = d.stop
   ·rw [if_pos hpe] at hr'
    have em : (s.extract p d.stop).toList.isEmpty = true := by simpa using extract_empty s p d.stop (by omega)
    have FIN : Hid (takePost w.heap.size R (.returned (.tuple #[u7, .int .i64 0])) wr) := by
     unfold Hid
     rw [hr']
     have hll : (acc.map bareE).length = acc.length := List.length_map ..
     obtain ⟨q1, ⟨q2, q3⟩ | ⟨g', cap', cur, rfl, hrest⟩⟩ := id hro
     ·exact ⟨none, 0, w.heap.size, by rw [q2, hll, q3], by rw [hll]; omega, Nat.le_refl _, by rw [hll]; omega⟩
     ·obtain ⟨z1, z2, z3⟩ := LstAt.owned hro
      exact ⟨some ⟨g', 0, none⟩, cap', g', by rw [hll], fun _ => rfl, by omega, fun _ => ⟨z2, z3⟩⟩
    clear hr hr' HK hro hF
    go_wp2
    go_ret2
    exact ⟨ht, FIN.out⟩
   ·rw [if_neg hpe] at hr'
    have ne : (s.extract p d.stop).toList.isEmpty = false := by simpa using extract_nonempty s p d.stop h2 (by omega)
    have FIN : Hid (∀ w', takePost w.heap.size R (.returned (.tuple #[.slice none 0 0, .int .i64 5])) w') := by
     intro w'; rw [hr']; rfl
    clear hr hr' HK hro hF
    go_wp2
    go_ret2
    exact ⟨ht, FIN.out _⟩
end Go.Proofs.YtnmkmmgaoplfiaaGreatDoor
namespace Go.Proofs.YtnmkmmgaoplfiaaGreatDoor
open Go.RowKit Go.Shelf Go.Lib
def strV (l : List UInt8) : Value := .string ⟨l.toArray⟩
def strs (l : List (List UInt8)) : List Value := l.map strV
end Go.Proofs.YtnmkmmgaoplfiaaGreatDoor
namespace Go.Proofs.YtnmkmmgaoplfiaaGreatDoor
open Go.RowKit
def lexP : List (List UInt8) → List (List UInt8) → Bool
 | [], [] => false
 | [], _ :: _ => true
 | _ :: _, [] => false
 | x :: xs, y :: ys => if x = y then lexP xs ys else decide (x < y)
theorem ltL_pre (c : UInt8) (q : List UInt8) : ∀ p : List UInt8, p < p ++ c :: q
 | [] => List.nil_lt_cons ..
 | a :: p => by rw [List.cons_append, List.cons_lt_cons_iff]; exact .inr ⟨rfl, ltL_pre c q p⟩
theorem ltL_pre' (c : UInt8) (q : List UInt8) : ∀ p : List UInt8, ¬ p ++ c :: q < p
 | [] => List.not_lt_nil _
 | a :: p => by
  rw [List.cons_append, List.cons_lt_cons_iff]
  rintro (h | ⟨_, h⟩)
  ·exact UInt8.lt_irrefl _ h
  ·exact ltL_pre' c q p h
theorem ltL_at (a b : UInt8) (x y : List UInt8) (hab : a ≠ b) : ∀ p : List UInt8, (p ++ a :: x < p ++ b :: y) ↔ a < b
 | [] => by
  simp only [List.nil_append]
  rw [List.cons_lt_cons_iff]
  exact ⟨fun h => h.elim id (fun h => absurd h.1 hab), .inl⟩
 | c :: p => by
  rw [List.cons_append, List.cons_append, List.cons_lt_cons_iff, ltL_at a b x y hab p]
  exact ⟨fun h => h.elim (fun h => absurd h (UInt8.lt_irrefl _)) (·.2), fun h => .inr ⟨rfl, h⟩⟩
theorem partsGo_head : ∀ (u p : List UInt8), ∃ x xs, partsGo u p = (p ++ x) :: xs
 | [], p => ⟨[], [], by simp [partsGo]⟩
 | c :: u, p => by
  unfold partsGo
  split
  ·exact ⟨[], partsGo u [], by simp⟩
  ·obtain ⟨x, xs, h⟩ := partsGo_head u (p ++ [c])
   exact ⟨c :: x, xs, by rw [h]; simp⟩
theorem lexP_pos (p : List UInt8) (c : UInt8) (x : List UInt8) (r xs : List (List UInt8)) : lexP (p :: r) ((p ++ c :: x) :: xs) = true := by
 have hne : ¬ p = p ++ c :: x := fun e => by
  have := congrArg List.length e; simp at this
 simp only [lexP, if_neg hne]
 exact decide_eq_true (ltL_pre c x p)
theorem lexP_neg (p : List UInt8) (c : UInt8) (x : List UInt8) (r xs : List (List UInt8)) : lexP ((p ++ c :: x) :: xs) (p :: r) = false := by
 have hne : ¬ p ++ c :: x = p := fun e => by
  have := congrArg List.length e; simp at this
 simp only [lexP, if_neg hne]
 exact decide_eq_false (ltL_pre' c x p)
theorem rk_pos {c : UInt8} (h : c ≠ 0) (h47 : c ≠ 47) : 0 < rk c := by
 unfold rk; rw [if_neg h47]
 have : c.toNat ≠ 0 := fun e => h (UInt8.toNat_inj.1 (by simpa using e))
 omega
theorem lexP_eq : ∀ (u v p : List UInt8), NoNul u → NoNul v → lexP (partsGo u p) (partsGo v p) = decide (cmpP u v < 0)
 | [], [], p, _, _ => by simp [partsGo, lexP, cmpP]
 | [], c :: v, p, _, hv => by
  have e : decide (cmpP [] (c :: v) < 0) = true := by simp [cmpP]
  rw [e]
  by_cases h : c = 47
  ·obtain ⟨x, xs, hx⟩ := partsGo_head v []
   rw [partsGo, partsGo, if_pos h, lexP, if_pos rfl, hx]; rfl
  ·obtain ⟨x, xs, hx⟩ := partsGo_head v (p ++ [c])
   rw [partsGo, partsGo, if_neg h, hx, List.append_assoc]
   exact lexP_pos p c x [] xs
 | c :: u, [], p, hu, _ => by
  have e : decide (cmpP (c :: u) [] < 0) = false := by simp [cmpP]
  rw [e]
  by_cases h : c = 47
  ·obtain ⟨x, xs, hx⟩ := partsGo_head u []
   rw [partsGo, partsGo, if_pos h, lexP, if_pos rfl, hx]; rfl
  ·obtain ⟨x, xs, hx⟩ := partsGo_head u (p ++ [c])
   rw [partsGo, partsGo, if_neg h, hx, List.append_assoc]
   exact lexP_neg p c x [] xs
 | a :: u, b :: v, p, hu, hv => by
  have hu' : NoNul u := fun c hc => hu c (List.mem_cons_of_mem _ hc)
  have hv' : NoNul v := fun c hc => hv c (List.mem_cons_of_mem _ hc)
  have ha := hu a (List.mem_cons_self ..)
  have hb := hv b (List.mem_cons_self ..)
  by_cases e : a = b
  ·subst e
   simp only [cmpP, if_pos]
   by_cases h : a = 47
   ·rw [partsGo, partsGo, if_pos h, if_pos h, lexP, if_pos rfl]
    exact lexP_eq u v [] hu' hv'
   ·rw [partsGo, partsGo, if_neg h, if_neg h]
    exact lexP_eq u v (p ++ [a]) hu' hv'
  ·simp only [cmpP, if_neg e]
   rw [show decide (Lib.compareInt (rk a : Int) (rk b : Int) < 0) = decide ((rk a : Int) < (rk b : Int)) from decide_eq_decide.2 (compareInt_neg _ _)]
   by_cases h1 : a = 47
   ·have h2 : ¬ b = 47 := fun h => e (h1.trans h.symm)
    obtain ⟨y, ys, hy⟩ := partsGo_head v (p ++ [b])
    rw [partsGo, partsGo, if_pos h1, if_neg h2, hy, List.append_assoc]
    have := rk_pos hb h2
    have z : rk a = 0 := by unfold rk; rw [if_pos h1]
    rw [decide_eq_true (show (rk a : Int) < (rk b : Int) by omega)]
    exact lexP_pos p b y _ ys
   ·obtain ⟨x, xs, hx⟩ := partsGo_head u (p ++ [a])
    by_cases h2 : b = 47
    ·rw [partsGo, partsGo, if_neg h1, if_pos h2, hx, List.append_assoc]
     have z : rk b = 0 := by unfold rk; rw [if_pos h2]
     rw [decide_eq_false (show ¬ (rk a : Int) < (rk b : Int) by omega)]
     exact lexP_neg p a x _ xs
    ·obtain ⟨y, ys, hy⟩ := partsGo_head v (p ++ [b])
     rw [partsGo, partsGo, if_neg h1, if_neg h2, hx, hy, List.append_assoc, List.append_assoc]
     have hne : ¬ p ++ ([a] ++ x) = p ++ ([b] ++ y) := fun h => by
      have := List.append_cancel_left h
      simp at this; exact e this.1
     simp only [lexP, if_neg hne]
     refine decide_eq_decide.2 ?_
     have := ltL_at a b x y e p
     simp only [List.cons_append, List.nil_append]
     rw [this]
     have z1 : rk a = a.toNat := by unfold rk; rw [if_neg h1]
     have z2 : rk b = b.toNat := by unfold rk; rw [if_neg h2]
     rw [z1, z2, UInt8.lt_iff_toNat_lt]; omega
theorem cmpP_tail : ∀ (u v e f : List UInt8), u ≠ v → NoNul u → NoNul v → (e = [] ∨ e = [47]) → (f = [] ∨ f = [47]) → u.getLast? ≠ some 47 → v.getLast? ≠ some 47 → (cmpP (u ++ e) (v ++ f) < 0 ↔ cmpP u v < 0)
 | [], [], _, _, h, _, _, _, _, _, _ => absurd rfl h
 | [], c :: v, e, f, _, _, hv, he, hf, _, hl => by
  have hc := hv c (List.mem_cons_self ..)
  have r : cmpP [] (c :: v) < 0 := by simp [cmpP]
  refine ⟨fun _ => r, fun _ => ?_⟩
  rcases he with rfl | rfl
  ·simp [cmpP]
  ·simp only [List.nil_append, List.cons_append, cmpP]
   by_cases h47 : c = 47
   ·rw [if_pos h47.symm]
    cases v with
    | nil => rw [h47] at hl; simp at hl
    | cons d v => simp [cmpP]
   ·rw [if_neg (fun h => h47 h.symm), compareInt_neg]
    have := rk_pos hc h47
    have z : rk 47 = 0 := rfl
    omega
 | c :: u, [], e, f, _, hu, _, he, hf, hl, _ => by
  have hc := hu c (List.mem_cons_self ..)
  have r : ¬ cmpP (c :: u) [] < 0 := by simp [cmpP]
  refine ⟨fun h => ?_, fun h => absurd h r⟩
  rcases hf with rfl | rfl
  ·simp [cmpP] at h
  ·simp only [List.nil_append, List.cons_append, cmpP] at h
   by_cases h47 : c = 47
   ·rw [if_pos h47] at h
    cases u with
    | nil => rw [h47] at hl; simp at hl
    | cons d u => simp [cmpP] at h
   ·rw [if_neg h47, compareInt_neg] at h
    have := rk_pos hc h47
    have z : rk 47 = 0 := rfl
    omega
 | a :: u, b :: v, e, f, h, hu, hv, he, hf, hlu, hlv => by
  simp only [List.cons_append, cmpP]
  by_cases hab : a = b
  ·rw [if_pos hab, if_pos hab]
   have hne : u ≠ v := fun e => h (by rw [hab, e])
   refine cmpP_tail u v e f hne (fun c hc => hu c (List.mem_cons_of_mem _ hc)) (fun c hc => hv c (List.mem_cons_of_mem _ hc)) he hf ?_ ?_
   ·cases u with
    | nil => simp
    | cons d u => simpa using hlu
   ·cases v with
    | nil => simp
    | cons d v => simpa using hlv
  ·rw [if_neg hab, if_neg hab]
end Go.Proofs.YtnmkmmgaoplfiaaGreatDoor
namespace Go.Proofs.YtnmkmmgaoplfiaaGreatDoor
open Go.RowKit
abbrev Fil := ByteArray × List UInt8
def lessF (a b : ByteArray) : Bool := lexP (partsGo (bareL a) []) (partsGo (bareL b) [])
def putF : List Fil → Fil → List Fil
 | [], f => [f]
 | x :: l, f => if x.1 = f.1 then x :: l else if lessF f.1 x.1 then f :: x :: l else x :: putF l f
def putFolds (nm : List UInt8) : Nat → Nat → List Fil → List Fil
 | 0, _, out => out
 | f + 1, i, out => putFolds nm f (i + 1) (if nm[i]? = some 47 then putF out (folOf (nm.take (i + 1))) else out)
def refGo (s : ByteArray) : List Spanned → List Fil → Sum Nat (List Fil)
 | [], out => .inr out
 | x :: l, out => if folderB x.ent.name then refGo s l (putFolds x.ent.name.data.toList x.ent.name.size 0 out) else match dataOfE s x with
  | .inl k => .inl k
  | .inr d => refGo s l (putF (putFolds x.ent.name.data.toList x.ent.name.size 0 out) (x.ent.name, d))
@[reducible] def Srt (l : List Fil) : Prop := l.Pairwise fun a b => cmpP a.1.data.toList b.1.data.toList < 0
structure OrdOn (P : ByteArray → Prop) : Prop where
 less : ∀ a b, P a → P b → a ≠ b → lessF a b = decide (cmpP a.data.toList b.data.toList < 0)
 nul : ∀ a, P a → NoNul a.data.toList
theorem byte_ext {a b : ByteArray} (h : a.data.toList = b.data.toList) : a = b := by
 apply ByteArray.ext; exact Array.toList_inj.1 h
theorem cmpP_self : ∀ l : List UInt8, cmpP l l = 0
 | [] => rfl
 | a :: l => by simp [cmpP, cmpP_self l]
theorem OrdOn.tri {P : ByteArray → Prop} (h : OrdOn P) {a b : ByteArray} (ha : P a) (hb : P b) (hne : a ≠ b) (hn : ¬ cmpP a.data.toList b.data.toList < 0) : cmpP b.data.toList a.data.toList < 0 := by
 have h1 := cmpP_swap a.data.toList b.data.toList
 have h2 : cmpP a.data.toList b.data.toList ≠ 0 := fun e => hne (byte_ext (cmpP_zero _ _ (h.nul a ha) (h.nul b hb) e))
 omega
theorem putF_mem {P : ByteArray → Prop} (hP : OrdOn P) (f : Fil) (hf : P f.1) : ∀ l : List Fil, (∀ x ∈ l, P x.1) → Srt l → (∃ x ∈ l, x.1 = f.1) → putF l f = l
 | [], _, _, h => by obtain ⟨x, hx, _⟩ := h; cases hx
 | x :: l, hl, hs, h => by
  unfold putF
  by_cases e : x.1 = f.1
  ·rw [if_pos e]
  ·rw [if_neg e]
   obtain ⟨y, hy, hyf⟩ := h
   have hyl : y ∈ l := by
    rcases List.mem_cons.1 hy with rfl | hy
    ·exact absurd hyf e
    ·exact hy
   have hlt := (List.pairwise_cons.1 hs).1 y hyl
   rw [hyf] at hlt
   have hls : lessF f.1 x.1 = false := by
    rw [hP.less _ _ hf (hl x (List.mem_cons_self ..)) (fun h => e h.symm)]
    refine decide_eq_false (fun h => ?_)
    have := cmpP_swap x.1.data.toList f.1.data.toList
    omega
   rw [hls]
   simp only [Bool.false_eq_true, if_false]
   rw [putF_mem hP f hf l (fun x hx => hl x (List.mem_cons_of_mem _ hx)) (List.pairwise_cons.1 hs).2 ⟨y, hyl, hyf⟩]
theorem putF_new {P : ByteArray → Prop} (hP : OrdOn P) (f : Fil) (hf : P f.1) : ∀ l : List Fil, (∀ x ∈ l, P x.1) → Srt l → (∀ x ∈ l, x.1 ≠ f.1) → (putF l f).Perm (f :: l) ∧ Srt (putF l f)
 | [], _, _, _ => ⟨List.Perm.refl _, List.pairwise_singleton ..⟩
 | x :: l, hl, hs, h => by
  have hx := hl x (List.mem_cons_self ..)
  have hne := h x (List.mem_cons_self ..)
  have hs1 := (List.pairwise_cons.1 hs).1
  have hs2 := (List.pairwise_cons.1 hs).2
  unfold putF
  rw [if_neg hne, hP.less _ _ hf hx (fun e => hne e.symm)]
  by_cases hlt : cmpP f.1.data.toList x.1.data.toList < 0
  ·rw [decide_eq_true hlt]
   simp only [if_true]
   refine ⟨List.Perm.refl _, List.pairwise_cons.2 ⟨fun y hy => ?_, hs⟩⟩
   rcases List.mem_cons.1 hy with rfl | hy
   ·exact hlt
   ·exact cmpP_trans _ _ _ (hP.nul _ hf) (hP.nul _ hx) (hP.nul _ (hl y (List.mem_cons_of_mem _ hy))) hlt (hs1 y hy)
  ·rw [decide_eq_false hlt]
   simp only [Bool.false_eq_true, if_false]
   obtain ⟨i1, i2⟩ := putF_new hP f hf l (fun x hx => hl x (List.mem_cons_of_mem _ hx)) hs2 (fun x hx => h x (List.mem_cons_of_mem _ hx))
   refine ⟨(i1.cons x).trans (List.Perm.swap ..), List.pairwise_cons.2 ⟨fun y hy => ?_, i2⟩⟩
   rcases List.mem_cons.1 (i1.mem_iff.1 hy) with rfl | hy
   ·exact hP.tri hf hx (fun e => hne e.symm) hlt
   ·exact hs1 y hy
theorem sorted_one : ∀ (out d : List Fil), d.Perm out → Srt out → (d.Pairwise fun a b => cmpP a.1.data.toList b.1.data.toList ≤ 0) → d = out
 | [], d, h, _, _ => h.eq_nil
 | x :: o, [], h, _, _ => by have := h.length_eq; simp at this
 | x :: o, y :: e, h, h1, h2 => by
  have hx : x ∈ y :: e := h.mem_iff.2 (List.mem_cons_self ..)
  have hy : y ∈ x :: o := h.mem_iff.1 (List.mem_cons_self ..)
  have hxy : x = y := by
   rcases List.mem_cons.1 hx with h' | hx
   ·exact h'
   ·rcases List.mem_cons.1 hy with h' | hy
    ·exact h'.symm
    ·have a := (List.pairwise_cons.1 h1).1 y hy
     have b := (List.pairwise_cons.1 h2).1 x hx
     have c := cmpP_swap x.1.data.toList y.1.data.toList
     omega
  subst hxy
  rw [sorted_one o e ((List.perm_cons x).1 h) (List.pairwise_cons.1 h1).2 (List.pairwise_cons.1 h2).2]
theorem parts_apart : ∀ (t p : List UInt8), (∀ x ∈ partsGo t p, x ≠ []) → ∀ k, (t[k]? = some 47 ∨ k = t.length) → (k = 0 → p ≠ []) ∧ ∀ j, k = j + 1 → t[j]? ≠ some 47
 | [], p, h, k, hk => by
  have hk0 : k = 0 := by rcases hk with hk | hk <;> simp at hk; exact hk
  subst hk0
  exact ⟨fun _ => h p (by simp [partsGo]), fun j hj => by omega⟩
 | c :: t, p, h, k, hk => by
  by_cases hc : c = 47
  ·rw [partsGo, if_pos hc] at h
   cases k with
   | zero => exact ⟨fun _ => h p (List.mem_cons_self ..), fun j hj => by omega⟩
   | succ k =>
    have ih := parts_apart t [] (fun x hx => h x (List.mem_cons_of_mem _ hx)) k (by rcases hk with hk | hk <;> simp at hk <;> simp [hk])
    refine ⟨fun e => by omega, fun j hj => ?_⟩
    obtain rfl : k = j := by omega
    cases k with
    | zero => exact absurd rfl (ih.1 rfl)
    | succ k => rw [List.getElem?_cons_succ]; exact ih.2 k rfl
  ·rw [partsGo, if_neg hc] at h
   cases k with
   | zero => rcases hk with hk | hk <;> simp at hk; exact absurd hk hc
   | succ k =>
    have ih := parts_apart t (p ++ [c]) h k (by rcases hk with hk | hk <;> simp at hk <;> simp [hk])
    refine ⟨fun e => by omega, fun j hj => ?_⟩
    obtain rfl : k = j := by omega
    cases k with
    | zero => simp; exact hc
    | succ k => rw [List.getElem?_cons_succ]; exact ih.2 k rfl
end Go.Proofs.YtnmkmmgaoplfiaaGreatDoor
namespace Go.Proofs.YtnmkmmgaoplfiaaGreatDoor
open Go.RowKit Go.Shelf Go.Lib
structure StrsAt (w : World) (g : Nat) (X : List (List UInt8)) : Prop where
 cells : ∀ i (h : i < X.length), w.cell? ⟨g, i, none⟩ = some (strV X[i])
 lt : g < w.heap.size
theorem StrsAt.keep {S : Nat → Prop} {w w' : World} {g : Nat} {X : List (List UInt8)} (h : StrsAt w g X) (ht : Touch S w w') (hs : ¬ S g) : StrsAt w' g X :=
 ⟨fun i hi => (ht.cell (p := ⟨g, i, none⟩) h.lt hs).trans (h.cells i hi), Nat.lt_of_lt_of_le h.lt ht.size⟩
theorem StrsAt.owned {w : World} {base : Nat} {v : Value} {X : List (List UInt8)} (h : w.ownsRow base 9 1 v X.length (strs X)) (hX : 0 < X.length) : ∃ g cap, v = .slice (some ⟨g, 0, none⟩) X.length cap ∧ StrsAt w g X := by
 obtain ⟨h1, ⟨h2, h3⟩ | ⟨g', cap', cur, rfl, hb, hg, h3, h4, h5, h6⟩⟩ := h
 ·omega
 ·refine ⟨g', cap', rfl, fun i hi => ?_, (Array.getElem?_eq_some_iff.1 hg).1⟩
  have e : (strs X)[i]? = some (strV X[i]) := by unfold strs; rw [List.getElem?_map, List.getElem?_eq_getElem hi]; rfl
  rw [row_cell hg i, ← e, ← h6, List.getElem?_take_of_lt (by omega)]; simp
end Go.Proofs.YtnmkmmgaoplfiaaGreatDoor
