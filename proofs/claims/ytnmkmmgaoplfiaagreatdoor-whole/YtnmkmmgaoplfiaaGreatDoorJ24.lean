/- Texts of this seat, joined. -/
import Derived.Test.YtnmkmmgaoplfiaaGreatDoorJ09
import Derived.Test.YtnmkmmgaoplfiaaGreatDoorJ07
import Derived.Test.YtnmkmmgaoplfiaaGreatDoorJ10
import Derived.Deep.QuietTactic
import Derived.BigQuiet
set_option linter.unusedSimpArgs false
set_option linter.unusedVariables false
set_option maxRecDepth 100000
set_option maxHeartbeats 20000000
namespace Go.Proofs.YtnmkmmgaoplfiaaGreatDoor
open Go.RowKit
def restLen (w : World) (b : Nat) : Nat := match w.cell? ⟨b, 0, none⟩ with
 | some (.string x) => x.size
 | _ => 0
theorem restLen_some {w : World} {b : Nat} {s : ByteArray} {E q : Nat} (h : FR w b s E (some q)) : restLen w b = E - q := by
 unfold restLen; rw [h.rest]; simp only [restOf, ByteArray.size_extract]; have := h.size; omega
theorem restLen_none {w : World} {b : Nat} {s : ByteArray} {E : Nat} (h : FR w b s E none) : restLen w b = 0 := by
 unfold restLen; rw [h.rest]; rfl
def wideBytes (s : ByteArray) (f : Option (Nat × Nat)) : ByteArray := s.extract (f.getD (0, 0)).1 (f.getD (0, 0)).2
theorem extract_nonempty (s : ByteArray) (p E : Nat) (hE : E ≤ s.size) (h : p < E) : ¬ (s.extract p E).toList = [] := by
 intro e
 have : (s.extract p E).size = 0 := by rw [Lib.size_eq, ← ByteArray.toList_eq, e]; rfl
 rw [ByteArray.size_extract] at this; omega
theorem extract_empty (s : ByteArray) (p E : Nat) (h : E ≤ p) : (s.extract p E).toList = [] := by
 have : (s.extract p E).size = 0 := by rw [ByteArray.size_extract]; omega
 rw [Lib.size_eq, ← ByteArray.toList_eq] at this
 exact List.eq_nil_of_length_eq_zero this
theorem fldTo_off (E p k : Nat) (h : ¬ p + k ≤ E) : fldTo E (some p) k = none := by simp [fldTo, h]
theorem findWideExtra_c (w : World) (s : ByteArray) (p0 E f0 : Nat) (hp : p0 ≤ E) (hE : E ≤ s.size) (hs : s.size ≤ 140737488355328) (hf : E - p0 ≤ f0) :
  Calls Tryz.prog 87 #[.string (s.extract p0 E)] w fun r w' => ∃ x : ByteArray, r = .returned (.tuple #[.string x, .bool (wideGo s E f0 p0 none).isSome]) ∧ (∀ f, wideGo s E f0 p0 none = some f → x = wideBytes s f) ∧ Touch (fun _ => False) w w' := by
 have fr0 := FR.newE w s p0 E hp hE _ rfl
 have T0 : Touch (fun _ => False) w (w.alloc (.cells #[.string (s.extract p0 E), .bool false] 121)) := (Touch.refl _ w).alloc _
 obtain ⟨R, hR⟩ : ∃ R, R = wideGo s E f0 p0 none := ⟨_, rfl⟩
 have FIN : Hid (∀ (x : ByteArray) (b : Bool) (W : World), b = R.isSome → (∀ f, R = some f → x = wideBytes s f) → Touch (fun _ => False) w W → ∃ x' : ByteArray, Ending.returned (.tuple #[.string x, .bool b]) = Ending.returned (.tuple #[.string x', .bool (wideGo s E f0 p0 none).isSome]) ∧ (∀ f, wideGo s E f0 p0 none = some f → x' = wideBytes s f) ∧ Touch (fun _ => False) w W) := by
  intro x b W h1 h2 h3
  rw [← hR]; exact ⟨x, by rw [h1], h2, h3⟩
 have HR : Hid (R = wideGo s E f0 p0 none) := hR
 have he : wideBytes s none = ⟨#[]⟩ := by unfold wideBytes; apply ByteArray.ext; simp
 clear hR
 go_enter Tryz.func87, Tryz.ntmps87
 go_wp2
 go_loopw [5, 6] (fun x fd wr => (∃ (p f : Nat) (fo : Option (Nat × Nat)), x = .string (wideBytes s fo) ∧ fd = .bool fo.isSome ∧ FR wr w.heap.size s E (some p) ∧ E - p ≤ f ∧ Hid (R = wideGo s E f p fo) ∧ Touch (fun _ => False) w wr)
   ∨ (∃ (y : ByteArray) (c : Bool), x = .string y ∧ fd = .bool c ∧ FR wr w.heap.size s E none ∧ Hid (R = none) ∧ Touch (fun _ => False) w wr)) (fun x fd wr => restLen wr w.heap.size)
 case atStart => exact .inl ⟨p0, f0, none, by rw [he], rfl, fr0, hf, HR, T0⟩
 case round =>
  rcases hrel with ⟨p, f, fo, rfl, rfl, hF, hf1, HK, ht⟩ | ⟨y, c, rfl, rfl, hF, HK, ht⟩
  ·have r1 := hF.rest
   have s1 := hF.short
   have HLp : Hid (restLen wr w.heap.size = E - p) := restLen_some hF
   simp only [restOf] at r1
   simp only [Option.isNone_some] at s1
   by_cases hlt : p < E
   ·have ne : (s.extract p E).toList.isEmpty = false := by simpa using extract_nonempty s p E hE hlt
    obtain ⟨f', rfl⟩ : ∃ f', f = f' + 1 := ⟨f - 1, by omega⟩
    by_cases hfit : p + 4 + numIn s (p + 2) 2 ≤ E ∧ p + 4 ≤ E
    ·have HN : Hid (R = wideGo s E f' (p + 4 + numIn s (p + 2) 2) (if numIn s p 2 = 1 ∧ fo = none then some (p + 4, p + 4 + numIn s (p + 2) 2) else fo)) := by
      unfold Hid; rw [HK.out, wideGo, if_pos hlt, if_pos hfit]
     have hw : wideBytes s (some (p + 4, p + 4 + numIn s (p + 2) 2)) = s.extract (p + 4) (p + 4 + numIn s (p + 2) 2) := rfl
     have n2 := numIn_le s (p + 2) 2
     go_wp2_with fail
     refine (fnum_some _ _ s E p 2 hF (by omega) (by omega) hs).mono ?_
     rintro e w1 ⟨rfl, f1, t1⟩
     have T1 := ht.onNew t1 (Nat.le_refl _)
     clear t1 hF r1 s1 ne
     go_wp2_with fail
     refine (fnum_some _ _ s E (p + 2) 2 f1 (by omega) (by omega) hs).mono ?_
     rintro e w2 ⟨rfl, f2, t2⟩
     have T2 := T1.onNew t2 (Nat.le_refl _)
     clear t2 f1 T1
     have HV : Hid (∃ k m, k = numIn s p 2 ∧ m = numIn s (p + 2) 2) := ⟨_, _, rfl, rfl⟩
     obtain ⟨kd, hkd⟩ : ∃ k, k = numIn s p 2 := ⟨_, rfl⟩
     obtain ⟨m, hm⟩ : ∃ k, k = numIn s (p + 2) 2 := ⟨_, rfl⟩
     rw [← hkd, ← hm] at HN
     rw [← hm] at hw n2 hfit
     rw [← hkd, ← hm]
     clear hkd hm HV HK
     go_wp2_with fail
     refine (take_some _ _ s E (p + 2 + 2) m f2 (by omega) hs).mono ?_
     rintro e w3 ⟨rfl, f3, t3⟩
     have T3 := T2.onNew t3 (Nat.le_refl _)
     clear t3 f2 T2
     have f3' : FR w3 w.heap.size s E (some (p + 4 + m)) := f3
     have hlen : restLen w3 w.heap.size < E - p := by rw [restLen_some f3']; omega
     have HL : Hid (restLen wr w.heap.size = E - p) := HLp
     clear f3
     by_cases hk1 : (kd : Int) = 1
     ·have hk1' : ((kd : Int) == 1) = true := by simpa using hk1
      cases fo with
      | none =>
       rw [if_pos ⟨by omega, rfl⟩] at HN
       go_wp2
       exact ⟨.inl ⟨p + 4 + m, f', some (p + 4, p + 4 + m), by rw [hw], rfl, f3', by omega, HN, T3⟩, by rw [HL.out]; exact hlen⟩
      | some z =>
       rw [if_neg (by simp)] at HN
       go_wp2
       exact ⟨.inl ⟨p + 4 + m, f', some z, rfl, rfl, f3', by omega, HN, T3⟩, by rw [HL.out]; exact hlen⟩
     ·have hk1' : ((kd : Int) == 1) = false := by simpa using hk1
      rw [if_neg (by omega)] at HN
      go_wp2
      exact ⟨.inl ⟨p + 4 + m, f', fo, rfl, rfl, f3', by omega, HN, T3⟩, by rw [HL.out]; exact hlen⟩
    ·have HN : Hid (R = none) := by unfold Hid; rw [HK.out, wideGo, if_pos hlt, if_neg hfit]
     have HL : Hid (restLen wr w.heap.size = E - p) := HLp
     go_wp2_with fail
     refine (fnumber_c _ _ s E (some p) 2 2 rfl (by omega) hs hF).mono ?_
     rintro e w1 ⟨rfl, f1, t1⟩
     have T1 := ht.onNew t1 (Nat.le_refl _)
     clear t1 hF r1 s1 ne
     go_wp2_with fail
     refine (fnumber_c _ _ s E _ 2 2 rfl (by omega) hs f1).mono ?_
     rintro e w2 ⟨rfl, f2, t2⟩
     rw [fldTo_add] at f2
     have T2 := T1.onNew t2 (Nat.le_refl _)
     clear t2 f1 T1
     have n2 := fldNum_lt s E (fldTo E (some p) 2) 2 hE
     have hnone : fldTo E (some p) (2 + 2 + fldNum s E (fldTo E (some p) 2) 2) = none := by
      by_cases h4 : p + 4 ≤ E
      ·have e1 : fldTo E (some p) 2 = some (p + 2) := by simp [fldTo]; omega
       rw [e1, fldNum_some s E (p + 2) 2 hE (by omega)]
       exact fldTo_off E p _ (by omega)
      ·exact fldTo_off E p _ (by omega)
     have HNone : Hid (fldTo E (some p) (2 + 2 + fldNum s E (fldTo E (some p) 2) 2) = none) := hnone
     clear hnone
     go_wp2_with fail
     refine (take_c _ _ s E _ _ _ rfl (by omega) hs f2).mono ?_
     rintro e w3 ⟨rfl, f3, t3⟩
     rw [fldTo_add, HNone.out] at f3
     have T3 := T2.onNew t3 (Nat.le_refl _)
     clear t3 f2 T2
     have hlen : restLen w3 w.heap.size < E - p := by rw [restLen_none f3]; omega
     generalize fldOf s E _ _ = fb
     generalize fldNum s E (some p) 2 = kd
     clear HNone n2 HK
     by_cases hk1 : (kd : Int) = 1
     ·have hk1' : ((kd : Int) == 1) = true := by simpa using hk1
      cases fo with
      | none =>
       go_wp2
       exact ⟨.inr ⟨fb, true, rfl, rfl, f3, HN, T3⟩, by rw [HL.out]; exact hlen⟩
      | some z =>
       go_wp2
       exact ⟨.inr ⟨_, true, rfl, rfl, f3, HN, T3⟩, by rw [HL.out]; exact hlen⟩
     ·have hk1' : ((kd : Int) == 1) = false := by simpa using hk1
      go_wp2
      exact ⟨.inr ⟨_, _, rfl, rfl, f3, HN, T3⟩, by rw [HL.out]; exact hlen⟩
   ·have em : (s.extract p E).toList.isEmpty = true := by simpa using extract_empty s p E (by omega)
    have HN : Hid (R = some fo) := by
     unfold Hid; rw [HK.out]; cases f <;> rw [wideGo, if_neg hlt]
    go_wp2
    go_quiet (fail)
    go_wp2
    go_ret2
    exact FIN.out _ _ _ (by rw [HN.out]; rfl) (fun f' h => by rw [HN.out] at h; cases h; rfl) (ht.drewN _)
  ·have r1 := hF.rest
   have s1 := hF.short
   simp only [restOf] at r1
   simp only [Option.isNone_none] at s1
   go_wp2
   go_quiet (fail)
   go_wp2
   go_ret2
   exact FIN.out _ _ _ (by rw [HK.out]; rfl) (fun f' h => by rw [HK.out] at h; cases h) (ht.drewN _)
end Go.Proofs.YtnmkmmgaoplfiaaGreatDoor
namespace Go.Proofs.YtnmkmmgaoplfiaaGreatDoor
open Go.RowKit
def updN (c : Nat → Nat) (k v : Nat) : Nat → Nat := fun j => if j = k then v else c j
def mGo (s : ByteArray) (e : Nat) : Nat → Nat → Nat → (Nat → Nat) → Option (Nat → Nat)
 | 0, _, _, cur => some cur
 | f + 1, k, c, cur => (meant s e c (cur k)).bind fun x => mGo s e f (k + 1) x.2 (updN cur k x.1)
theorem mGo_all (s : ByteArray) (c e z k a : Nat) (cur : Nat → Nat) (h0 : cur 0 = z) (h1 : cur 1 = k) (h2 : cur 2 = a) : meantAll s c e z k a = (mGo s e 3 0 c cur).map fun d => (d 0, d 1, d 2) := by
 unfold meantAll
 simp only [mGo]
 rw [h0]
 cases meant s e c z with
 | none => rfl
 | some x =>
  simp only [Option.bind_some]
  rw [show updN cur 0 x.1 1 = k by simp [updN, h1]]
  cases meant s e x.2 k with
  | none => rfl
  | some y =>
   simp only [Option.bind_some]
   rw [show updN (updN cur 0 x.1) 1 y.1 2 = a by simp [updN, h2]]
   cases meant s e y.2 a with
   | none => rfl
   | some u => simp [updN]
def offOf (k : Nat) : Nat := if k = 0 then 4 else if k = 1 then 3 else 11
theorem wideGo_le (s : ByteArray) (E : Nat) : ∀ (f p : Nat) (fo r : Option (Nat × Nat)), wideGo s E f p fo = some r → (fo.getD (0, 0)).1 ≤ (fo.getD (0, 0)).2 ∧ (fo.getD (0, 0)).2 ≤ E → (r.getD (0, 0)).1 ≤ (r.getD (0, 0)).2 ∧ (r.getD (0, 0)).2 ≤ E
 | 0, p, fo, r, h, ho => by
  unfold wideGo at h; split at h
  ·cases h
  ·cases h; exact ho
 | f + 1, p, fo, r, h, ho => by
  unfold wideGo at h; split at h
  ·split at h
   ·rename_i h2
    refine wideGo_le s E f _ _ r h ?_
    split
    ·exact ⟨by simp, h2.1⟩
    ·exact ho
   ·cases h
  ·cases h; exact ho
structure Nums (w : World) (lb : Nat) (cur : Nat → Nat) : Prop where
 cell : ∀ j, j < 3 → w.cell? ⟨lb, offOf j, none⟩ = some (.int .i64 (cur j : Int))
 frozen : ∀ j, w.frozen? ⟨lb, j, none⟩ = false
theorem Nums.keep {w w' : World} {S : Nat → Prop} {lb : Nat} {cur : Nat → Nat} (h : Nums w lb cur) (ht : Touch S w w') (hs : ¬ S lb) : Nums w' lb cur := by
 have hl := World.block_lt_of_cell? w _ (h.cell 0 (by omega))
 exact ⟨fun j hj => ht.at (h.cell j hj) hs, fun j => (ht.frozen (p := ⟨lb, j, none⟩) hl hs).trans (h.frozen j)⟩
theorem offOf_inj {i j : Nat} (hi : i < 3) (hj : j < 3) (h : offOf i = offOf j) : i = j := by
 unfold offOf at h
 rcases (by omega : i = 0 ∨ i = 1 ∨ i = 2) with rfl | rfl | rfl <;> rcases (by omega : j = 0 ∨ j = 1 ∨ j = 2) with rfl | rfl | rfl <;> simp at h ⊢
theorem Nums.set {w : World} {lb : Nat} {cur : Nat → Nat} (h : Nums w lb cur) {k : Nat} (hk : k < 3) (v : Nat) : Nums (w.setCell ⟨lb, offOf k, none⟩ (.int .i64 (v : Int))) lb (updN cur k v) := by
 refine ⟨fun j hj => ?_, fun j => by rw [World.frozen?_setCell]; exact h.frozen j⟩
 rw [cell_set_if]
 unfold updN
 by_cases e : j = k
 ·subst e; rw [if_pos ⟨rfl, rfl⟩, h.cell j hj, if_pos rfl]; rfl
 ·rw [if_neg (fun hh => e (offOf_inj hj hk hh.2.symm)), h.cell j hj, if_neg e]
theorem takeMeant_c (w : World) (s : ByteArray) (p0 E f0 lb nb : Nat) (cur : Nat → Nat) (hp : p0 ≤ E) (hE : E ≤ s.size) (hs : s.size ≤ 140737488355328) (hf : E - p0 ≤ f0)
  (hN : Nums w lb cur) (hnb : ∀ j, j < 3 → w.cell? ⟨nb, j, none⟩ = some (.pointer (some ⟨lb, offOf j, none⟩))) (hne : nb ≠ lb) :
  Calls Tryz.prog 67 #[.string (s.extract p0 E), .slice (some ⟨nb, 0, none⟩) 3 3] w fun r w' =>
   r = .returned (.bool ((wideGo s E f0 p0 none).bind fun fo => mGo s (fo.getD (0, 0)).2 3 0 (fo.getD (0, 0)).1 cur).isSome)
   ∧ (∃ d, Nums w' lb d ∧ (((wideGo s E f0 p0 none).bind fun fo => mGo s (fo.getD (0, 0)).2 3 0 (fo.getD (0, 0)).1 cur) = none ∨ ((wideGo s E f0 p0 none).bind fun fo => mGo s (fo.getD (0, 0)).2 3 0 (fo.getD (0, 0)).1 cur) = some d))
   ∧ (∀ j, j ≠ 4 → j ≠ 3 → j ≠ 11 → w'.cell? ⟨lb, j, none⟩ = w.cell? ⟨lb, j, none⟩) ∧ Touch (fun k => k = lb) w w' := by
 have hl := World.block_lt_of_cell? w _ (hN.cell 0 (by omega))
 have hln := World.block_lt_of_cell? w _ (hnb 0 (by omega))
 obtain ⟨R, hR⟩ : ∃ R, R = (wideGo s E f0 p0 none).bind fun fo => mGo s (fo.getD (0, 0)).2 3 0 (fo.getD (0, 0)).1 cur := ⟨_, rfl⟩
 have FIN : Hid (∀ (b : Bool) (W : World), b = R.isSome → (∃ d, Nums W lb d ∧ (R = none ∨ R = some d)) → (∀ j, j ≠ 4 → j ≠ 3 → j ≠ 11 → W.cell? ⟨lb, j, none⟩ = w.cell? ⟨lb, j, none⟩) → Touch (fun k => k = lb) w W →
   Ending.returned (.bool b) = Ending.returned (.bool ((wideGo s E f0 p0 none).bind fun fo => mGo s (fo.getD (0, 0)).2 3 0 (fo.getD (0, 0)).1 cur).isSome)
   ∧ (∃ d, Nums W lb d ∧ (((wideGo s E f0 p0 none).bind fun fo => mGo s (fo.getD (0, 0)).2 3 0 (fo.getD (0, 0)).1 cur) = none ∨ ((wideGo s E f0 p0 none).bind fun fo => mGo s (fo.getD (0, 0)).2 3 0 (fo.getD (0, 0)).1 cur) = some d))
   ∧ (∀ j, j ≠ 4 → j ≠ 3 → j ≠ 11 → W.cell? ⟨lb, j, none⟩ = w.cell? ⟨lb, j, none⟩) ∧ Touch (fun k => k = lb) w W) := by
  intro b W h1 h2 h3 h4
  rw [← hR]; exact ⟨by rw [h1], h2, h3, h4⟩
 have HNB : Hid (∀ j, j < 3 → w.cell? ⟨nb, j, none⟩ = some (.pointer (some ⟨lb, offOf j, none⟩))) := hnb
 have HR : Hid (R = (wideGo s E f0 p0 none).bind fun fo => mGo s (fo.getD (0, 0)).2 3 0 (fo.getD (0, 0)).1 cur) := hR
 clear hR hnb
 go_enter Tryz.func67, Tryz.ntmps67
 go_wp2_with fail
 refine (findWideExtra_c w s p0 E f0 hp hE hs hf).mono ?_
 rintro r w1 ⟨x, rfl, hx, t1⟩
 have T1 : Touch (fun k => k = lb) w w1 := t1.mono (fun _ _ h => h.elim)
 have N1 := hN.keep t1 (fun h => h)
 have c1 : ∀ j, j ≠ 4 → j ≠ 3 → j ≠ 11 → w1.cell? ⟨lb, j, none⟩ = w.cell? ⟨lb, j, none⟩ := fun j _ _ _ => t1.cell (p := ⟨lb, j, none⟩) hl (fun h => h)
 have b1 : w1.heap[nb]? = w.heap[nb]? := t1.block nb hln (fun h => h)
 have hl1 : lb < w1.heap.size := by have := t1.size; omega
 have hln1 : nb < w1.heap.size := by have := t1.size; omega
 cases hg : wideGo s E f0 p0 none with
 | none =>
  rw [hg] at HR
  clear hx t1 hN
  go_wp2
  go_ret
  exact FIN.out false _ (by rw [HR.out]; rfl) ⟨cur, N1, .inl HR.out⟩ c1 T1
 | some fo =>
  rw [hg] at HR
  obtain rfl := hx fo hg
  obtain ⟨o1, o2⟩ := wideGo_le s E _ _ _ _ hg ⟨Nat.le_refl _, Nat.zero_le _⟩
  have HR' : Hid (R = mGo s (fo.getD (0, 0)).2 3 0 (fo.getD (0, 0)).1 cur) := HR
  unfold wideBytes
  revert o1 o2 HR'
  generalize (fo.getD (0, 0)).1 = c0
  generalize (fo.getD (0, 0)).2 = e0
  intro o1 o2 HR'
  have F0 := FR.newE w1 s c0 e0 o1 (by omega) _ rfl
  clear hx hg HR t1 hN
  have T2 : Touch (fun k => k = lb) w (w1.alloc (.cells #[.string (s.extract c0 e0), .bool false] 121)) := T1.alloc _
  have N2 := N1.keep ((Touch.refl (fun _ => False) w1).alloc (.cells #[.string (s.extract c0 e0), .bool false] 121)) (fun h => h)
  have c2 : ∀ j, j ≠ 4 → j ≠ 3 → j ≠ 11 → (w1.alloc (.cells #[.string (s.extract c0 e0), .bool false] 121)).cell? ⟨lb, j, none⟩ = w.cell? ⟨lb, j, none⟩ := fun j h1 h2 h3 => (World.cell?_of_block (Below.heap_alloc _ _ _ hl1)).trans (c1 j h1 h2 h3)
  have b2 : (w1.alloc (.cells #[.string (s.extract c0 e0), .bool false] 121)).heap[nb]? = w.heap[nb]? := (Below.heap_alloc _ _ _ hln1).trans b1
  have nl : lb ≠ w1.heap.size := by omega
  have nl' : w1.heap.size ≠ lb := by omega
  have nn : nb ≠ w1.heap.size := by omega
  have hz1 : w.heap.size ≤ w1.heap.size := T1.size
  clear c1 b1 T1 N1
  go_wp2
  go_loopw [21] (fun i wr => ∃ (k c : Nat) (cu : Nat → Nat), k ≤ 3 ∧ i = .int .i64 (k : Int) ∧ FR wr w1.heap.size s e0 (some c) ∧ Nums wr lb cu ∧ Hid (R = mGo s e0 (3 - k) k c cu) ∧ (∀ j, j ≠ 4 → j ≠ 3 → j ≠ 11 → wr.cell? ⟨lb, j, none⟩ = w.cell? ⟨lb, j, none⟩) ∧ wr.heap[nb]? = w.heap[nb]? ∧ Touch (fun k => k = lb) w wr) (fun i wr => 3 - (intOf i).toNat)
  case atStart => exact ⟨0, c0, cur, by omega, rfl, F0, N2, HR', c2, b2, T2⟩
  case round =>
   obtain ⟨k, c, cu, hk, rfl, hF, hNu, HK, hc, hb, ht⟩ := hrel
   have HC : Hid (∀ j, j ≠ 4 → j ≠ 3 → j ≠ 11 → wr.cell? ⟨lb, j, none⟩ = w.cell? ⟨lb, j, none⟩) := hc
   have HBB : Hid (wr.heap[nb]? = w.heap[nb]?) := hb
   clear hc hb F0 N2 c2 b2 T2 HR'
   by_cases hlt : k < 3
   ·have pk : wr.cell? ⟨nb, k, none⟩ = some (.pointer (some ⟨lb, offOf k, none⟩)) := (World.cell?_of_block HBB.out).trans (HNB.out k hlt)
    have vk := hNu.cell k hlt
    have HX : Hid (R = (meant s e0 c (cu k)).bind fun x => mGo s e0 (3 - (k + 1)) (k + 1) x.2 (updN cu k x.1)) := by
     unfold Hid; rw [HK.out, show 3 - k = (3 - (k + 1)) + 1 by omega]; rfl
    have yk : (k : Int) < 3 := by omega
    have fzk := hNu.frozen (offOf k)
    have HO : Hid (offOf k = 4 ∨ offOf k = 3 ∨ offOf k = 11) := by
     unfold Hid offOf; rcases (by omega : k = 0 ∨ k = 1 ∨ k = 2) with rfl | rfl | rfl <;> simp
    have HSET : Hid (∀ v : Nat, ∀ W, Nums W lb cu → Nums (W.setCell ⟨lb, offOf k, none⟩ (.int .i64 (v : Int))) lb (updN cu k v)) := fun v W hW => hW.set hlt v
    generalize offOf k = ofk at pk vk fzk HO HSET
    by_cases hv : (cu k : Int) = 4294967295
    ·by_cases h8 : c + 8 ≤ e0
     ·have HW : Hid (lb < wr.heap.size ∧ nb < wr.heap.size) := ⟨World.block_lt_of_cell? wr _ vk, World.block_lt_of_cell? wr _ pk⟩
      go_wp2_with fail
      refine (fnum_some _ _ s e0 c 8 hF h8 (by omega) hs).mono ?_
      rintro r w2 ⟨rfl, f2, t2⟩
      have T2 := ht.onNew t2 hz1
      have N2 := hNu.keep t2 nl
      have hbw : w2.heap[nb]? = w.heap[nb]? := (t2.block nb HW.out.2 nn).trans HBB.out
      have c2 : ∀ j, w2.cell? ⟨lb, j, none⟩ = wr.cell? ⟨lb, j, none⟩ := fun j => t2.cell (p := ⟨lb, j, none⟩) HW.out.1 nl
      have v2 : w2.cell? ⟨lb, ofk, none⟩ = some (.int .i64 (cu k : Int)) := (c2 ofk).trans vk
      have fz2 := N2.frozen ofk
      have sh := f2.short
      simp only [Option.isNone_some] at sh
      obtain ⟨x, hx⟩ : ∃ x, x = numIn s c 8 := ⟨_, rfl⟩
      rw [← hx]
      have N3 := HSET.out x w2 N2
      have f3 := f2.other (lb := lb) (o := ofk) (.int .i64 (x : Int)) nl'
      have T3 : Touch (fun k => k = lb) w (w2.setCell ⟨lb, ofk, none⟩ (.int .i64 (x : Int))) := T2.setCell (p := ⟨lb, ofk, none⟩) rfl _
      have hb3 : (w2.setCell ⟨lb, ofk, none⟩ (.int .i64 (x : Int))).heap[nb]? = w.heap[nb]? := (Below.heap_setCell _ _ _ _ hne).trans hbw
      have C3 : Hid (∀ j, j ≠ 4 → j ≠ 3 → j ≠ 11 → (w2.setCell ⟨lb, ofk, none⟩ (.int .i64 (x : Int))).cell? ⟨lb, j, none⟩ = w.cell? ⟨lb, j, none⟩) := by
       intro j h1 h2 h3
       rw [cell_set_ne (by have := HO.out; omega), c2 j]; exact HC.out j h1 h2 h3
      by_cases hbig : (1099511627776 : Int) < (x : Int)
      ·have HM : Hid (R = none) := by
        unfold Hid; rw [HX.out]; unfold meant; rw [if_pos (by omega), if_neg (by omega)]; rfl
       clear hF hNu N2 f2 t2 c2 HX HK vk pk hx
       go_wp2
       go_ret
       exact FIN.out false _ (by rw [HM.out]; rfl) ⟨_, N3, .inl HM.out⟩ C3.out T3
      ·have HM : Hid (R = mGo s e0 (3 - (k + 1)) (k + 1) (c + 8) (updN cu k x)) := by
        unfold Hid; rw [HX.out]; unfold meant; rw [if_pos (by omega), if_pos ⟨h8, by omega⟩, ← hx]; rfl
       clear hF hNu N2 f2 t2 c2 HX HK vk pk hx
       go_wp2
       exact ⟨⟨k + 1, c + 8, updN cu k x, by omega, by go_num, f3, N3, HM, C3.out, hb3, T3⟩, by simp [intOf]; omega⟩
     ·have HM : Hid (R = none) := by
       unfold Hid; rw [HX.out]; unfold meant; rw [if_pos (by omega), if_neg (by omega)]; rfl
      have HW : Hid (lb < wr.heap.size ∧ nb < wr.heap.size) := ⟨World.block_lt_of_cell? wr _ vk, World.block_lt_of_cell? wr _ pk⟩
      go_wp2_with fail
      refine (fnumber_c _ _ s e0 (some c) 8 8 rfl (by omega) hs hF).mono ?_
      rintro r w2 ⟨rfl, f2, t2⟩
      rw [fldTo_off e0 c 8 h8] at f2
      have T2 := ht.onNew t2 hz1
      have N2 := hNu.keep t2 nl
      have c2 : ∀ j, w2.cell? ⟨lb, j, none⟩ = wr.cell? ⟨lb, j, none⟩ := fun j => t2.cell (p := ⟨lb, j, none⟩) HW.out.1 nl
      have v2 : w2.cell? ⟨lb, ofk, none⟩ = some (.int .i64 (cu k : Int)) := (c2 ofk).trans vk
      have fz2 := N2.frozen ofk
      have sh := f2.short
      simp only [Option.isNone_none] at sh
      generalize fldNum s e0 (some c) 8 = x
      have N3 := HSET.out x w2 N2
      have T3 : Touch (fun k => k = lb) w (w2.setCell ⟨lb, ofk, none⟩ (.int .i64 (x : Int))) := T2.setCell (p := ⟨lb, ofk, none⟩) rfl _
      have C3 : Hid (∀ j, j ≠ 4 → j ≠ 3 → j ≠ 11 → (w2.setCell ⟨lb, ofk, none⟩ (.int .i64 (x : Int))).cell? ⟨lb, j, none⟩ = w.cell? ⟨lb, j, none⟩) := by
       intro j h1 h2 h3
       rw [cell_set_ne (by have := HO.out; omega), c2 j]; exact HC.out j h1 h2 h3
      clear hF hNu N2 f2 t2 c2 HX HK vk pk
      go_wp2
      go_ret
      exact FIN.out false _ (by rw [HM.out]; rfl) ⟨_, N3, .inl HM.out⟩ C3.out T3
    ·have hv' : ((cu k : Int) == 4294967295) = false := by simpa using hv
     have HM : Hid (R = mGo s e0 (3 - (k + 1)) (k + 1) c cu) := by
      unfold Hid; rw [HX.out]
      unfold meant; rw [if_neg (by omega)]
      simp only [Option.bind_some]
      congr 1
      funext j; unfold updN; split
      ·rename_i h; rw [h]
      ·rfl
     go_wp2
     exact ⟨⟨k + 1, c, cu, by omega, by go_num, hF, hNu, HM, HC.out, HBB.out, ht⟩, by simp [intOf]; omega⟩
   ·obtain rfl : k = 3 := by omega
    have HM : Hid (R = some cu) := HK
    go_wp2
    go_ret
    exact FIN.out true _ (by rw [HM.out]; rfl) ⟨cu, hNu, .inr HM.out⟩ HC.out ht
end Go.Proofs.YtnmkmmgaoplfiaaGreatDoor
