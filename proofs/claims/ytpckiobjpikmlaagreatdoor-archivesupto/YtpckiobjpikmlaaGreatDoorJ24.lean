/- Texts of this seat, joined. -/
import Derived.Test.YtpckiobjpikmlaaGreatDoorJ22
import Derived.Test.YtpckiobjpikmlaaGreatDoorJ17
set_option linter.unusedSimpArgs false
set_option linter.unusedVariables false
set_option maxRecDepth 100000
set_option maxHeartbeats 20000000
namespace Go.Proofs.YtpckiobjpikmlaaGreatDoor
open Go.RowKit
def updN (c : Nat → Nat) (k v : Nat) : Nat → Nat := fun j => if j = k then v else c j
def mGo (s : ByteArray) (e : Nat) : Nat → Nat → Nat → (Nat → Nat) → Option (Nat → Nat)
 | 0, _, _, cur => some cur
 | f + 1, k, c, cur => (meant s e c (cur k)).bind fun x => mGo s e f (k + 1) x.2 (updN cur k x.1)
theorem mGo_all (s : ByteArray) (c e z k a : Nat) (cur : Nat → Nat) (h0 : cur 0 = z) (h1 : cur 1 = k) (h2 : cur 2 = a) : meantAll s c e z k a = (mGo s e 3 0 c cur).map fun d => (d 0, d 1, d 2) := by
 unfold meantAll
 simp only [mGo]
 rw [h0]
 cases meant s e c z with
 | none => rfl
 | some x =>
  simp only [Option.bind_some]
  rw [show updN cur 0 x.1 1 = k by simp [updN, h1]]
  cases meant s e x.2 k with
  | none => rfl
  | some y =>
   simp only [Option.bind_some]
   rw [show updN (updN cur 0 x.1) 1 y.1 2 = a by simp [updN, h2]]
   cases meant s e y.2 a with
   | none => rfl
   | some u => simp [updN]
def offOf (k : Nat) : Nat := if k = 0 then 4 else if k = 1 then 3 else 11
theorem wideGo_le (s : ByteArray) (E : Nat) : ∀ (f p : Nat) (fo r : Option (Nat × Nat)), wideGo s E f p fo = some r → (fo.getD (0, 0)).1 ≤ (fo.getD (0, 0)).2 ∧ (fo.getD (0, 0)).2 ≤ E → (r.getD (0, 0)).1 ≤ (r.getD (0, 0)).2 ∧ (r.getD (0, 0)).2 ≤ E
 | 0, p, fo, r, h, ho => by
  unfold wideGo at h; split at h
  ·cases h
  ·cases h; exact ho
 | f + 1, p, fo, r, h, ho => by
  unfold wideGo at h; split at h
  ·split at h
   ·rename_i h2
    refine wideGo_le s E f _ _ r h ?_
    split
    ·exact ⟨by simp, h2.1⟩
    ·exact ho
   ·cases h
  ·cases h; exact ho
structure Nums (w : World) (lb : Nat) (cur : Nat → Nat) : Prop where
 cell : ∀ j, j < 3 → w.cell? ⟨lb, offOf j, none⟩ = some (.int .i64 (cur j : Int))
 frozen : ∀ j, w.frozen? ⟨lb, j, none⟩ = false
theorem Nums.keep {w w' : World} {S : Nat → Prop} {lb : Nat} {cur : Nat → Nat} (h : Nums w lb cur) (ht : Touch S w w') (hs : ¬ S lb) : Nums w' lb cur := by
 have hl := World.block_lt_of_cell? w _ (h.cell 0 (by omega))
 exact ⟨fun j hj => ht.at (h.cell j hj) hs, fun j => (ht.frozen (p := ⟨lb, j, none⟩) hl hs).trans (h.frozen j)⟩
theorem offOf_inj {i j : Nat} (hi : i < 3) (hj : j < 3) (h : offOf i = offOf j) : i = j := by
 unfold offOf at h
 rcases (by omega : i = 0 ∨ i = 1 ∨ i = 2) with rfl | rfl | rfl <;> rcases (by omega : j = 0 ∨ j = 1 ∨ j = 2) with rfl | rfl | rfl <;> simp at h ⊢
theorem Nums.set {w : World} {lb : Nat} {cur : Nat → Nat} (h : Nums w lb cur) {k : Nat} (hk : k < 3) (v : Nat) : Nums (w.setCell ⟨lb, offOf k, none⟩ (.int .i64 (v : Int))) lb (updN cur k v) := by
 refine ⟨fun j hj => ?_, fun j => by rw [World.frozen?_setCell]; exact h.frozen j⟩
 rw [cell_set_if]
 unfold updN
 by_cases e : j = k
 ·subst e; rw [if_pos ⟨rfl, rfl⟩, h.cell j hj, if_pos rfl]; rfl
 ·rw [if_neg (fun hh => e (offOf_inj hj hk hh.2.symm)), h.cell j hj, if_neg e]
theorem takeMeant_c (w : World) (s : ByteArray) (p0 E f0 lb nb : Nat) (cur : Nat → Nat) (hp : p0 ≤ E) (hE : E ≤ s.size) (hs : s.size ≤ 140737488355328) (hf : E - p0 ≤ f0)
  (hN : Nums w lb cur) (hnb : ∀ j, j < 3 → w.cell? ⟨nb, j, none⟩ = some (.pointer (some ⟨lb, offOf j, none⟩))) (hne : nb ≠ lb) :
  Calls Tryz.prog 71 #[.string (s.extract p0 E), .slice (some ⟨nb, 0, none⟩) 3 3] w fun r w' =>
   r = .returned (.bool ((wideGo s E f0 p0 none).bind fun fo => mGo s (fo.getD (0, 0)).2 3 0 (fo.getD (0, 0)).1 cur).isSome)
   ∧ (∃ d, Nums w' lb d ∧ (((wideGo s E f0 p0 none).bind fun fo => mGo s (fo.getD (0, 0)).2 3 0 (fo.getD (0, 0)).1 cur) = none ∨ ((wideGo s E f0 p0 none).bind fun fo => mGo s (fo.getD (0, 0)).2 3 0 (fo.getD (0, 0)).1 cur) = some d))
   ∧ (∀ j, j ≠ 4 → j ≠ 3 → j ≠ 11 → w'.cell? ⟨lb, j, none⟩ = w.cell? ⟨lb, j, none⟩) ∧ Touch (fun k => k = lb) w w' := by
 have hl := World.block_lt_of_cell? w _ (hN.cell 0 (by omega))
 have hln := World.block_lt_of_cell? w _ (hnb 0 (by omega))
 obtain ⟨R, hR⟩ : ∃ R, R = (wideGo s E f0 p0 none).bind fun fo => mGo s (fo.getD (0, 0)).2 3 0 (fo.getD (0, 0)).1 cur := ⟨_, rfl⟩
 have FIN : Hid (∀ (b : Bool) (W : World), b = R.isSome → (∃ d, Nums W lb d ∧ (R = none ∨ R = some d)) → (∀ j, j ≠ 4 → j ≠ 3 → j ≠ 11 → W.cell? ⟨lb, j, none⟩ = w.cell? ⟨lb, j, none⟩) → Touch (fun k => k = lb) w W →
   Ending.returned (.bool b) = Ending.returned (.bool ((wideGo s E f0 p0 none).bind fun fo => mGo s (fo.getD (0, 0)).2 3 0 (fo.getD (0, 0)).1 cur).isSome)
   ∧ (∃ d, Nums W lb d ∧ (((wideGo s E f0 p0 none).bind fun fo => mGo s (fo.getD (0, 0)).2 3 0 (fo.getD (0, 0)).1 cur) = none ∨ ((wideGo s E f0 p0 none).bind fun fo => mGo s (fo.getD (0, 0)).2 3 0 (fo.getD (0, 0)).1 cur) = some d))
   ∧ (∀ j, j ≠ 4 → j ≠ 3 → j ≠ 11 → W.cell? ⟨lb, j, none⟩ = w.cell? ⟨lb, j, none⟩) ∧ Touch (fun k => k = lb) w W) := by
  intro b W h1 h2 h3 h4
  rw [← hR]; exact ⟨by rw [h1], h2, h3, h4⟩
 have HNB : Hid (∀ j, j < 3 → w.cell? ⟨nb, j, none⟩ = some (.pointer (some ⟨lb, offOf j, none⟩))) := hnb
 have HR : Hid (R = (wideGo s E f0 p0 none).bind fun fo => mGo s (fo.getD (0, 0)).2 3 0 (fo.getD (0, 0)).1 cur) := hR
 clear hR hnb
 go_enter Tryz.func71, Tryz.ntmps71
 go_wp2_with fail
 refine (findWideExtra_c w s p0 E f0 hp hE hs hf).mono ?_
 rintro r w1 ⟨x, rfl, hx, t1⟩
 have T1 : Touch (fun k => k = lb) w w1 := t1.mono (fun _ _ h => h.elim)
 have N1 := hN.keep t1 (fun h => h)
 have c1 : ∀ j, j ≠ 4 → j ≠ 3 → j ≠ 11 → w1.cell? ⟨lb, j, none⟩ = w.cell? ⟨lb, j, none⟩ := fun j _ _ _ => t1.cell (p := ⟨lb, j, none⟩) hl (fun h => h)
 have b1 : w1.heap[nb]? = w.heap[nb]? := t1.block nb hln (fun h => h)
 have hl1 : lb < w1.heap.size := by have := t1.size; omega
 have hln1 : nb < w1.heap.size := by have := t1.size; omega
 cases hg : wideGo s E f0 p0 none with
 | none =>
  rw [hg] at HR
  clear hx t1 hN
  go_wp2
  go_ret
  exact FIN.out false _ (by rw [HR.out]; rfl) ⟨cur, N1, .inl HR.out⟩ c1 T1
 | some fo =>
  rw [hg] at HR
  obtain rfl := hx fo hg
  obtain ⟨o1, o2⟩ := wideGo_le s E _ _ _ _ hg ⟨Nat.le_refl _, Nat.zero_le _⟩
  have HR' : Hid (R = mGo s (fo.getD (0, 0)).2 3 0 (fo.getD (0, 0)).1 cur) := HR
  unfold wideBytes
  revert o1 o2 HR'
  generalize (fo.getD (0, 0)).1 = c0
  generalize (fo.getD (0, 0)).2 = e0
  intro o1 o2 HR'
  have F0 := FR.newE w1 s c0 e0 o1 (by omega) _ rfl
  clear hx hg HR t1 hN
  have T2 : Touch (fun k => k = lb) w (w1.alloc (.cells #[.string (s.extract c0 e0), .bool false] 99)) := T1.alloc _
  have N2 := N1.keep ((Touch.refl (fun _ => False) w1).alloc (.cells #[.string (s.extract c0 e0), .bool false] 99)) (fun h => h)
  have c2 : ∀ j, j ≠ 4 → j ≠ 3 → j ≠ 11 → (w1.alloc (.cells #[.string (s.extract c0 e0), .bool false] 99)).cell? ⟨lb, j, none⟩ = w.cell? ⟨lb, j, none⟩ := fun j h1 h2 h3 => (World.cell?_of_block (Below.heap_alloc _ _ _ hl1)).trans (c1 j h1 h2 h3)
  have b2 : (w1.alloc (.cells #[.string (s.extract c0 e0), .bool false] 99)).heap[nb]? = w.heap[nb]? := (Below.heap_alloc _ _ _ hln1).trans b1
  have nl : lb ≠ w1.heap.size := by omega
  have nl' : w1.heap.size ≠ lb := by omega
  have nn : nb ≠ w1.heap.size := by omega
  have hz1 : w.heap.size ≤ w1.heap.size := T1.size
  clear c1 b1 T1 N1
  go_wp2
  go_loopw [21] (fun i wr => ∃ (k c : Nat) (cu : Nat → Nat), k ≤ 3 ∧ i = .int .i64 (k : Int) ∧ FR wr w1.heap.size s e0 (some c) ∧ Nums wr lb cu ∧ Hid (R = mGo s e0 (3 - k) k c cu) ∧ (∀ j, j ≠ 4 → j ≠ 3 → j ≠ 11 → wr.cell? ⟨lb, j, none⟩ = w.cell? ⟨lb, j, none⟩) ∧ wr.heap[nb]? = w.heap[nb]? ∧ Touch (fun k => k = lb) w wr) (fun i wr => 3 - (intOf i).toNat)
  case atStart => exact ⟨0, c0, cur, by omega, rfl, F0, N2, HR', c2, b2, T2⟩
  case round =>
   obtain ⟨k, c, cu, hk, rfl, hF, hNu, HK, hc, hb, ht⟩ := hrel
   have HC : Hid (∀ j, j ≠ 4 → j ≠ 3 → j ≠ 11 → wr.cell? ⟨lb, j, none⟩ = w.cell? ⟨lb, j, none⟩) := hc
   have HBB : Hid (wr.heap[nb]? = w.heap[nb]?) := hb
   clear hc hb F0 N2 c2 b2 T2 HR'
   by_cases hlt : k < 3
   ·have pk : wr.cell? ⟨nb, k, none⟩ = some (.pointer (some ⟨lb, offOf k, none⟩)) := (World.cell?_of_block HBB.out).trans (HNB.out k hlt)
    have vk := hNu.cell k hlt
    have HX : Hid (R = (meant s e0 c (cu k)).bind fun x => mGo s e0 (3 - (k + 1)) (k + 1) x.2 (updN cu k x.1)) := by
     unfold Hid; rw [HK.out, show 3 - k = (3 - (k + 1)) + 1 by omega]; rfl
    have yk : (k : Int) < 3 := by omega
    have fzk := hNu.frozen (offOf k)
    have HO : Hid (offOf k = 4 ∨ offOf k = 3 ∨ offOf k = 11) := by
     unfold Hid offOf; rcases (by omega : k = 0 ∨ k = 1 ∨ k = 2) with rfl | rfl | rfl <;> simp
    have HSET : Hid (∀ v : Nat, ∀ W, Nums W lb cu → Nums (W.setCell ⟨lb, offOf k, none⟩ (.int .i64 (v : Int))) lb (updN cu k v)) := fun v W hW => hW.set hlt v
    generalize offOf k = ofk at pk vk fzk HO HSET
    by_cases hv : (cu k : Int) = 4294967295
    ·by_cases h8 : c + 8 ≤ e0
     ·have HW : Hid (lb < wr.heap.size ∧ nb < wr.heap.size) := ⟨World.block_lt_of_cell? wr _ vk, World.block_lt_of_cell? wr _ pk⟩
      go_wp2_with fail
      refine (fnum_some _ _ s e0 c 8 hF h8 (by omega) hs).mono ?_
      rintro r w2 ⟨rfl, f2, t2⟩
      have T2 := ht.onNew t2 hz1
      have N2 := hNu.keep t2 nl
      have hbw : w2.heap[nb]? = w.heap[nb]? := (t2.block nb HW.out.2 nn).trans HBB.out
      have c2 : ∀ j, w2.cell? ⟨lb, j, none⟩ = wr.cell? ⟨lb, j, none⟩ := fun j => t2.cell (p := ⟨lb, j, none⟩) HW.out.1 nl
      have v2 : w2.cell? ⟨lb, ofk, none⟩ = some (.int .i64 (cu k : Int)) := (c2 ofk).trans vk
      have fz2 := N2.frozen ofk
      have sh := f2.short
      simp only [Option.isNone_some] at sh
      obtain ⟨x, hx⟩ : ∃ x, x = numIn s c 8 := ⟨_, rfl⟩
      rw [← hx]
      have N3 := HSET.out x w2 N2
      have f3 := f2.other (lb := lb) (o := ofk) (.int .i64 (x : Int)) nl'
      have T3 : Touch (fun k => k = lb) w (w2.setCell ⟨lb, ofk, none⟩ (.int .i64 (x : Int))) := T2.setCell (p := ⟨lb, ofk, none⟩) rfl _
      have hb3 : (w2.setCell ⟨lb, ofk, none⟩ (.int .i64 (x : Int))).heap[nb]? = w.heap[nb]? := (Below.heap_setCell _ _ _ _ hne).trans hbw
      have C3 : Hid (∀ j, j ≠ 4 → j ≠ 3 → j ≠ 11 → (w2.setCell ⟨lb, ofk, none⟩ (.int .i64 (x : Int))).cell? ⟨lb, j, none⟩ = w.cell? ⟨lb, j, none⟩) := by
       intro j h1 h2 h3
       rw [cell_set_ne (by have := HO.out; omega), c2 j]; exact HC.out j h1 h2 h3
      by_cases hbig : (1099511627776 : Int) < (x : Int)
      ·have HM : Hid (R = none) := by
        unfold Hid; rw [HX.out]; unfold meant; rw [if_pos (by omega), if_neg (by omega)]; rfl
       clear hF hNu N2 f2 t2 c2 HX HK vk pk hx
       go_wp2
       go_ret
       exact FIN.out false _ (by rw [HM.out]; rfl) ⟨_, N3, .inl HM.out⟩ C3.out T3
      ·have HM : Hid (R = mGo s e0 (3 - (k + 1)) (k + 1) (c + 8) (updN cu k x)) := by
        unfold Hid; rw [HX.out]; unfold meant; rw [if_pos (by omega), if_pos ⟨h8, by omega⟩, ← hx]; rfl
       clear hF hNu N2 f2 t2 c2 HX HK vk pk hx
       go_wp2
       exact ⟨⟨k + 1, c + 8, updN cu k x, by omega, by go_num, f3, N3, HM, C3.out, hb3, T3⟩, by simp [intOf]; omega⟩
     ·have HM : Hid (R = none) := by
       unfold Hid; rw [HX.out]; unfold meant; rw [if_pos (by omega), if_neg (by omega)]; rfl
      have HW : Hid (lb < wr.heap.size ∧ nb < wr.heap.size) := ⟨World.block_lt_of_cell? wr _ vk, World.block_lt_of_cell? wr _ pk⟩
      go_wp2_with fail
      refine (fnumber_c _ _ s e0 (some c) 8 8 rfl (by omega) hs hF).mono ?_
      rintro r w2 ⟨rfl, f2, t2⟩
      rw [fldTo_off e0 c 8 h8] at f2
      have T2 := ht.onNew t2 hz1
      have N2 := hNu.keep t2 nl
      have c2 : ∀ j, w2.cell? ⟨lb, j, none⟩ = wr.cell? ⟨lb, j, none⟩ := fun j => t2.cell (p := ⟨lb, j, none⟩) HW.out.1 nl
      have v2 : w2.cell? ⟨lb, ofk, none⟩ = some (.int .i64 (cu k : Int)) := (c2 ofk).trans vk
      have fz2 := N2.frozen ofk
      have sh := f2.short
      simp only [Option.isNone_none] at sh
      generalize fldNum s e0 (some c) 8 = x
      have N3 := HSET.out x w2 N2
      have T3 : Touch (fun k => k = lb) w (w2.setCell ⟨lb, ofk, none⟩ (.int .i64 (x : Int))) := T2.setCell (p := ⟨lb, ofk, none⟩) rfl _
      have C3 : Hid (∀ j, j ≠ 4 → j ≠ 3 → j ≠ 11 → (w2.setCell ⟨lb, ofk, none⟩ (.int .i64 (x : Int))).cell? ⟨lb, j, none⟩ = w.cell? ⟨lb, j, none⟩) := by
       intro j h1 h2 h3
       rw [cell_set_ne (by have := HO.out; omega), c2 j]; exact HC.out j h1 h2 h3
      clear hF hNu N2 f2 t2 c2 HX HK vk pk
      go_wp2
      go_ret
      exact FIN.out false _ (by rw [HM.out]; rfl) ⟨_, N3, .inl HM.out⟩ C3.out T3
    ·have hv' : ((cu k : Int) == 4294967295) = false := by simpa using hv
     have HM : Hid (R = mGo s e0 (3 - (k + 1)) (k + 1) c cu) := by
      unfold Hid; rw [HX.out]
      unfold meant; rw [if_neg (by omega)]
      simp only [Option.bind_some]
      congr 1
      funext j; unfold updN; split
      ·rename_i h; rw [h]
      ·rfl
     go_wp2
     exact ⟨⟨k + 1, c, cu, by omega, by go_num, hF, hNu, HM, HC.out, HBB.out, ht⟩, by simp [intOf]; omega⟩
   ·obtain rfl : k = 3 := by omega
    have HM : Hid (R = some cu) := HK
    go_wp2
    go_ret
    exact FIN.out true _ (by rw [HM.out]; rfl) ⟨cu, hNu, .inr HM.out⟩ HC.out ht
end Go.Proofs.YtpckiobjpikmlaaGreatDoor
