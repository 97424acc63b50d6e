/- Texts of this seat, joined. -/
import Derived.Test.YtpckiobjpikmlaaGreatDoorJ21
import Derived.Test.YtpckiobjpikmlaaGreatDoorJ32
import Derived.Test.YtpckiobjpikmlaaGreatDoorJ25
import Derived.Test.YtpckiobjpikmlaaGreatDoorJ19
set_option linter.unusedSimpArgs false
set_option linter.unusedVariables false
set_option maxRecDepth 100000
set_option maxHeartbeats 20000000
namespace Go.Proofs.YtpckiobjpikmlaaGreatDoor
open Go.RowKit Go.Shelf Go.Lib
theorem Tryz.infoStr : (Tryz.prog.info? 9).map (fun i => (i.zero, i.size, i.bytes)) = some (some (.string ⟨#[]⟩), 1, 16) := by kernel_rfl
def strV (l : List UInt8) : Value := .string ⟨l.toArray⟩
def strs (l : List (List UInt8)) : List Value := l.map strV
theorem strs_snoc (l : List (List UInt8)) (x : List UInt8) : strs (l ++ [x]) = strs l ++ [strV x] := by simp [strs]
theorem rparts_c (w : World) (s : ByteArray) (h : 0 < s.size) (hs : s.size ≤ 1048576) :
  Calls Tryz.prog 180 #[.string s] w fun r w' => ∃ v, r = .returned v ∧ w'.ownsRow w.heap.size 9 1 v (partsGo (bareL s) []).length (strs (partsGo (bareL s) [])) ∧ Touch (fun _ => False) w w' := by
 obtain ⟨i0, hi, hz0, hz1, hz2⟩ := info_parts Tryz.infoStr
 obtain ⟨Pt, hPt⟩ : ∃ P, P = partsGo (bareL s) [] := ⟨_, rfl⟩
 rw [← hPt]
 rw [← bareS_list] at hPt
 have hsz := bareS_size s
 have HB : Hid (∀ W, Calls Tryz.prog 148 #[.string s] W fun e w' => e = .returned (.string (bareS s)) ∧ Touch (fun _ => False) W w') := fun W => rbare_c W s h (by omega)
 revert hPt hsz HB
 generalize bareS s = t
 intro hPt hsz HB
 have ht : t.size ≤ 1048576 := by omega
 have HP : Hid (Pt = [] ++ partsGo (t.toList.drop 0) []) := hPt
 clear hPt hsz h hs
 go_enter Tryz.func180, Tryz.ntmps180
 go_wp2_with fail
 refine (HB.out _).mono ?_
 rintro e w1 ⟨rfl, t1⟩
 have hs1 := t1.size
 go_wp2
 go_loopw [3, 4, 6] (fun v q i wr => ∃ (k : Nat) (D : List (List UInt8)) (p : List UInt8), k ≤ t.size ∧ i = .int .i64 (k : Int) ∧ q = .string ⟨p.toArray⟩ ∧ D.length ≤ k ∧ p.length ≤ k ∧ wr.ownsRow w.heap.size 9 1 v D.length (strs D) ∧ Hid (Pt = D ++ partsGo (t.toList.drop k) p) ∧ Touch (fun _ => False) w wr) (fun v q i wr => t.size - (intOf i).toNat)
 case atStart => exact ⟨0, [], [], Nat.zero_le _, rfl, rfl, Nat.zero_le _, Nat.zero_le _, World.ownsRow_nil _ _ _ _, HP, t1⟩
 case round =>
  obtain ⟨k, D, p, hk, rfl, rfl, hD, hp, hro, HK, T⟩ := hrel
  have hsw := T.size
  clear t1 hs1 HP
  have b3 : D.length + 1 ≤ maxLen := by unfold maxLen; omega
  have b4 : (D.length + 1) * 16 ≤ 140737488355328 := by omega
  by_cases hlt : k < t.size
  ·have hc : t.toList.drop k = t[k] :: t.toList.drop (k + 1) := by
    rw [ByteArray.toList_eq, List.drop_eq_getElem_cons (by simpa using hlt)]
    rfl
   have HX : Hid (Pt = D ++ partsGo (t[k] :: t.toList.drop (k + 1)) p) := by unfold Hid; rw [HK.out, hc]
   have HE : Hid ((⟨p.toArray⟩ : ByteArray) ++ t.extract k (k + 1) = ⟨(p ++ [t[k]]).toArray⟩) := by
    unfold Hid
    apply ByteArray.ext
    apply Array.toList_inj.1
    rw [ByteArray.data_append, Array.toList_append, ByteArray.data_extract, Array.toList_extract, List.extract_eq_take_drop]
    have e : t.data.toList.drop k = t[k] :: t.data.toList.drop (k + 1) := by
     have := hc; rw [ByteArray.toList_eq] at this; exact this
    rw [e]
    simp
   have l1 : (⟨p.toArray⟩ : ByteArray).size = p.length := by show p.toArray.size = _; simp
   have k1 : (k : Int) < (t.size : Int) := by omega
   clear HK hc
   by_cases hc : t[k] = 47
   ·have hx := HX.out
    rw [hc, partsGo, if_pos rfl] at hx
    have HN : Hid (Pt = (D ++ [p]) ++ partsGo (t.toList.drop (k + 1)) []) := by unfold Hid; rw [hx]; simp
    have c1 : ((t[k].toNat : Int) == 47) = true := by rw [hc]; rfl
    have c2 : (t[k].toNat : Int) = 47 := by rw [hc]; rfl
    clear hx HX hc HE
    go_wp2_with (at_builtin; refine wpList_append_own _ rfl _ _ 30 rfl w.heap.size 9 i0 (.string ⟨#[]⟩) 1 16 Tryz.underlying30 hi hz0 hz1 hz2 rfl (by decide) _ _ _ rfl (hro.alloc _) ⟨_, 0, none⟩ 1 1 [.string ⟨p.toArray⟩] rfl rfl (cell_one_new _ _ _) (by simp [Value.oneCell']) b3 b4 (by simp; omega) ?_; intro v' w3 hown' hgrow _)
    refine ⟨⟨k + 1, D ++ [p], [], by omega, by go_num, rfl, by simp; omega, Nat.zero_le _, ?_, HN, ?_⟩, by simp [intOf]; omega⟩
    ·rw [strs_snoc, List.length_append]; exact hown'
    ·exact (T.alloc _).grownNew hgrow (fun q hq => (hro.lt q hq).1)
   ·have hx := HX.out
    rw [partsGo, if_neg hc] at hx
    have HN : Hid (Pt = D ++ partsGo (t.toList.drop (k + 1)) (p ++ [t[k]])) := hx
    have c2 : ¬ (t[k].toNat : Int) = 47 := fun e => hc (UInt8.toNat_inj.1 (by simpa using (by omega : t[k].toNat = 47)))
    have c1 : ((t[k].toNat : Int) == 47) = false := by simpa using c2
    clear hx HX hc
    go_wp2
    exact ⟨⟨k + 1, D, p ++ [t[k]], by omega, by go_num, by rw [← HE.out], by omega, by simp; omega, hro, HN, T⟩, by simp [intOf]; omega⟩
  ·obtain rfl : k = t.size := by omega
   have hx := HK.out
   rw [List.drop_of_length_le (by rw [ByteArray.toList_eq]; exact Nat.le_refl _), partsGo] at hx
   have HN : Hid (Pt = D ++ [p]) := hx
   clear hx HK
   go_wp2_with (at_builtin; refine wpList_append_own _ rfl _ _ 30 rfl w.heap.size 9 i0 (.string ⟨#[]⟩) 1 16 Tryz.underlying30 hi hz0 hz1 hz2 rfl (by decide) _ _ _ rfl (hro.alloc _) ⟨_, 0, none⟩ 1 1 [.string ⟨p.toArray⟩] rfl rfl (cell_one_new _ _ _) (by simp [Value.oneCell']) b3 b4 (by simp; omega) ?_; intro v' w3 hown' hgrow _)
   go_ret
   refine ⟨_, rfl, ?_, (T.alloc _).grownNew hgrow (fun q hq => (hro.lt q hq).1)⟩
   rw [HN.out, strs_snoc, List.length_append]; exact hown'
end Go.Proofs.YtpckiobjpikmlaaGreatDoor
namespace Go.Proofs.YtpckiobjpikmlaaGreatDoor
open Go.RowKit
def lexP : List (List UInt8) → List (List UInt8) → Bool
 | [], [] => false
 | [], _ :: _ => true
 | _ :: _, [] => false
 | x :: xs, y :: ys => if x = y then lexP xs ys else decide (x < y)
theorem ltL_pre (c : UInt8) (q : List UInt8) : ∀ p : List UInt8, p < p ++ c :: q
 | [] => List.nil_lt_cons ..
 | a :: p => by rw [List.cons_append, List.cons_lt_cons_iff]; exact .inr ⟨rfl, ltL_pre c q p⟩
theorem ltL_pre' (c : UInt8) (q : List UInt8) : ∀ p : List UInt8, ¬ p ++ c :: q < p
 | [] => List.not_lt_nil _
 | a :: p => by
  rw [List.cons_append, List.cons_lt_cons_iff]
  rintro (h | ⟨_, h⟩)
  ·exact UInt8.lt_irrefl _ h
  ·exact ltL_pre' c q p h
theorem ltL_at (a b : UInt8) (x y : List UInt8) (hab : a ≠ b) : ∀ p : List UInt8, (p ++ a :: x < p ++ b :: y) ↔ a < b
 | [] => by
  simp only [List.nil_append]
  rw [List.cons_lt_cons_iff]
  exact ⟨fun h => h.elim id (fun h => absurd h.1 hab), .inl⟩
 | c :: p => by
  rw [List.cons_append, List.cons_append, List.cons_lt_cons_iff, ltL_at a b x y hab p]
  exact ⟨fun h => h.elim (fun h => absurd h (UInt8.lt_irrefl _)) (·.2), fun h => .inr ⟨rfl, h⟩⟩
theorem partsGo_head : ∀ (u p : List UInt8), ∃ x xs, partsGo u p = (p ++ x) :: xs
 | [], p => ⟨[], [], by simp [partsGo]⟩
 | c :: u, p => by
  unfold partsGo
  split
  ·exact ⟨[], partsGo u [], by simp⟩
  ·obtain ⟨x, xs, h⟩ := partsGo_head u (p ++ [c])
   exact ⟨c :: x, xs, by rw [h]; simp⟩
theorem lexP_pos (p : List UInt8) (c : UInt8) (x : List UInt8) (r xs : List (List UInt8)) : lexP (p :: r) ((p ++ c :: x) :: xs) = true := by
 have hne : ¬ p = p ++ c :: x := fun e => by
  have := congrArg List.length e; simp at this
 simp only [lexP, if_neg hne]
 exact decide_eq_true (ltL_pre c x p)
theorem lexP_neg (p : List UInt8) (c : UInt8) (x : List UInt8) (r xs : List (List UInt8)) : lexP ((p ++ c :: x) :: xs) (p :: r) = false := by
 have hne : ¬ p ++ c :: x = p := fun e => by
  have := congrArg List.length e; simp at this
 simp only [lexP, if_neg hne]
 exact decide_eq_false (ltL_pre' c x p)
theorem rk_pos {c : UInt8} (h : c ≠ 0) (h47 : c ≠ 47) : 0 < rk c := by
 unfold rk; rw [if_neg h47]
 have : c.toNat ≠ 0 := fun e => h (UInt8.toNat_inj.1 (by simpa using e))
 omega
theorem lexP_eq : ∀ (u v p : List UInt8), NoNul u → NoNul v → lexP (partsGo u p) (partsGo v p) = decide (cmpP u v < 0)
 | [], [], p, _, _ => by simp [partsGo, lexP, cmpP]
 | [], c :: v, p, _, hv => by
  have e : decide (cmpP [] (c :: v) < 0) = true := by simp [cmpP]
  rw [e]
  by_cases h : c = 47
  ·obtain ⟨x, xs, hx⟩ := partsGo_head v []
   rw [partsGo, partsGo, if_pos h, lexP, if_pos rfl, hx]; rfl
  ·obtain ⟨x, xs, hx⟩ := partsGo_head v (p ++ [c])
   rw [partsGo, partsGo, if_neg h, hx, List.append_assoc]
   exact lexP_pos p c x [] xs
 | c :: u, [], p, hu, _ => by
  have e : decide (cmpP (c :: u) [] < 0) = false := by simp [cmpP]
  rw [e]
  by_cases h : c = 47
  ·obtain ⟨x, xs, hx⟩ := partsGo_head u []
   rw [partsGo, partsGo, if_pos h, lexP, if_pos rfl, hx]; rfl
  ·obtain ⟨x, xs, hx⟩ := partsGo_head u (p ++ [c])
   rw [partsGo, partsGo, if_neg h, hx, List.append_assoc]
   exact lexP_neg p c x [] xs
 | a :: u, b :: v, p, hu, hv => by
  have hu' : NoNul u := fun c hc => hu c (List.mem_cons_of_mem _ hc)
  have hv' : NoNul v := fun c hc => hv c (List.mem_cons_of_mem _ hc)
  have ha := hu a (List.mem_cons_self ..)
  have hb := hv b (List.mem_cons_self ..)
  by_cases e : a = b
  ·subst e
   simp only [cmpP, if_pos]
   by_cases h : a = 47
   ·rw [partsGo, partsGo, if_pos h, if_pos h, lexP, if_pos rfl]
    exact lexP_eq u v [] hu' hv'
   ·rw [partsGo, partsGo, if_neg h, if_neg h]
    exact lexP_eq u v (p ++ [a]) hu' hv'
  ·simp only [cmpP, if_neg e]
   rw [show decide (Lib.compareInt (rk a : Int) (rk b : Int) < 0) = decide ((rk a : Int) < (rk b : Int)) from decide_eq_decide.2 (compareInt_neg _ _)]
   by_cases h1 : a = 47
   ·have h2 : ¬ b = 47 := fun h => e (h1.trans h.symm)
    obtain ⟨y, ys, hy⟩ := partsGo_head v (p ++ [b])
    rw [partsGo, partsGo, if_pos h1, if_neg h2, hy, List.append_assoc]
    have := rk_pos hb h2
    have z : rk a = 0 := by unfold rk; rw [if_pos h1]
    rw [decide_eq_true (show (rk a : Int) < (rk b : Int) by omega)]
    exact lexP_pos p b y _ ys
   ·obtain ⟨x, xs, hx⟩ := partsGo_head u (p ++ [a])
    by_cases h2 : b = 47
    ·rw [partsGo, partsGo, if_neg h1, if_pos h2, hx, List.append_assoc]
     have z : rk b = 0 := by unfold rk; rw [if_pos h2]
     rw [decide_eq_false (show ¬ (rk a : Int) < (rk b : Int) by omega)]
     exact lexP_neg p a x _ xs
    ·obtain ⟨y, ys, hy⟩ := partsGo_head v (p ++ [b])
     rw [partsGo, partsGo, if_neg h1, if_neg h2, hx, hy, List.append_assoc, List.append_assoc]
     have hne : ¬ p ++ ([a] ++ x) = p ++ ([b] ++ y) := fun h => by
      have := List.append_cancel_left h
      simp at this; exact e this.1
     simp only [lexP, if_neg hne]
     refine decide_eq_decide.2 ?_
     have := ltL_at a b x y e p
     simp only [List.cons_append, List.nil_append]
     rw [this]
     have z1 : rk a = a.toNat := by unfold rk; rw [if_neg h1]
     have z2 : rk b = b.toNat := by unfold rk; rw [if_neg h2]
     rw [z1, z2, UInt8.lt_iff_toNat_lt]; omega
theorem cmpP_tail : ∀ (u v e f : List UInt8), u ≠ v → NoNul u → NoNul v → (e = [] ∨ e = [47]) → (f = [] ∨ f = [47]) → u.getLast? ≠ some 47 → v.getLast? ≠ some 47 → (cmpP (u ++ e) (v ++ f) < 0 ↔ cmpP u v < 0)
 | [], [], _, _, h, _, _, _, _, _, _ => absurd rfl h
 | [], c :: v, e, f, _, _, hv, he, hf, _, hl => by
  have hc := hv c (List.mem_cons_self ..)
  have r : cmpP [] (c :: v) < 0 := by simp [cmpP]
  refine ⟨fun _ => r, fun _ => ?_⟩
  rcases he with rfl | rfl
  ·simp [cmpP]
  ·simp only [List.nil_append, List.cons_append, cmpP]
   by_cases h47 : c = 47
   ·rw [if_pos h47.symm]
    cases v with
    | nil => rw [h47] at hl; simp at hl
    | cons d v => simp [cmpP]
   ·rw [if_neg (fun h => h47 h.symm), compareInt_neg]
    have := rk_pos hc h47
    have z : rk 47 = 0 := rfl
    omega
 | c :: u, [], e, f, _, hu, _, he, hf, hl, _ => by
  have hc := hu c (List.mem_cons_self ..)
  have r : ¬ cmpP (c :: u) [] < 0 := by simp [cmpP]
  refine ⟨fun h => ?_, fun h => absurd h r⟩
  rcases hf with rfl | rfl
  ·simp [cmpP] at h
  ·simp only [List.nil_append, List.cons_append, cmpP] at h
   by_cases h47 : c = 47
   ·rw [if_pos h47] at h
    cases u with
    | nil => rw [h47] at hl; simp at hl
    | cons d u => simp [cmpP] at h
   ·rw [if_neg h47, compareInt_neg] at h
    have := rk_pos hc h47
    have z : rk 47 = 0 := rfl
    omega
 | a :: u, b :: v, e, f, h, hu, hv, he, hf, hlu, hlv => by
  simp only [List.cons_append, cmpP]
  by_cases hab : a = b
  ·rw [if_pos hab, if_pos hab]
   have hne : u ≠ v := fun e => h (by rw [hab, e])
   refine cmpP_tail u v e f hne (fun c hc => hu c (List.mem_cons_of_mem _ hc)) (fun c hc => hv c (List.mem_cons_of_mem _ hc)) he hf ?_ ?_
   ·cases u with
    | nil => simp
    | cons d u => simpa using hlu
   ·cases v with
    | nil => simp
    | cons d v => simpa using hlv
  ·rw [if_neg hab, if_neg hab]
end Go.Proofs.YtpckiobjpikmlaaGreatDoor
namespace Go.Proofs.YtpckiobjpikmlaaGreatDoor
open Go.RowKit
abbrev Fil := ByteArray × List UInt8
def lessF (a b : ByteArray) : Bool := lexP (partsGo (bareL a) []) (partsGo (bareL b) [])
def putF : List Fil → Fil → List Fil
 | [], f => [f]
 | x :: l, f => if x.1 = f.1 then x :: l else if lessF f.1 x.1 then f :: x :: l else x :: putF l f
def putFolds (nm : List UInt8) : Nat → Nat → List Fil → List Fil
 | 0, _, out => out
 | f + 1, i, out => putFolds nm f (i + 1) (if nm[i]? = some 47 then putF out (folOf (nm.take (i + 1))) else out)
def refGo (s : ByteArray) : List Spanned → List Fil → Sum Nat (List Fil)
 | [], out => .inr out
 | x :: l, out => if folderB x.ent.name then refGo s l (putFolds x.ent.name.data.toList x.ent.name.size 0 out) else match dataOfE s x with
  | .inl k => .inl k
  | .inr d => refGo s l (putF (putFolds x.ent.name.data.toList x.ent.name.size 0 out) (x.ent.name, d))
@[reducible] def Srt (l : List Fil) : Prop := l.Pairwise fun a b => cmpP a.1.data.toList b.1.data.toList < 0
structure OrdOn (P : ByteArray → Prop) : Prop where
 less : ∀ a b, P a → P b → a ≠ b → lessF a b = decide (cmpP a.data.toList b.data.toList < 0)
 nul : ∀ a, P a → NoNul a.data.toList
theorem byte_ext {a b : ByteArray} (h : a.data.toList = b.data.toList) : a = b := by
 apply ByteArray.ext; exact Array.toList_inj.1 h
theorem OrdOn.tri {P : ByteArray → Prop} (h : OrdOn P) {a b : ByteArray} (ha : P a) (hb : P b) (hne : a ≠ b) (hn : ¬ cmpP a.data.toList b.data.toList < 0) : cmpP b.data.toList a.data.toList < 0 := by
 have h1 := cmpP_swap a.data.toList b.data.toList
 have h2 : cmpP a.data.toList b.data.toList ≠ 0 := fun e => hne (byte_ext (cmpP_zero _ _ (h.nul a ha) (h.nul b hb) e))
 omega
theorem putF_mem {P : ByteArray → Prop} (hP : OrdOn P) (f : Fil) (hf : P f.1) : ∀ l : List Fil, (∀ x ∈ l, P x.1) → Srt l → (∃ x ∈ l, x.1 = f.1) → putF l f = l
 | [], _, _, h => by obtain ⟨x, hx, _⟩ := h; cases hx
 | x :: l, hl, hs, h => by
  unfold putF
  by_cases e : x.1 = f.1
  ·rw [if_pos e]
  ·rw [if_neg e]
   obtain ⟨y, hy, hyf⟩ := h
   have hyl : y ∈ l := by
    rcases List.mem_cons.1 hy with rfl | hy
    ·exact absurd hyf e
    ·exact hy
   have hlt := (List.pairwise_cons.1 hs).1 y hyl
   rw [hyf] at hlt
   have hls : lessF f.1 x.1 = false := by
    rw [hP.less _ _ hf (hl x (List.mem_cons_self ..)) (fun h => e h.symm)]
    refine decide_eq_false (fun h => ?_)
    have := cmpP_swap x.1.data.toList f.1.data.toList
    omega
   rw [hls]
   simp only [Bool.false_eq_true, if_false]
   rw [putF_mem hP f hf l (fun x hx => hl x (List.mem_cons_of_mem _ hx)) (List.pairwise_cons.1 hs).2 ⟨y, hyl, hyf⟩]
theorem putF_new {P : ByteArray → Prop} (hP : OrdOn P) (f : Fil) (hf : P f.1) : ∀ l : List Fil, (∀ x ∈ l, P x.1) → Srt l → (∀ x ∈ l, x.1 ≠ f.1) → (putF l f).Perm (f :: l) ∧ Srt (putF l f)
 | [], _, _, _ => ⟨List.Perm.refl _, List.pairwise_singleton ..⟩
 | x :: l, hl, hs, h => by
  have hx := hl x (List.mem_cons_self ..)
  have hne := h x (List.mem_cons_self ..)
  have hs1 := (List.pairwise_cons.1 hs).1
  have hs2 := (List.pairwise_cons.1 hs).2
  unfold putF
  rw [if_neg hne, hP.less _ _ hf hx (fun e => hne e.symm)]
  by_cases hlt : cmpP f.1.data.toList x.1.data.toList < 0
  ·rw [decide_eq_true hlt]
   simp only [if_true]
   refine ⟨List.Perm.refl _, List.pairwise_cons.2 ⟨fun y hy => ?_, hs⟩⟩
   rcases List.mem_cons.1 hy with rfl | hy
   ·exact hlt
   ·exact cmpP_trans _ _ _ (hP.nul _ hf) (hP.nul _ hx) (hP.nul _ (hl y (List.mem_cons_of_mem _ hy))) hlt (hs1 y hy)
  ·rw [decide_eq_false hlt]
   simp only [Bool.false_eq_true, if_false]
   obtain ⟨i1, i2⟩ := putF_new hP f hf l (fun x hx => hl x (List.mem_cons_of_mem _ hx)) hs2 (fun x hx => h x (List.mem_cons_of_mem _ hx))
   refine ⟨(i1.cons x).trans (List.Perm.swap ..), List.pairwise_cons.2 ⟨fun y hy => ?_, i2⟩⟩
   rcases List.mem_cons.1 (i1.mem_iff.1 hy) with rfl | hy
   ·exact hP.tri hf hx (fun e => hne e.symm) hlt
   ·exact hs1 y hy
theorem sorted_one : ∀ (out d : List Fil), d.Perm out → Srt out → (d.Pairwise fun a b => cmpP a.1.data.toList b.1.data.toList ≤ 0) → d = out
 | [], d, h, _, _ => h.eq_nil
 | x :: o, [], h, _, _ => by have := h.length_eq; simp at this
 | x :: o, y :: e, h, h1, h2 => by
  have hx : x ∈ y :: e := h.mem_iff.2 (List.mem_cons_self ..)
  have hy : y ∈ x :: o := h.mem_iff.1 (List.mem_cons_self ..)
  have hxy : x = y := by
   rcases List.mem_cons.1 hx with h' | hx
   ·exact h'
   ·rcases List.mem_cons.1 hy with h' | hy
    ·exact h'.symm
    ·have a := (List.pairwise_cons.1 h1).1 y hy
     have b := (List.pairwise_cons.1 h2).1 x hx
     have c := cmpP_swap x.1.data.toList y.1.data.toList
     omega
  subst hxy
  rw [sorted_one o e ((List.perm_cons x).1 h) (List.pairwise_cons.1 h1).2 (List.pairwise_cons.1 h2).2]
theorem parts_apart : ∀ (t p : List UInt8), (∀ x ∈ partsGo t p, x ≠ []) → ∀ k, (t[k]? = some 47 ∨ k = t.length) → (k = 0 → p ≠ []) ∧ ∀ j, k = j + 1 → t[j]? ≠ some 47
 | [], p, h, k, hk => by
  have hk0 : k = 0 := by rcases hk with hk | hk <;> simp at hk; exact hk
  subst hk0
  exact ⟨fun _ => h p (by simp [partsGo]), fun j hj => by omega⟩
 | c :: t, p, h, k, hk => by
  by_cases hc : c = 47
  ·rw [partsGo, if_pos hc] at h
   cases k with
   | zero => exact ⟨fun _ => h p (List.mem_cons_self ..), fun j hj => by omega⟩
   | succ k =>
    have ih := parts_apart t [] (fun x hx => h x (List.mem_cons_of_mem _ hx)) k (by rcases hk with hk | hk <;> simp at hk <;> simp [hk])
    refine ⟨fun e => by omega, fun j hj => ?_⟩
    obtain rfl : k = j := by omega
    cases k with
    | zero => exact absurd rfl (ih.1 rfl)
    | succ k => rw [List.getElem?_cons_succ]; exact ih.2 k rfl
  ·rw [partsGo, if_neg hc] at h
   cases k with
   | zero => rcases hk with hk | hk <;> simp at hk; exact absurd hk hc
   | succ k =>
    have ih := parts_apart t (p ++ [c]) h k (by rcases hk with hk | hk <;> simp at hk <;> simp [hk])
    refine ⟨fun e => by omega, fun j hj => ?_⟩
    obtain rfl : k = j := by omega
    cases k with
    | zero => simp; exact hc
    | succ k => rw [List.getElem?_cons_succ]; exact ih.2 k rfl
end Go.Proofs.YtpckiobjpikmlaaGreatDoor
