/- Texts of this seat, joined. -/
import Derived.Test.YtnmkmmgaoplfiaaGreatDoorJ30
import Derived.Test.YtnmkmmgaoplfiaaGreatDoorJ32
import Derived.Test.YtnmkmmgaoplfiaaGreatDoorJ25
import Derived.Test.YtnmkmmgaoplfiaaGreatDoorJ21
import Derived.Deep.RegionHeld3
set_option linter.unusedSimpArgs false
set_option linter.unusedVariables false
set_option maxHeartbeats 20000000
namespace Go.Proofs.YtnmkmmgaoplfiaaGreatDoor
open Go.RowKit Go.Shelf Go.Lib
structure CB (w : World) (b : Nat) (l : List Value) : Prop where
 cells : ∀ i, i < l.length → w.cell? ⟨b, i, none⟩ = l[i]?
 lt : b < w.heap.size
theorem CB.keep {S : Nat → Prop} {w w' : World} {b : Nat} {l : List Value} (h : CB w b l) (ht : Touch S w w') (hs : ¬ S b) : CB w' b l :=
 ⟨fun i hi => (ht.cell (p := ⟨b, i, none⟩) h.lt hs).trans (h.cells i hi), Nat.lt_of_lt_of_le h.lt ht.size⟩
theorem CB.drewN {w : World} {b : Nat} {l : List Value} (h : CB w b l) (n : Nat) : CB (w.drewN n) b l := h.keep ((Touch.refl (fun _ => False) w).drewN n) (fun e => e)
theorem CB.new (w : World) (l : List Value) (t : TypeId) : CB (w.alloc (Obj.cells l.toArray t)) w.heap.size l := by
 have hb := heap_alloc_new w (Obj.cells l.toArray t)
 refine ⟨fun i hi => ?_, by simp⟩
 rw [row_cell hb i]; simp
theorem CB.three {w : World} {b : Nat} {x y z : Value} (h0 : w.cell? ⟨b, 0, none⟩ = some x) (h1 : w.cell? ⟨b, 1, none⟩ = some y) (h2 : w.cell? ⟨b, 2, none⟩ = some z) (hl : b < w.heap.size) : CB w b [x, y, z] := by
 refine ⟨fun i hi => ?_, hl⟩
 have : i < 3 := hi
 rcases i with _ | _ | _ | i
 ·exact h0
 ·exact h1
 ·exact h2
 ·omega
end Go.Proofs.YtnmkmmgaoplfiaaGreatDoor
namespace Go.Proofs.YtnmkmmgaoplfiaaGreatDoor
open Go.RowKit Go.Shelf Go.Lib
end Go.Proofs.YtnmkmmgaoplfiaaGreatDoor
namespace Go.Proofs.YtnmkmmgaoplfiaaGreatDoor
open Go.RowKit
theorem bare_tail (p : ByteArray) : p.data.toList = bareL p ++ (if folderB p then [47] else []) := by
 unfold bareL
 by_cases h : folderB p = true
 ·rw [if_pos h, if_pos h, ByteArray.toList_eq]
  unfold folderB at h
  rw [ByteArray.toList_eq] at h
  have h' := of_decide_eq_true h
  cases hl : p.data.toList with
  | nil => rw [hl] at h'; cases h'
  | cons a l =>
   rw [hl] at h'
   have hne : a :: l ≠ [] := by simp
   rw [List.getLast?_eq_some_getLast hne] at h'
   have := List.dropLast_concat_getLast hne
   rw [Option.some.inj h'] at this
   exact this.symm
 ·rw [if_neg h, if_neg h, ByteArray.toList_eq, List.append_nil]
theorem bare_len (p : ByteArray) : p.data.toList.length ≤ (bareL p).length + 1 := by
 have := congrArg List.length (bare_tail p)
 rw [List.length_append] at this
 split at this <;> simp at this ⊢ <;> omega
structure NameFacts (nm : ByteArray) : Prop where
 nul : NoNul nm.data.toList
 apart : ∀ k, ((bareL nm)[k]? = some 47 ∨ k = (bareL nm).length) → 0 < k ∧ (bareL nm)[k - 1]? ≠ some 47
theorem name_facts (nm : ByteArray) (h : nameOk nm = true) : NameFacts nm := by
 unfold nameOk at h
 rw [Bool.and_eq_true, Bool.and_eq_true] at h
 obtain ⟨⟨h1, h2⟩, h3⟩ := h
 refine ⟨fun c hc e => ?_, fun k hk => ?_⟩
 ·rw [ByteArray.toList_eq] at h2
  have := List.all_eq_true.1 h2 c hc
  rw [e] at this
  revert this; decide
 ·have := parts_apart (bareL nm) [] (fun x hx e => by
   have := List.all_eq_true.1 h3 x hx
   rw [e] at this; revert this; decide) k hk
  have hk0 : k ≠ 0 := fun e => this.1 e rfl
  refine ⟨by omega, ?_⟩
  exact this.2 (k - 1) (by omega)
def AllP (L : List Spanned) (p : ByteArray) : Prop := ∃ x ∈ L, (folderB x.ent.name = false ∧ p = x.ent.name) ∨ ∃ k, x.ent.name.data.toList[k]? = some 47 ∧ p = (folOf (x.ent.name.data.toList.take (k + 1))).1
theorem fol_list (l : List UInt8) : (folOf l).1.data.toList = l := rfl
theorem fol_folder (l : List UInt8) (k : Nat) (h : l[k]? = some 47) : folderB (folOf (l.take (k + 1))).1 = true ∧ bareL (folOf (l.take (k + 1))).1 = l.take k := by
 have hk : k < l.length := (List.getElem?_eq_some_iff.1 h).1
 have e : folderB (folOf (l.take (k + 1))).1 = true := by
  unfold folderB
  rw [ByteArray.toList_eq, fol_list, List.getLast?_eq_getElem?, List.length_take, show min (k + 1) l.length - 1 = k by omega, List.getElem?_take_of_lt (by omega)]
  exact decide_eq_true h
 refine ⟨e, ?_⟩
 unfold bareL
 rw [if_pos e, ByteArray.toList_eq, fol_list, List.dropLast_eq_take, List.length_take, List.take_take]
 congr 1; omega
theorem bare_at (nm : ByteArray) (k : Nat) (h : nm.data.toList[k]? = some 47) : ((bareL nm)[k]? = some 47 ∨ k = (bareL nm).length) ∧ nm.data.toList.take k = (bareL nm).take k := by
 have ht := bare_tail nm
 have hl := bare_len nm
 have hk : k < nm.data.toList.length := (List.getElem?_eq_some_iff.1 h).1
 by_cases hlt : k < (bareL nm).length
 ·refine ⟨.inl ?_, ?_⟩
  ·rw [ht, List.getElem?_append_left hlt] at h; exact h
  ·conv => lhs; rw [ht]
   rw [List.take_append_of_le_length (by omega)]
 ·refine ⟨.inr (by omega), ?_⟩
  conv => lhs; rw [ht]
  rw [List.take_append_of_le_length (by omega)]
theorem allp_last {L : List Spanned} (hn : ∀ x ∈ L, nameOk x.ent.name = true) {p : ByteArray} (h : AllP L p) : NoNul p.data.toList ∧ (bareL p).getLast? ≠ some 47 := by
 obtain ⟨x, hx, ⟨hf, rfl⟩ | ⟨k, hk, rfl⟩⟩ := h
 ·refine ⟨(name_facts _ (hn x hx)).nul, ?_⟩
  unfold bareL
  rw [if_neg (by rw [hf]; simp)]
  unfold folderB at hf
  exact of_decide_eq_false hf
 ·have nf := name_facts _ (hn x hx)
  refine ⟨fun c hc => nf.nul c (List.mem_of_mem_take hc), ?_⟩
  rw [(fol_folder _ k hk).2]
  obtain ⟨b1, b2⟩ := bare_at _ k hk
  obtain ⟨a1, a2⟩ := nf.apart k b1
  have hkl : k < x.ent.name.data.toList.length := (List.getElem?_eq_some_iff.1 hk).1
  rw [List.getLast?_eq_getElem?, List.length_take, show min k x.ent.name.data.toList.length - 1 = k - 1 by omega, b2, List.getElem?_take_of_lt (by omega)]
  exact a2
theorem clash_sym (a b : ByteArray) : clashB a b = clashB b a := by
 unfold clashB
 rw [decide_eq_decide.2 (⟨Eq.symm, Eq.symm⟩ : bareL a = bareL b ↔ bareL b = bareL a)]
 generalize (decide (bareL b = bareL a)) = x
 generalize (leadsB (bareL a) (bareL b) && !folderB a) = y
 generalize (leadsB (bareL b) (bareL a) && !folderB b) = z
 cases x <;> cases y <;> cases z <;> rfl
theorem no_clash {L : List Spanned} (hc : anyPair (fun a b => clashB a.name b.name) (L.map (·.ent)) = false) {x y : Spanned} (hx : x ∈ L) (hy : y ∈ L) (hne : x ≠ y) : clashB x.ent.name y.ent.name = false := by
 rw [anyPair_false, List.pairwise_map, List.pairwise_iff_getElem] at hc
 obtain ⟨i, hi, rfl⟩ := List.getElem_of_mem hx
 obtain ⟨j, hj, rfl⟩ := List.getElem_of_mem hy
 rcases Nat.lt_trichotomy i j with h | h | h
 ·exact hc i j hi hj h
 ·subst h; exact absurd rfl hne
 ·rw [clash_sym]; exact hc j i hj hi h
theorem file_in_way {a b : ByteArray} (ha : folderB a = false) (k : Nat) (hk : b.data.toList[k]? = some 47) (h : a.data.toList = b.data.toList.take k) : clashB a b = true := by
 have e1 : bareL a = a.data.toList := by unfold bareL; rw [if_neg (by rw [ha]; simp), ByteArray.toList_eq]
 obtain ⟨b1, b2⟩ := bare_at b k hk
 unfold clashB
 rcases b1 with b1 | b1
 ·have : leadsB (bareL a) (bareL b) = true := by
   unfold leadsB
   rw [List.isPrefixOf_iff_prefix, e1, h, b2]
   have hkl := (List.getElem?_eq_some_iff.1 b1).1
   have : (bareL b).take k ++ [47] = (bareL b).take (k + 1) := by
    rw [List.take_add_one, b1]; rfl
   rw [this]
   exact List.take_prefix ..
  rw [this, ha]; simp
 ·have : bareL a = bareL b := by rw [e1, h, b2, b1, List.take_length]
  rw [decide_eq_true this]; rfl
theorem bare_inj {L : List Spanned} (hc : anyPair (fun a b => clashB a.name b.name) (L.map (·.ent)) = false) {p q : ByteArray} (hp : AllP L p) (hq : AllP L q) (h : bareL p = bareL q) : p = q := by
 have file_fold : ∀ {x y : Spanned} {k : Nat}, x ∈ L → y ∈ L → folderB x.ent.name = false → y.ent.name.data.toList[k]? = some 47 → bareL x.ent.name = y.ent.name.data.toList.take k → False := by
  intro x y k hx hy hf hk he
  have e1 : bareL x.ent.name = x.ent.name.data.toList := by unfold bareL; rw [if_neg (by rw [hf]; simp), ByteArray.toList_eq]
  rw [e1] at he
  by_cases hxy : x = y
  ·subst hxy
   have := congrArg List.length he
   have hkl := (List.getElem?_eq_some_iff.1 hk).1
   rw [List.length_take] at this; omega
  ·have := no_clash hc hx hy hxy
   rw [file_in_way hf k hk he] at this; cases this
 obtain ⟨x, hx, ⟨hf, rfl⟩ | ⟨k, hk, rfl⟩⟩ := hp
 ·obtain ⟨y, hy, ⟨hg, rfl⟩ | ⟨j, hj, rfl⟩⟩ := hq
  ·refine byte_ext ?_
   rw [bare_tail x.ent.name, bare_tail y.ent.name, h, hf, hg]
  ·rw [(fol_folder _ j hj).2] at h
   exact (file_fold hx hy hf hj h).elim
 ·rw [(fol_folder _ k hk).2] at h
  obtain ⟨y, hy, ⟨hg, rfl⟩ | ⟨j, hj, rfl⟩⟩ := hq
  ·exact (file_fold hy hx hg hk h.symm).elim
  ·refine byte_ext ?_
   rw [bare_tail (folOf (x.ent.name.data.toList.take (k + 1))).1, bare_tail (folOf (y.ent.name.data.toList.take (j + 1))).1, (fol_folder _ j hj).1, (fol_folder _ k hk).1, (fol_folder _ k hk).2, h, (fol_folder _ j hj).2]
theorem allp_ord {L : List Spanned} (hn : ∀ x ∈ L, nameOk x.ent.name = true) (hc : anyPair (fun a b => clashB a.name b.name) (L.map (·.ent)) = false) : OrdOn (AllP L) := by
 refine ⟨fun a b ha hb hne => ?_, fun a ha => (allp_last hn ha).1⟩
 obtain ⟨a1, a2⟩ := allp_last hn ha
 obtain ⟨b1, b2⟩ := allp_last hn hb
 have ta := bare_tail a
 have tb := bare_tail b
 have na : NoNul (bareL a) := fun c hc => a1 c (by rw [ta]; exact List.mem_append_left _ hc)
 have nb : NoNul (bareL b) := fun c hc => b1 c (by rw [tb]; exact List.mem_append_left _ hc)
 unfold lessF
 rw [lexP_eq _ _ _ na nb]
 refine decide_eq_decide.2 ?_
 rw [ta, tb]
 refine (cmpP_tail _ _ _ _ (fun e => hne (bare_inj hc ha hb e)) na nb ?_ ?_ a2 b2).symm
 ·split
  ·exact .inr rfl
  ·exact .inl rfl
 ·split
  ·exact .inr rfl
  ·exact .inl rfl
structure OutIs (L : List Spanned) (acc : List Fil) (K : List (List UInt8)) (out : List Fil) : Prop where
 perm : out.Perm (acc ++ K.map folOf)
 srt : Srt out
 accs : ∀ f ∈ acc, AllP L f.1 ∧ folderB f.1 = false
 fols : ∀ k ∈ K, AllP L (folOf k).1 ∧ folderB (folOf k).1 = true
theorem OutIs.all {L : List Spanned} {acc : List Fil} {K : List (List UInt8)} {out : List Fil} (h : OutIs L acc K out) : ∀ x ∈ out, AllP L x.1 := by
 intro x hx
 rcases List.mem_append.1 (h.perm.mem_iff.1 hx) with h1 | h1
 ·exact (h.accs x h1).1
 ·obtain ⟨k, hk, rfl⟩ := List.mem_map.1 h1
  exact (h.fols k hk).1
theorem folOf_inj {a b : List UInt8} (h : (folOf a).1 = (folOf b).1) : a = b := by
 have := congrArg (fun x : ByteArray => x.data.toList) h
 exact this
theorem OutIs.folds {L : List Spanned} (hP : OrdOn (AllP L)) {x : Spanned} (hx : x ∈ L) : ∀ (f i : Nat) {acc : List Fil} {K : List (List UInt8)} {out : List Fil}, OutIs L acc K out → OutIs L acc (foldIn x.ent.name.data.toList f i K) (putFolds x.ent.name.data.toList f i out)
 | 0, _, _, _, _, h => h
 | f + 1, i, acc, K, out, h => by
  unfold foldIn putFolds
  refine OutIs.folds hP hx f (i + 1) ?_
  by_cases h47 : x.ent.name.data.toList[i]? = some 47
  ·have hA : AllP L (folOf (x.ent.name.data.toList.take (i + 1))).1 := ⟨x, hx, .inr ⟨i, h47, rfl⟩⟩
   have hF := (fol_folder _ i h47).1
   rw [if_pos h47]
   by_cases hk : K.contains (x.ent.name.data.toList.take (i + 1)) = true
   ·rw [if_neg (by rw [hk]; simp)]
    have hm : folOf (x.ent.name.data.toList.take (i + 1)) ∈ out := h.perm.mem_iff.2 (List.mem_append_right _ (List.mem_map.2 ⟨_, by simpa using hk, rfl⟩))
    rw [putF_mem hP _ hA out h.all h.srt ⟨_, hm, rfl⟩]
    exact h
   ·rw [if_pos ⟨h47, by simpa using hk⟩]
    have hnew : ∀ y ∈ out, y.1 ≠ (folOf (x.ent.name.data.toList.take (i + 1))).1 := by
     intro y hy e
     rcases List.mem_append.1 (h.perm.mem_iff.1 hy) with h1 | h1
     ·have := (h.accs y h1).2
      rw [e, hF] at this; cases this
     ·obtain ⟨k, hk', rfl⟩ := List.mem_map.1 h1
      rw [folOf_inj e] at hk'
      exact hk (by simpa using hk')
    obtain ⟨q1, q2⟩ := putF_new hP _ hA out h.all h.srt hnew
    refine ⟨q1.trans ?_, q2, h.accs, fun k hk' => ?_⟩
    ·rw [List.map_append, ← List.append_assoc]
     exact (List.Perm.cons _ h.perm).trans (List.perm_append_comm (l₁ := [_]) (l₂ := acc ++ K.map folOf))
    ·rcases List.mem_append.1 hk' with h1 | h1
     ·exact h.fols k h1
     ·rw [List.mem_singleton.1 h1]; exact ⟨hA, hF⟩
  ·rw [if_neg h47, if_neg (fun e => h47 e.1)]
   exact h
theorem OutIs.file {L : List Spanned} (hP : OrdOn (AllP L)) {x : Spanned} (hx : x ∈ L) (hf : folderB x.ent.name = false) {acc : List Fil} {K : List (List UInt8)} {out : List Fil} (h : OutIs L acc K out) (hne : ∀ f ∈ acc, f.1 ≠ x.ent.name) (d : List UInt8) : OutIs L (acc ++ [(x.ent.name, d)]) K (putF out (x.ent.name, d)) := by
 have hA : AllP L (x.ent.name, d).1 := ⟨x, hx, .inl ⟨hf, rfl⟩⟩
 have hnew : ∀ y ∈ out, y.1 ≠ (x.ent.name, d).1 := by
  intro y hy e
  rcases List.mem_append.1 (h.perm.mem_iff.1 hy) with h1 | h1
  ·exact hne y h1 e
  ·obtain ⟨k, hk', rfl⟩ := List.mem_map.1 h1
   have := (h.fols k hk').2
   rw [e] at this
   rw [show folderB (x.ent.name, d).1 = false from hf] at this; cases this
 obtain ⟨q1, q2⟩ := putF_new hP _ hA out h.all h.srt hnew
 refine ⟨q1.trans ?_, q2, fun f hf' => ?_, h.fols⟩
 ·refine (List.Perm.cons _ h.perm).trans ?_
  rw [List.append_assoc]
  exact List.perm_middle.symm
 ·rcases List.mem_append.1 hf' with h1 | h1
  ·exact h.accs f h1
  ·rw [List.mem_singleton.1 h1]; exact ⟨hA, hf⟩
theorem refGo_eq (s : ByteArray) {L : List Spanned} (hP : OrdOn (AllP L)) (hc : anyPair (fun a b => clashB a.name b.name) (L.map (·.ent)) = false) : ∀ (l L0 : List Spanned) (acc : List Fil) (K : List (List UInt8)) (out : List Fil), L = L0 ++ l → OutIs L acc K out → (∀ f ∈ acc, ∃ y ∈ L0, f.1 = y.ent.name) →
  match filesGo s l acc with
  | .inl k => refGo s l out = .inl k
  | .inr fs => ∃ o, refGo s l out = .inr o ∧ OutIs L fs (foldAll l K) o
 | [], L0, acc, K, out, _, h, _ => ⟨out, rfl, h⟩
 | x :: l, L0, acc, K, out, hL, h, ha => by
  have hx : x ∈ L := by rw [hL]; simp
  have h1 := OutIs.folds hP hx x.ent.name.size 0 h
  have hL' : L = (L0 ++ [x]) ++ l := by rw [hL]; simp
  unfold filesGo refGo
  by_cases hf : folderB x.ent.name = true
  ·rw [if_pos hf, if_pos hf]
   exact refGo_eq s hP hc l (L0 ++ [x]) acc _ _ hL' h1 (fun f hf => by
    obtain ⟨y, hy, e⟩ := ha f hf
    exact ⟨y, List.mem_append_left _ hy, e⟩)
  ·have hf' : folderB x.ent.name = false := by simpa using hf
   rw [if_neg hf, if_neg hf]
   cases hd : dataOfE s x with
   | inl k => rfl
   | inr d =>
    simp only
    have hne : ∀ f ∈ acc, f.1 ≠ x.ent.name := by
     intro f hfa e
     obtain ⟨y, hy, e2⟩ := ha f hfa
     rw [anyPair_false, List.pairwise_map, hL, List.pairwise_append] at hc
     have := hc.2.2 y hy x (List.mem_cons_self ..)
     rw [← e2, e] at this
     unfold clashB at this
     simp at this
    refine refGo_eq s hP hc l (L0 ++ [x]) (acc ++ [(x.ent.name, d)]) _ _ hL' (OutIs.file hP hx hf' h1 hne d) (fun f hf => ?_)
    rcases List.mem_append.1 hf with h2 | h2
    ·obtain ⟨y, hy, e⟩ := ha f h2
     exact ⟨y, List.mem_append_left _ hy, e⟩
    ·rw [List.mem_singleton.1 h2]; exact ⟨x, by simp, rfl⟩
theorem refGo_all (s : ByteArray) (L : List Spanned) (hn : ∀ x ∈ L, nameOk x.ent.name = true) (hc : anyPair (fun a b => clashB a.name b.name) (L.map (·.ent)) = false) :
  match filesGo s L [] with
  | .inl k => refGo s L [] = .inl k
  | .inr fs => ∃ o, refGo s L [] = .inr o ∧ ∀ d : List Fil, d.Perm (fs ++ (foldAll L []).map folOf) → d.Pairwise (fun a b => cmpP a.1.data.toList b.1.data.toList ≤ 0) → d = o := by
 have h0 : OutIs L [] [] [] := ⟨List.Perm.refl _, List.Pairwise.nil, fun f hf => (by cases hf), fun f hf => (by cases hf)⟩
 have := refGo_eq s (allp_ord hn hc) hc L [] [] [] [] rfl h0 (fun f hf => by cases hf)
 revert this
 cases filesGo s L [] with
 | inl k => exact fun h => h
 | inr fs =>
  rintro ⟨o, ho, h⟩
  exact ⟨o, ho, fun d hd hs => sorted_one o d (hd.trans h.perm.symm) h.srt hs⟩
end Go.Proofs.YtnmkmmgaoplfiaaGreatDoor
namespace Go.Proofs.YtnmkmmgaoplfiaaGreatDoor
open Go.RowKit
theorem listOf_each (s : ByteArray) (qe qn qb : Int) (L : List Spanned) (h : listOf s qe qn qb = .ok L) : (∀ x ∈ L, EntOk x.ent ∧ faultOf x.ent = 0) ∧ anyPair (fun a b => clashB a.name b.name) (L.map (·.ent)) = false := by
 unfold listOf at h
 cases hd : dirOf s with
 | error k => rw [hd] at h; cases h
 | ok d =>
  rw [hd] at h
  simp only at h
  split at h
  ·cases h
  ·split at h
   ·cases h
   ·cases he : entsGo s d.stop d.count d.place [] with
    | error k => rw [he] at h; cases h
    | ok l =>
     rw [he] at h
     simp only at h
     split at h
     ·cases h
     ·split at h
      ·cases h
      ·rename_i hcl
       cases hsp : spansOf s d.place l with
       | none => rw [hsp] at h; cases h
       | some r =>
        rw [hsp] at h
        simp only at h
        split at h
        ·cases h
        ·split at h
         ·cases h
         ·cases h
          obtain ⟨c1, c2⟩ := spansOf_ok s _ _ _ hsp
          have b3 := (entsGo_ok s _ _ _ _ _ he).2.2
          refine ⟨fun x hx => ?_, by rw [c1]; simpa using hcl⟩
          rcases b3 x.ent (c2 x hx).1 with h0 | h0
          ·cases h0
          ·exact h0
end Go.Proofs.YtnmkmmgaoplfiaaGreatDoor
namespace Go.Proofs.YtnmkmmgaoplfiaaGreatDoor
open Go.RowKit
theorem foldIn_keep (nm : List UInt8) : ∀ (f i : Nat) (acc : List (List UInt8)) (p : List UInt8), p ∈ acc → p ∈ foldIn nm f i acc
 | 0, _, _, _, h => h
 | f + 1, i, acc, p, h => by
  unfold foldIn
  refine foldIn_keep nm f (i + 1) _ p ?_
  split
  ·exact List.mem_append_left _ h
  ·exact h
theorem foldIn_has (nm : List UInt8) : ∀ (f i : Nat) (acc : List (List UInt8)) (k : Nat), i ≤ k → k < i + f → nm[k]? = some 47 → nm.take (k + 1) ∈ foldIn nm f i acc
 | 0, i, acc, k, h1, h2, _ => by omega
 | f + 1, i, acc, k, h1, h2, hk => by
  unfold foldIn
  by_cases e : k = i
  ·subst e
   refine foldIn_keep nm f (k + 1) _ _ ?_
   by_cases hc : acc.contains (nm.take (k + 1)) = false
   ·rw [if_pos ⟨hk, hc⟩]; simp
   ·rw [if_neg (fun h => hc h.2)]
    simpa using hc
  ·exact foldIn_has nm f (i + 1) _ k (by omega) (by omega) hk
theorem foldAll_keep : ∀ (L : List Spanned) (acc : List (List UInt8)) (p : List UInt8), p ∈ acc → p ∈ foldAll L acc
 | [], _, _, h => h
 | x :: L, acc, p, h => foldAll_keep L _ p (foldIn_keep _ _ _ _ p h)
theorem foldAll_has : ∀ (L : List Spanned) (acc : List (List UInt8)) (x : Spanned) (k : Nat), x ∈ L → x.ent.name.data.toList[k]? = some 47 → x.ent.name.data.toList.take (k + 1) ∈ foldAll L acc
 | [], _, _, _, h, _ => by cases h
 | y :: L, acc, x, k, h, hk => by
  unfold foldAll
  rcases List.mem_cons.1 h with rfl | h
  ·refine foldAll_keep L _ _ (foldIn_has _ _ 0 acc k (Nat.zero_le _) ?_ hk)
   have := (List.getElem?_eq_some_iff.1 hk).1
   have e : x.ent.name.data.toList.length = x.ent.name.size := Array.length_toList
   omega
  ·exact foldAll_has L _ x k h hk
theorem filesGo_keep (s : ByteArray) : ∀ (L : List Spanned) (acc fs : List Fil), filesGo s L acc = .inr fs → ∀ f ∈ acc, f ∈ fs
 | [], acc, fs, h, f, hf => by cases h; exact hf
 | x :: L, acc, fs, h, f, hf => by
  unfold filesGo at h
  split at h
  ·exact filesGo_keep s L acc fs h f hf
  ·cases hd : dataOfE s x with
   | inl k => rw [hd] at h; cases h
   | inr d => rw [hd] at h; exact filesGo_keep s L _ fs h f (List.mem_append_left _ hf)
theorem filesGo_has (s : ByteArray) : ∀ (L : List Spanned) (acc fs : List Fil), filesGo s L acc = .inr fs → ∀ x ∈ L, folderB x.ent.name = false → ∃ d, dataOfE s x = .inr d ∧ (x.ent.name, d) ∈ fs
 | [], acc, fs, h, x, hx, _ => by cases hx
 | y :: L, acc, fs, h, x, hx, hf => by
  unfold filesGo at h
  rcases List.mem_cons.1 hx with rfl | hx
  ·rw [if_neg (by rw [hf]; simp)] at h
   cases hd : dataOfE s x with
   | inl k => rw [hd] at h; cases h
   | inr d =>
    rw [hd] at h
    exact ⟨d, rfl, filesGo_keep s L _ fs h _ (by simp)⟩
  ·split at h
   ·exact filesGo_has s L acc fs h x hx hf
   ·cases hd : dataOfE s y with
    | inl k => rw [hd] at h; cases h
    | inr d => rw [hd] at h; exact filesGo_has s L _ fs h x hx hf
theorem faultOf_size (e : Ent) (h : faultOf e = 0) : (folderB e.name = true → e.size = 0) ∧ (e.method = 0 → e.size = e.packed) := by
 unfold faultOf at h
 split at h
 ·cases h
 ·split at h
  ·cases h
  ·split at h
   ·cases h
   ·split at h
    ·cases h
    ·rename_i hn
     simp only [Bool.or_eq_true, Bool.and_eq_true, decide_eq_true_eq, not_or, not_and] at hn
     obtain ⟨h1, h2⟩ := hn
     refine ⟨fun hf => ?_, fun hm => ?_⟩
     ·have := h1 hf
      omega
     ·have := h2 hm
      omega
theorem dataOfE_ok (s : ByteArray) (x : Spanned) (d : List UInt8) (hf : FileOk s x) (h0 : faultOf x.ent = 0) (h : dataOfE s x = .inr d) : d.length = x.ent.size ∧ sumOf ⟨d.toArray⟩ = x.ent.sum := by
 unfold dataOfE at h
 cases hg : givenOf (s.extract x.place (x.place + x.ent.packed)) x.ent with
 | inl k => rw [hg] at h; cases h
 | inr l =>
  rw [hg] at h
  simp only at h
  split at h
  ·rename_i hs
   cases h
   refine ⟨?_, hs⟩
   unfold givenOf at hg
   split at hg
   ·rename_i hm
    cases hg
    have e := (faultOf_size _ h0).2 hm
    have e2 : (s.extract x.place (x.place + x.ent.packed)).data.toList.length = (s.extract x.place (x.place + x.ent.packed)).size := Array.length_toList
    rw [e2, ByteArray.size_extract]
    have := hf.inside
    omega
   ·unfold wholeOf at hg
    split at hg
    ·cases hg
    ·split at hg
     ·cases hg
     ·rename_i hne
      split at hg
      ·cases hg
      ·cases hg
       exact Classical.byContradiction hne
  ·cases h
structure ToldOk (s : ByteArray) (L : List Spanned) (o : List Fil) : Prop where
 srt : Srt o
 all : ∀ f ∈ o, AllP L f.1
 ents : ∀ x ∈ L, ∃ f ∈ o, f.1 = x.ent.name ∧ f.2.length = x.ent.size ∧ (folderB x.ent.name = false → sumOf ⟨f.2.toArray⟩ = x.ent.sum)
 fols : ∀ f ∈ o, ∀ k, f.1.data.toList[k]? = some 47 → ∃ g ∈ o, g.1.data.toList = f.1.data.toList.take (k + 1)
theorem told_ok (s : ByteArray) (qe qn qb : Int) (L : List Spanned) (hR : listOf s qe qn qb = .ok L) (hs : s.size ≤ 2147483648) (fs : List Fil) (hfg : filesGo s L [] = .inr fs) (d : List Fil) (hperm : d.Perm (fs ++ (foldAll L []).map folOf)) (hsort : d.Pairwise fun a b => cmpP a.1.data.toList b.1.data.toList ≤ 0) : ToldOk s L d := by
 obtain ⟨heach, hcl⟩ := listOf_each s qe qn qb L hR
 have hfo := (listOf_ok s qe qn qb L hR hs).2.1
 have hn : ∀ x ∈ L, nameOk x.ent.name = true := fun x hx => faultOf_name _ (heach x hx).2
 have h0 : OutIs L [] [] [] := ⟨List.Perm.refl _, List.Pairwise.nil, fun f hf => (by cases hf), fun f hf => (by cases hf)⟩
 have hall := refGo_eq s (allp_ord hn hcl) hcl L [] [] [] [] rfl h0 (fun f hf => by cases hf)
 rw [hfg] at hall
 obtain ⟨o, ho, hO⟩ := (show ∃ o, refGo s L [] = .inr o ∧ OutIs L fs (foldAll L []) o from hall)
 obtain rfl := sorted_one o d (hperm.trans hO.perm.symm) hO.srt hsort
 have hin : ∀ x ∈ L, ∀ k, x.ent.name.data.toList[k]? = some 47 → folOf (x.ent.name.data.toList.take (k + 1)) ∈ d := fun x hx k hk =>
  hO.perm.mem_iff.2 (List.mem_append_right _ (List.mem_map.2 ⟨_, foldAll_has L [] x k hx hk, rfl⟩))
 refine ⟨hO.srt, hO.all, fun x hx => ?_, fun f hf k hk => ?_⟩
 ·by_cases hfb : folderB x.ent.name = true
  ·have ht := bare_tail x.ent.name
   rw [if_pos hfb] at ht
   have hpos := name_pos _ (hn x hx)
   have hlen : x.ent.name.data.toList.length = x.ent.name.size := Array.length_toList
   have hl2 := congrArg List.length ht
   rw [List.length_append, hlen] at hl2
   simp only [List.length_singleton] at hl2
   have hk : x.ent.name.data.toList[x.ent.name.size - 1]? = some 47 := by
    rw [ht, List.getElem?_append_right (by omega), show x.ent.name.size - 1 - (bareL x.ent.name).length = 0 by omega]
    rfl
   have hm := hin x hx _ hk
   rw [show x.ent.name.size - 1 + 1 = x.ent.name.size by omega, List.take_of_length_le (by omega)] at hm
   refine ⟨_, hm, ?_, ?_, fun h => by rw [hfb] at h; cases h⟩
   ·exact byte_ext rfl
   ·rw [(faultOf_size _ (heach x hx).2).1 hfb]; rfl
  ·have hfb' : folderB x.ent.name = false := by simpa using hfb
   obtain ⟨dd, h1, h2⟩ := filesGo_has s L [] fs hfg x hx hfb'
   obtain ⟨h3, h4⟩ := dataOfE_ok s x dd (hfo x hx) (heach x hx).2 h1
   exact ⟨_, hO.perm.mem_iff.2 (List.mem_append_left _ h2), rfl, h3, fun _ => h4⟩
 ·obtain ⟨x, hx, ⟨_, e⟩ | ⟨j, hj, e⟩⟩ := hO.all f hf
  ·rw [e] at hk ⊢
   exact ⟨_, hin x hx k hk, rfl⟩
  ·rw [e, fol_list] at hk ⊢
   have hkl : k < (x.ent.name.data.toList.take (j + 1)).length := (List.getElem?_eq_some_iff.1 hk).1
   rw [List.length_take] at hkl
   have hk' : x.ent.name.data.toList[k]? = some 47 := by
    rw [List.getElem?_take_of_lt (by omega)] at hk; exact hk
   refine ⟨_, hin x hx k hk', ?_⟩
   rw [fol_list, List.take_take]
   congr 1; omega
end Go.Proofs.YtnmkmmgaoplfiaaGreatDoor
