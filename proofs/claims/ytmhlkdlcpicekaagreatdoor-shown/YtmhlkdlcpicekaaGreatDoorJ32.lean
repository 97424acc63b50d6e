/- Texts of this seat, joined. -/
import Derived.Test.YtmhlkdlcpicekaaGreatDoorJ30
import Derived.Test.YtmhlkdlcpicekaaGreatDoorJ31
import Derived.Test.YtmhlkdlcpicekaaGreatDoorJ26
import Derived.Test.YtmhlkdlcpicekaaGreatDoorJ19
import Derived.Test.YtmhlkdlcpicekaaGreatDoorJ21
import Derived.Test.YtmhlkdlcpicekaaGreatDoorJ22
import Derived.Test.YtmhlkdlcpicekaaGreatDoorJ24
import Derived.Deep.RegionHeld3
set_option linter.unusedSimpArgs false
set_option linter.unusedVariables false
set_option maxRecDepth 100000
set_option maxHeartbeats 20000000
namespace Go.Proofs.YtmhlkdlcpicekaaGreatDoor
open Go.RowKit Go.Shelf Go.Lib
structure CB (w : World) (b : Nat) (l : List Value) : Prop where
 cells : ∀ i, i < l.length → w.cell? ⟨b, i, none⟩ = l[i]?
 lt : b < w.heap.size
theorem CB.keep {S : Nat → Prop} {w w' : World} {b : Nat} {l : List Value} (h : CB w b l) (ht : Touch S w w') (hs : ¬ S b) : CB w' b l :=
 ⟨fun i hi => (ht.cell (p := ⟨b, i, none⟩) h.lt hs).trans (h.cells i hi), Nat.lt_of_lt_of_le h.lt ht.size⟩
theorem CB.drewN {w : World} {b : Nat} {l : List Value} (h : CB w b l) (n : Nat) : CB (w.drewN n) b l := h.keep ((Touch.refl (fun _ => False) w).drewN n) (fun e => e)
theorem CB.new (w : World) (l : List Value) (t : TypeId) : CB (w.alloc (Obj.cells l.toArray t)) w.heap.size l := by
 have hb := heap_alloc_new w (Obj.cells l.toArray t)
 refine ⟨fun i hi => ?_, by simp⟩
 rw [row_cell hb i]; simp
theorem CB.three {w : World} {b : Nat} {x y z : Value} (h0 : w.cell? ⟨b, 0, none⟩ = some x) (h1 : w.cell? ⟨b, 1, none⟩ = some y) (h2 : w.cell? ⟨b, 2, none⟩ = some z) (hl : b < w.heap.size) : CB w b [x, y, z] := by
 refine ⟨fun i hi => ?_, hl⟩
 have : i < 3 := hi
 rcases i with _ | _ | _ | i
 ·exact h0
 ·exact h1
 ·exact h2
 ·omega
theorem Refs.owned {w : World} {base : Nat} {v : Value} {l : List Ent} (h : w.ownsRow base 248 13 v l.length (refV l)) : ∃ a cap g, v = .slice a l.length cap ∧ base ≤ g ∧ Refs w a g (l.map rawE) := by
 obtain ⟨q1, ⟨q2, q3⟩ | ⟨g', cap', cur, rfl, hrest⟩⟩ := id h
 ·refine ⟨none, 0, base, by rw [q2, q3], Nat.le_refl _, ⟨fun h => ?_, fun h => ?_⟩⟩
  ·rw [List.length_map] at h; omega
  ·rw [List.length_map] at h; omega
 ·obtain ⟨z1, z2⟩ := RefAt.owned h
  exact ⟨some ⟨g', 0, none⟩, cap', g', rfl, z1, ⟨fun _ => rfl, fun _ => z2⟩⟩
end Go.Proofs.YtmhlkdlcpicekaaGreatDoor
namespace Go.Proofs.YtmhlkdlcpicekaaGreatDoor
open Go.RowKit Go.Shelf Go.Lib
@[reducible] def RFils (w : World) (base : Nat) (v : Value) (L : List Fil) : Prop := w.ownsRow base 255 2 v L.length (fileV L)
theorem fileV_cell (l : List Fil) : ∀ u ∈ fileV l, u.oneCell' = true := by
 intro u hu
 unfold fileV at hu
 rw [List.mem_flatMap] at hu
 obtain ⟨f, _, h⟩ := hu
 simp [fileL] at h
 rcases h with rfl | rfl <;> rfl
theorem RFils.files {w : World} {base g cap : Nat} {L : List Fil} (h : RFils w base (.slice (some ⟨g, 0, none⟩) L.length cap) L) : FilesAt w g L ∧ g < w.heap.size ∧ L.length ≤ cap ∧ ∀ j u, (fileV L)[j]? = some u → w.cell? ⟨g, j, none⟩ = some u := by
 obtain ⟨h1, ⟨h2, _⟩ | ⟨g', cap', cur, e, hb, hg, h3, h4, h5, h6⟩⟩ := h
 ·cases h2
 ·cases e
  have key : ∀ j u, (fileV L)[j]? = some u → w.cell? ⟨g, j, none⟩ = some u := by
   intro j u hj
   have hlt : j < L.length * 2 := by rw [← h1]; exact (List.getElem?_eq_some_iff.1 hj).1
   rw [← h6, List.getElem?_take_of_lt hlt] at hj
   rw [row_cell hg j]; simpa using hj
  refine ⟨fun i hi => ?_, (Array.getElem?_eq_some_iff.1 hg).1, h3, key⟩
  obtain ⟨a1, a2⟩ := fileV_get L i hi
  exact ⟨key _ _ a1, key _ _ a2⟩
theorem RFils.mono {w : World} {base base' : Nat} {v : Value} {L : List Fil} (h : RFils w base v L) (hb : base' ≤ base) : RFils w base' v L :=
 ⟨h.1, h.2.imp id (fun ⟨g, cap, cur, q1, q2, q3⟩ => ⟨g, cap, cur, q1, Nat.le_trans hb q2, q3⟩)⟩
end Go.Proofs.YtmhlkdlcpicekaaGreatDoor
namespace Go.Proofs.YtmhlkdlcpicekaaGreatDoor
open Go.RowKit
theorem bare_tail (p : ByteArray) : p.data.toList = bareL p ++ (if folderB p then [47] else []) := by
 unfold bareL
 by_cases h : folderB p = true
 ·rw [if_pos h, if_pos h, ByteArray.toList_eq]
  unfold folderB at h
  rw [ByteArray.toList_eq] at h
  have h' := of_decide_eq_true h
  cases hl : p.data.toList with
  | nil => rw [hl] at h'; cases h'
  | cons a l =>
   rw [hl] at h'
   have hne : a :: l ≠ [] := by simp
   rw [List.getLast?_eq_some_getLast hne] at h'
   have := List.dropLast_concat_getLast hne
   rw [Option.some.inj h'] at this
   exact this.symm
 ·rw [if_neg h, if_neg h, ByteArray.toList_eq, List.append_nil]
theorem bare_len (p : ByteArray) : p.data.toList.length ≤ (bareL p).length + 1 := by
 have := congrArg List.length (bare_tail p)
 rw [List.length_append] at this
 split at this <;> simp at this ⊢ <;> omega
structure NameFacts (nm : ByteArray) : Prop where
 nul : NoNul nm.data.toList
 apart : ∀ k, ((bareL nm)[k]? = some 47 ∨ k = (bareL nm).length) → 0 < k ∧ (bareL nm)[k - 1]? ≠ some 47
theorem name_facts (nm : ByteArray) (h : nameOk nm = true) : NameFacts nm := by
 unfold nameOk at h
 rw [Bool.and_eq_true, Bool.and_eq_true] at h
 obtain ⟨⟨h1, h2⟩, h3⟩ := h
 refine ⟨fun c hc e => ?_, fun k hk => ?_⟩
 ·rw [ByteArray.toList_eq] at h2
  have := List.all_eq_true.1 h2 c hc
  rw [e] at this
  revert this; decide
 ·have := parts_apart (bareL nm) [] (fun x hx e => by
   have := List.all_eq_true.1 h3 x hx
   rw [e] at this; revert this; decide) k hk
  have hk0 : k ≠ 0 := fun e => this.1 e rfl
  refine ⟨by omega, ?_⟩
  exact this.2 (k - 1) (by omega)
def AllP (L : List Spanned) (p : ByteArray) : Prop := ∃ x ∈ L, (folderB x.ent.name = false ∧ p = x.ent.name) ∨ ∃ k, x.ent.name.data.toList[k]? = some 47 ∧ p = (folOf (x.ent.name.data.toList.take (k + 1))).1
theorem fol_list (l : List UInt8) : (folOf l).1.data.toList = l := rfl
theorem fol_folder (l : List UInt8) (k : Nat) (h : l[k]? = some 47) : folderB (folOf (l.take (k + 1))).1 = true ∧ bareL (folOf (l.take (k + 1))).1 = l.take k := by
 have hk : k < l.length := (List.getElem?_eq_some_iff.1 h).1
 have e : folderB (folOf (l.take (k + 1))).1 = true := by
  unfold folderB
  rw [ByteArray.toList_eq, fol_list, List.getLast?_eq_getElem?, List.length_take, show min (k + 1) l.length - 1 = k by omega, List.getElem?_take_of_lt (by omega)]
  exact decide_eq_true h
 refine ⟨e, ?_⟩
 unfold bareL
 rw [if_pos e, ByteArray.toList_eq, fol_list, List.dropLast_eq_take, List.length_take, List.take_take]
 congr 1; omega
theorem bare_at (nm : ByteArray) (k : Nat) (h : nm.data.toList[k]? = some 47) : ((bareL nm)[k]? = some 47 ∨ k = (bareL nm).length) ∧ nm.data.toList.take k = (bareL nm).take k := by
 have ht := bare_tail nm
 have hl := bare_len nm
 have hk : k < nm.data.toList.length := (List.getElem?_eq_some_iff.1 h).1
 by_cases hlt : k < (bareL nm).length
 ·refine ⟨.inl ?_, ?_⟩
  ·rw [ht, List.getElem?_append_left hlt] at h; exact h
  ·conv => lhs; rw [ht]
   rw [List.take_append_of_le_length (by omega)]
 ·refine ⟨.inr (by omega), ?_⟩
  conv => lhs; rw [ht]
  rw [List.take_append_of_le_length (by omega)]
theorem allp_last {L : List Spanned} (hn : ∀ x ∈ L, nameOk x.ent.name = true) {p : ByteArray} (h : AllP L p) : NoNul p.data.toList ∧ (bareL p).getLast? ≠ some 47 := by
 obtain ⟨x, hx, ⟨hf, rfl⟩ | ⟨k, hk, rfl⟩⟩ := h
 ·refine ⟨(name_facts _ (hn x hx)).nul, ?_⟩
  unfold bareL
  rw [if_neg (by rw [hf]; simp)]
  unfold folderB at hf
  exact of_decide_eq_false hf
 ·have nf := name_facts _ (hn x hx)
  refine ⟨fun c hc => nf.nul c (List.mem_of_mem_take hc), ?_⟩
  rw [(fol_folder _ k hk).2]
  obtain ⟨b1, b2⟩ := bare_at _ k hk
  obtain ⟨a1, a2⟩ := nf.apart k b1
  have hkl : k < x.ent.name.data.toList.length := (List.getElem?_eq_some_iff.1 hk).1
  rw [List.getLast?_eq_getElem?, List.length_take, show min k x.ent.name.data.toList.length - 1 = k - 1 by omega, b2, List.getElem?_take_of_lt (by omega)]
  exact a2
theorem clash_sym (a b : ByteArray) : clashB a b = clashB b a := by
 unfold clashB
 rw [decide_eq_decide.2 (⟨Eq.symm, Eq.symm⟩ : bareL a = bareL b ↔ bareL b = bareL a)]
 generalize (decide (bareL b = bareL a)) = x
 generalize (leadsB (bareL a) (bareL b) && !folderB a) = y
 generalize (leadsB (bareL b) (bareL a) && !folderB b) = z
 cases x <;> cases y <;> cases z <;> rfl
theorem no_clash {L : List Spanned} (hc : anyPair (fun a b => clashB a.name b.name) (L.map (·.ent)) = false) {x y : Spanned} (hx : x ∈ L) (hy : y ∈ L) (hne : x ≠ y) : clashB x.ent.name y.ent.name = false := by
 rw [anyPair_false, List.pairwise_map, List.pairwise_iff_getElem] at hc
 obtain ⟨i, hi, rfl⟩ := List.getElem_of_mem hx
 obtain ⟨j, hj, rfl⟩ := List.getElem_of_mem hy
 rcases Nat.lt_trichotomy i j with h | h | h
 ·exact hc i j hi hj h
 ·subst h; exact absurd rfl hne
 ·rw [clash_sym]; exact hc j i hj hi h
theorem file_in_way {a b : ByteArray} (ha : folderB a = false) (k : Nat) (hk : b.data.toList[k]? = some 47) (h : a.data.toList = b.data.toList.take k) : clashB a b = true := by
 have e1 : bareL a = a.data.toList := by unfold bareL; rw [if_neg (by rw [ha]; simp), ByteArray.toList_eq]
 obtain ⟨b1, b2⟩ := bare_at b k hk
 unfold clashB
 rcases b1 with b1 | b1
 ·have : leadsB (bareL a) (bareL b) = true := by
   unfold leadsB
   rw [List.isPrefixOf_iff_prefix, e1, h, b2]
   have hkl := (List.getElem?_eq_some_iff.1 b1).1
   have : (bareL b).take k ++ [47] = (bareL b).take (k + 1) := by
    rw [List.take_add_one, b1]; rfl
   rw [this]
   exact List.take_prefix ..
  rw [this, ha]; simp
 ·have : bareL a = bareL b := by rw [e1, h, b2, b1, List.take_length]
  rw [decide_eq_true this]; rfl
theorem bare_inj {L : List Spanned} (hc : anyPair (fun a b => clashB a.name b.name) (L.map (·.ent)) = false) {p q : ByteArray} (hp : AllP L p) (hq : AllP L q) (h : bareL p = bareL q) : p = q := by
 have file_fold : ∀ {x y : Spanned} {k : Nat}, x ∈ L → y ∈ L → folderB x.ent.name = false → y.ent.name.data.toList[k]? = some 47 → bareL x.ent.name = y.ent.name.data.toList.take k → False := by
  intro x y k hx hy hf hk he
  have e1 : bareL x.ent.name = x.ent.name.data.toList := by unfold bareL; rw [if_neg (by rw [hf]; simp), ByteArray.toList_eq]
  rw [e1] at he
  by_cases hxy : x = y
  ·subst hxy
   have := congrArg List.length he
   have hkl := (List.getElem?_eq_some_iff.1 hk).1
   rw [List.length_take] at this; omega
  ·have := no_clash hc hx hy hxy
   rw [file_in_way hf k hk he] at this; cases this
 obtain ⟨x, hx, ⟨hf, rfl⟩ | ⟨k, hk, rfl⟩⟩ := hp
 ·obtain ⟨y, hy, ⟨hg, rfl⟩ | ⟨j, hj, rfl⟩⟩ := hq
  ·refine byte_ext ?_
   rw [bare_tail x.ent.name, bare_tail y.ent.name, h, hf, hg]
  ·rw [(fol_folder _ j hj).2] at h
   exact (file_fold hx hy hf hj h).elim
 ·rw [(fol_folder _ k hk).2] at h
  obtain ⟨y, hy, ⟨hg, rfl⟩ | ⟨j, hj, rfl⟩⟩ := hq
  ·exact (file_fold hy hx hg hk h.symm).elim
  ·refine byte_ext ?_
   rw [bare_tail (folOf (x.ent.name.data.toList.take (k + 1))).1, bare_tail (folOf (y.ent.name.data.toList.take (j + 1))).1, (fol_folder _ j hj).1, (fol_folder _ k hk).1, (fol_folder _ k hk).2, h, (fol_folder _ j hj).2]
theorem allp_ord {L : List Spanned} (hn : ∀ x ∈ L, nameOk x.ent.name = true) (hc : anyPair (fun a b => clashB a.name b.name) (L.map (·.ent)) = false) : OrdOn (AllP L) := by
 refine ⟨fun a b ha hb hne => ?_, fun a ha => (allp_last hn ha).1⟩
 obtain ⟨a1, a2⟩ := allp_last hn ha
 obtain ⟨b1, b2⟩ := allp_last hn hb
 have ta := bare_tail a
 have tb := bare_tail b
 have na : NoNul (bareL a) := fun c hc => a1 c (by rw [ta]; exact List.mem_append_left _ hc)
 have nb : NoNul (bareL b) := fun c hc => b1 c (by rw [tb]; exact List.mem_append_left _ hc)
 unfold lessF
 rw [lexP_eq _ _ _ na nb]
 refine decide_eq_decide.2 ?_
 rw [ta, tb]
 refine (cmpP_tail _ _ _ _ (fun e => hne (bare_inj hc ha hb e)) na nb ?_ ?_ a2 b2).symm
 ·split
  ·exact .inr rfl
  ·exact .inl rfl
 ·split
  ·exact .inr rfl
  ·exact .inl rfl
structure OutIs (L : List Spanned) (acc : List Fil) (K : List (List UInt8)) (out : List Fil) : Prop where
 perm : out.Perm (acc ++ K.map folOf)
 srt : Srt out
 accs : ∀ f ∈ acc, AllP L f.1 ∧ folderB f.1 = false
 fols : ∀ k ∈ K, AllP L (folOf k).1 ∧ folderB (folOf k).1 = true
theorem OutIs.all {L : List Spanned} {acc : List Fil} {K : List (List UInt8)} {out : List Fil} (h : OutIs L acc K out) : ∀ x ∈ out, AllP L x.1 := by
 intro x hx
 rcases List.mem_append.1 (h.perm.mem_iff.1 hx) with h1 | h1
 ·exact (h.accs x h1).1
 ·obtain ⟨k, hk, rfl⟩ := List.mem_map.1 h1
  exact (h.fols k hk).1
theorem folOf_inj {a b : List UInt8} (h : (folOf a).1 = (folOf b).1) : a = b := by
 have := congrArg (fun x : ByteArray => x.data.toList) h
 exact this
theorem OutIs.folds {L : List Spanned} (hP : OrdOn (AllP L)) {x : Spanned} (hx : x ∈ L) : ∀ (f i : Nat) {acc : List Fil} {K : List (List UInt8)} {out : List Fil}, OutIs L acc K out → OutIs L acc (foldIn x.ent.name.data.toList f i K) (putFolds x.ent.name.data.toList f i out)
 | 0, _, _, _, _, h => h
 | f + 1, i, acc, K, out, h => by
  unfold foldIn putFolds
  refine OutIs.folds hP hx f (i + 1) ?_
  by_cases h47 : x.ent.name.data.toList[i]? = some 47
  ·have hA : AllP L (folOf (x.ent.name.data.toList.take (i + 1))).1 := ⟨x, hx, .inr ⟨i, h47, rfl⟩⟩
   have hF := (fol_folder _ i h47).1
   rw [if_pos h47]
   by_cases hk : K.contains (x.ent.name.data.toList.take (i + 1)) = true
   ·rw [if_neg (by rw [hk]; simp)]
    have hm : folOf (x.ent.name.data.toList.take (i + 1)) ∈ out := h.perm.mem_iff.2 (List.mem_append_right _ (List.mem_map.2 ⟨_, by simpa using hk, rfl⟩))
    rw [putF_mem hP _ hA out h.all h.srt ⟨_, hm, rfl⟩]
    exact h
   ·rw [if_pos ⟨h47, by simpa using hk⟩]
    have hnew : ∀ y ∈ out, y.1 ≠ (folOf (x.ent.name.data.toList.take (i + 1))).1 := by
     intro y hy e
     rcases List.mem_append.1 (h.perm.mem_iff.1 hy) with h1 | h1
     ·have := (h.accs y h1).2
      rw [e, hF] at this; cases this
     ·obtain ⟨k, hk', rfl⟩ := List.mem_map.1 h1
      rw [folOf_inj e] at hk'
      exact hk (by simpa using hk')
    obtain ⟨q1, q2⟩ := putF_new hP _ hA out h.all h.srt hnew
    refine ⟨q1.trans ?_, q2, h.accs, fun k hk' => ?_⟩
    ·rw [List.map_append, ← List.append_assoc]
     exact (List.Perm.cons _ h.perm).trans (List.perm_append_comm (l₁ := [_]) (l₂ := acc ++ K.map folOf))
    ·rcases List.mem_append.1 hk' with h1 | h1
     ·exact h.fols k h1
     ·rw [List.mem_singleton.1 h1]; exact ⟨hA, hF⟩
  ·rw [if_neg h47, if_neg (fun e => h47 e.1)]
   exact h
theorem OutIs.file {L : List Spanned} (hP : OrdOn (AllP L)) {x : Spanned} (hx : x ∈ L) (hf : folderB x.ent.name = false) {acc : List Fil} {K : List (List UInt8)} {out : List Fil} (h : OutIs L acc K out) (hne : ∀ f ∈ acc, f.1 ≠ x.ent.name) (d : List UInt8) : OutIs L (acc ++ [(x.ent.name, d)]) K (putF out (x.ent.name, d)) := by
 have hA : AllP L (x.ent.name, d).1 := ⟨x, hx, .inl ⟨hf, rfl⟩⟩
 have hnew : ∀ y ∈ out, y.1 ≠ (x.ent.name, d).1 := by
  intro y hy e
  rcases List.mem_append.1 (h.perm.mem_iff.1 hy) with h1 | h1
  ·exact hne y h1 e
  ·obtain ⟨k, hk', rfl⟩ := List.mem_map.1 h1
   have := (h.fols k hk').2
   rw [e] at this
   rw [show folderB (x.ent.name, d).1 = false from hf] at this; cases this
 obtain ⟨q1, q2⟩ := putF_new hP _ hA out h.all h.srt hnew
 refine ⟨q1.trans ?_, q2, fun f hf' => ?_, h.fols⟩
 ·refine (List.Perm.cons _ h.perm).trans ?_
  rw [List.append_assoc]
  exact List.perm_middle.symm
 ·rcases List.mem_append.1 hf' with h1 | h1
  ·exact h.accs f h1
  ·rw [List.mem_singleton.1 h1]; exact ⟨hA, hf⟩
theorem refGo_eq (s : ByteArray) {L : List Spanned} (hP : OrdOn (AllP L)) (hc : anyPair (fun a b => clashB a.name b.name) (L.map (·.ent)) = false) : ∀ (l L0 : List Spanned) (acc : List Fil) (K : List (List UInt8)) (out : List Fil), L = L0 ++ l → OutIs L acc K out → (∀ f ∈ acc, ∃ y ∈ L0, f.1 = y.ent.name) →
  match filesGo s l acc with
  | .inl k => refGo s l out = .inl k
  | .inr fs => ∃ o, refGo s l out = .inr o ∧ OutIs L fs (foldAll l K) o
 | [], L0, acc, K, out, _, h, _ => ⟨out, rfl, h⟩
 | x :: l, L0, acc, K, out, hL, h, ha => by
  have hx : x ∈ L := by rw [hL]; simp
  have h1 := OutIs.folds hP hx x.ent.name.size 0 h
  have hL' : L = (L0 ++ [x]) ++ l := by rw [hL]; simp
  unfold filesGo refGo
  by_cases hf : folderB x.ent.name = true
  ·rw [if_pos hf, if_pos hf]
   exact refGo_eq s hP hc l (L0 ++ [x]) acc _ _ hL' h1 (fun f hf => by
    obtain ⟨y, hy, e⟩ := ha f hf
    exact ⟨y, List.mem_append_left _ hy, e⟩)
  ·have hf' : folderB x.ent.name = false := by simpa using hf
   rw [if_neg hf, if_neg hf]
   cases hd : dataOfE s x with
   | inl k => rfl
   | inr d =>
    simp only
    have hne : ∀ f ∈ acc, f.1 ≠ x.ent.name := by
     intro f hfa e
     obtain ⟨y, hy, e2⟩ := ha f hfa
     rw [anyPair_false, List.pairwise_map, hL, List.pairwise_append] at hc
     have := hc.2.2 y hy x (List.mem_cons_self ..)
     rw [← e2, e] at this
     unfold clashB at this
     simp at this
    refine refGo_eq s hP hc l (L0 ++ [x]) (acc ++ [(x.ent.name, d)]) _ _ hL' (OutIs.file hP hx hf' h1 hne d) (fun f hf => ?_)
    rcases List.mem_append.1 hf with h2 | h2
    ·obtain ⟨y, hy, e⟩ := ha f h2
     exact ⟨y, List.mem_append_left _ hy, e⟩
    ·rw [List.mem_singleton.1 h2]; exact ⟨x, by simp, rfl⟩
theorem refGo_all (s : ByteArray) (L : List Spanned) (hn : ∀ x ∈ L, nameOk x.ent.name = true) (hc : anyPair (fun a b => clashB a.name b.name) (L.map (·.ent)) = false) :
  match filesGo s L [] with
  | .inl k => refGo s L [] = .inl k
  | .inr fs => ∃ o, refGo s L [] = .inr o ∧ ∀ d : List Fil, d.Perm (fs ++ (foldAll L []).map folOf) → d.Pairwise (fun a b => cmpP a.1.data.toList b.1.data.toList ≤ 0) → d = o := by
 have h0 : OutIs L [] [] [] := ⟨List.Perm.refl _, List.Pairwise.nil, fun f hf => (by cases hf), fun f hf => (by cases hf)⟩
 have := refGo_eq s (allp_ord hn hc) hc L [] [] [] [] rfl h0 (fun f hf => by cases hf)
 revert this
 cases filesGo s L [] with
 | inl k => exact fun h => h
 | inr fs =>
  rintro ⟨o, ho, h⟩
  exact ⟨o, ho, fun d hd hs => sorted_one o d (hd.trans h.perm.symm) h.srt hs⟩
end Go.Proofs.YtmhlkdlcpicekaaGreatDoor
namespace Go.Proofs.YtmhlkdlcpicekaaGreatDoor
open Go.RowKit
theorem listOf_each (s : ByteArray) (qe qn qb : Int) (L : List Spanned) (h : listOf s qe qn qb = .ok L) : (∀ x ∈ L, EntOk x.ent ∧ faultOf x.ent = 0) ∧ anyPair (fun a b => clashB a.name b.name) (L.map (·.ent)) = false := by
 unfold listOf at h
 cases hd : dirOf s with
 | error k => rw [hd] at h; cases h
 | ok d =>
  rw [hd] at h
  simp only at h
  split at h
  ·cases h
  ·split at h
   ·cases h
   ·cases he : entsGo s d.stop d.count d.place [] with
    | error k => rw [he] at h; cases h
    | ok l =>
     rw [he] at h
     simp only at h
     split at h
     ·cases h
     ·split at h
      ·cases h
      ·rename_i hcl
       cases hsp : spansOf s d.place l with
       | none => rw [hsp] at h; cases h
       | some r =>
        rw [hsp] at h
        simp only at h
        split at h
        ·cases h
        ·split at h
         ·cases h
         ·cases h
          obtain ⟨c1, c2⟩ := spansOf_ok s _ _ _ hsp
          have b3 := (entsGo_ok s _ _ _ _ _ he).2.2
          refine ⟨fun x hx => ?_, by rw [c1]; simpa using hcl⟩
          rcases b3 x.ent (c2 x hx).1 with h0 | h0
          ·cases h0
          ·exact h0
end Go.Proofs.YtmhlkdlcpicekaaGreatDoor
namespace Go.Proofs.YtmhlkdlcpicekaaGreatDoor
open Go.RowKit
theorem faultOf_size (e : Ent) (h : faultOf e = 0) : (folderB e.name = true → e.size = 0) ∧ (e.method = 0 → e.size = e.packed) := by
 unfold faultOf at h
 split at h
 ·cases h
 ·split at h
  ·cases h
  ·split at h
   ·cases h
   ·split at h
    ·cases h
    ·rename_i hn
     simp only [Bool.or_eq_true, Bool.and_eq_true, decide_eq_true_eq, not_or, not_and] at hn
     obtain ⟨h1, h2⟩ := hn
     refine ⟨fun hf => ?_, fun hm => ?_⟩
     ·have := h1 hf
      omega
     ·have := h2 hm
      omega
theorem dataOfE_ok (s : ByteArray) (x : Spanned) (d : List UInt8) (hf : FileOk s x) (h0 : faultOf x.ent = 0) (h : dataOfE s x = .inr d) : d.length = x.ent.size ∧ sumOf ⟨d.toArray⟩ = x.ent.sum := by
 unfold dataOfE at h
 cases hg : givenOf (s.extract x.place (x.place + x.ent.packed)) x.ent with
 | inl k => rw [hg] at h; cases h
 | inr l =>
  rw [hg] at h
  simp only at h
  split at h
  ·rename_i hs
   cases h
   refine ⟨?_, hs⟩
   unfold givenOf at hg
   split at hg
   ·rename_i hm
    cases hg
    have e := (faultOf_size _ h0).2 hm
    have e2 : (s.extract x.place (x.place + x.ent.packed)).data.toList.length = (s.extract x.place (x.place + x.ent.packed)).size := Array.length_toList
    rw [e2, ByteArray.size_extract]
    have := hf.inside
    omega
   ·unfold wholeOf at hg
    split at hg
    ·cases hg
    ·split at hg
     ·cases hg
     ·rename_i hne
      split at hg
      ·cases hg
      ·cases hg
       exact Classical.byContradiction hne
  ·cases h
end Go.Proofs.YtmhlkdlcpicekaaGreatDoor
namespace Go.Proofs.YtmhlkdlcpicekaaGreatDoor
open Go.RowKit
theorem listOf_err (s : ByteArray) (qe qn qb : Int) (k : Nat) (h : listOf s qe qn qb = .error k) : 0 < k := by
 unfold listOf at h
 cases hd : dirOf s with
 | error x => rw [hd] at h; simp only [Except.error.injEq] at h; subst h; exact dirOf_err s _ hd
 | ok d =>
  rw [hd] at h
  simp only at h
  split at h
  ·simp only [Except.error.injEq] at h; omega
  ·split at h
   ·simp only [Except.error.injEq] at h; omega
   ·cases he : entsGo s d.stop d.count d.place [] with
    | error x => rw [he] at h; simp only [Except.error.injEq] at h; subst h; exact entsGo_err s _ _ _ _ _ he
    | ok l =>
     rw [he] at h
     simp only at h
     split at h
     ·simp only [Except.error.injEq] at h; omega
     ·split at h
      ·simp only [Except.error.injEq] at h; omega
      ·cases hsp : spansOf s d.place l with
       | none => rw [hsp] at h; simp only [Except.error.injEq] at h; omega
       | some r =>
        rw [hsp] at h
        simp only at h
        split at h
        ·simp only [Except.error.injEq] at h; omega
        ·split at h
         ·simp only [Except.error.injEq] at h; omega
         ·cases h
end Go.Proofs.YtmhlkdlcpicekaaGreatDoor
namespace Go.Proofs.YtmhlkdlcpicekaaGreatDoor
open Go.RowKit Go.Shelf Go.Lib
def cur3 (z k a : Nat) (j : Nat) : Nat := if j = 0 then z else if j = 1 then k else a
theorem takeListed_good (w : World) (rb : Nat) (s : ByteArray) (E p0 : Nat) (p : Option Nat) (hp : p = some p0) (hr : FR w rb s E p) (hs : s.size ≤ 140737488355328) (hfit : FitP s E p0) :
  Calls Tryz.prog 88 #[.pointer (some ⟨rb, 0, none⟩)] w fun r w' => Touch (fun k => k = rb) w w' ∧ listedPost s E rb p0 r w' := by
 have hE := hr.size
 have hrl := World.block_lt_of_cell? w _ hr.rest
 have hne : ¬ w.heap.size + 1 = rb := fun e => by have : rb < w.heap.size := hrl; omega
 have hne0 : ¬ w.heap.size = rb := fun e => by have : rb < w.heap.size := hrl; omega
 have HB : Hid (p = some p0 ∧ FitP s E p0) := ⟨hp, hfit⟩
 have A0 := LB.new w
 have A1 := A0.keep ((Touch.refl (fun _ => False) _).alloc (Obj.cells #[.string ⟨#[]⟩, .int .i64 0, .int .u32 0, .int .i64 0, .int .i64 0, .int .i64 0, .int .i64 0, .int .i64 0, .int .i64 0, .int .i64 0, .string ⟨#[]⟩, .int .i64 0, .int .i64 0] 179)) (fun e => e)
 have B0 := LB.new (w.alloc (Obj.cells #[.string ⟨#[]⟩, .int .i64 0, .int .u32 0, .int .i64 0, .int .i64 0, .int .i64 0, .int .i64 0, .int .i64 0, .int .i64 0, .int .i64 0, .string ⟨#[]⟩, .int .i64 0, .int .i64 0] 179))
 rw [World.size_alloc] at B0
 have U0 : Touch (fun k => k = rb ∨ k = w.heap.size + 1) ((w.alloc (Obj.cells #[.string ⟨#[]⟩, .int .i64 0, .int .u32 0, .int .i64 0, .int .i64 0, .int .i64 0, .int .i64 0, .int .i64 0, .int .i64 0, .int .i64 0, .string ⟨#[]⟩, .int .i64 0, .int .i64 0] 179)).alloc (Obj.cells #[.string ⟨#[]⟩, .int .i64 0, .int .u32 0, .int .i64 0, .int .i64 0, .int .i64 0, .int .i64 0, .int .i64 0, .int .i64 0, .int .i64 0, .string ⟨#[]⟩, .int .i64 0, .int .i64 0] 179)) ((w.alloc (Obj.cells #[.string ⟨#[]⟩, .int .i64 0, .int .u32 0, .int .i64 0, .int .i64 0, .int .i64 0, .int .i64 0, .int .i64 0, .int .i64 0, .int .i64 0, .string ⟨#[]⟩, .int .i64 0, .int .i64 0] 179)).alloc (Obj.cells #[.string ⟨#[]⟩, .int .i64 0, .int .u32 0, .int .i64 0, .int .i64 0, .int .i64 0, .int .i64 0, .int .i64 0, .int .i64 0, .int .i64 0, .string ⟨#[]⟩, .int .i64 0, .int .i64 0] 179)) := Touch.refl _ _
 have HA : Hid (LB ((w.alloc (Obj.cells #[.string ⟨#[]⟩, .int .i64 0, .int .u32 0, .int .i64 0, .int .i64 0, .int .i64 0, .int .i64 0, .int .i64 0, .int .i64 0, .int .i64 0, .string ⟨#[]⟩, .int .i64 0, .int .i64 0] 179)).alloc (Obj.cells #[.string ⟨#[]⟩, .int .i64 0, .int .u32 0, .int .i64 0, .int .i64 0, .int .i64 0, .int .i64 0, .int .i64 0, .int .i64 0, .int .i64 0, .string ⟨#[]⟩, .int .i64 0, .int .i64 0] 179)) w.heap.size ent0) := A1
 have T0 : Touch (fun k => k = rb) w ((w.alloc (Obj.cells #[.string ⟨#[]⟩, .int .i64 0, .int .u32 0, .int .i64 0, .int .i64 0, .int .i64 0, .int .i64 0, .int .i64 0, .int .i64 0, .int .i64 0, .string ⟨#[]⟩, .int .i64 0, .int .i64 0] 179)).alloc (Obj.cells #[.string ⟨#[]⟩, .int .i64 0, .int .u32 0, .int .i64 0, .int .i64 0, .int .i64 0, .int .i64 0, .int .i64 0, .int .i64 0, .int .i64 0, .string ⟨#[]⟩, .int .i64 0, .int .i64 0] 179)) := ((Touch.refl _ w).alloc _).alloc _
 have f0 := (hr.keep ((Touch.refl (fun _ => False) w).alloc (Obj.cells #[.string ⟨#[]⟩, .int .i64 0, .int .u32 0, .int .i64 0, .int .i64 0, .int .i64 0, .int .i64 0, .int .i64 0, .int .i64 0, .int .i64 0, .string ⟨#[]⟩, .int .i64 0, .int .i64 0] 179)) (fun e => e)).keep ((Touch.refl (fun _ => False) _).alloc (Obj.cells #[.string ⟨#[]⟩, .int .i64 0, .int .u32 0, .int .i64 0, .int .i64 0, .int .i64 0, .int .i64 0, .int .i64 0, .int .i64 0, .int .i64 0, .string ⟨#[]⟩, .int .i64 0, .int .i64 0] 179)) (fun e => e)
 clear A0 A1
 have n1 := fldNum_lt s E (fldTo E p 28) 2 hE
 have n2 := fldNum_lt s E (fldTo E p 30) 2 hE
 have n3 := fldNum_lt s E (fldTo E p 32) 2 hE
 have hlb : w.heap.size ≤ w.heap.size + 1 := by omega
 clear hfit hp hr
 go_enter Tryz.func88, Tryz.ntmps88
 go_wp2_with fail
 refine (take_c _ _ s E _ 4 4 rfl (by omega) hs f0).mono ?_
 rintro r w1 ⟨rfl, f1, t1⟩
 have T1 := T0.trans t1
 have B1 := B0.keep t1 hne
 have U1 := U0.trans (t1.mono (fun k _ e => Or.inl e))
 clear t1 T0 f0 B0 U0
 go_wp2_with fail
 refine (fnumber_c _ _ s E _ 2 2 rfl (by omega) hs f1).mono ?_
 rintro r w2 ⟨rfl, f2, t2⟩
 rw [fldTo_add] at f2
 have T2 := T1.trans t2
 have B2 := B1.keep t2 hne
 have U2 := U1.trans (t2.mono (fun k _ e => Or.inl e))
 clear t2 T1 f1 B1 U1
 have c2_6 : w2.cell? ⟨w.heap.size + 1, 6, none⟩ = some (.int .i64 ((0 : Nat) : Int)) := B2.lst 6 (by omega)
 have z2_6 := B2.frozen 6
 have B2s := (B2.set 6 (.int .i64 (fldNum s E (fldTo E p 4) 2 : Nat)) { ent0 with maker := fldNum s E (fldTo E p 4) 2 } (by omega) rfl)
 have f2s := (f2.other (o := 6) (.int .i64 (fldNum s E (fldTo E p 4) 2 : Nat)) (fun e => hne e.symm))
 have T2s := (T2.setNew (p := ⟨w.heap.size + 1, 6, none⟩) hlb (.int .i64 (fldNum s E (fldTo E p 4) 2 : Nat)))
 have U2s := (U2.setCell (p := ⟨w.heap.size + 1, 6, none⟩) (Or.inr rfl) (.int .i64 (fldNum s E (fldTo E p 4) 2 : Nat)))
 clear B2 f2 T2 U2
 have B2 := B2s
 have f2 := f2s
 have T2 := T2s
 have U2 := U2s
 clear B2s f2s T2s U2s
 go_wp2_with fail
 refine (take_c _ _ s E _ 2 2 rfl (by omega) hs f2).mono ?_
 rintro r w3 ⟨rfl, f3, t3⟩
 rw [fldTo_add] at f3
 have T3 := T2.trans t3
 have B3 := B2.keep t3 hne
 have U3 := U2.trans (t3.mono (fun k _ e => Or.inl e))
 clear t3 T2 f2 B2 U2
 clear c2_6 z2_6
 go_wp2_with fail
 refine (fnumber_c _ _ s E _ 2 2 rfl (by omega) hs f3).mono ?_
 rintro r w4 ⟨rfl, f4, t4⟩
 rw [fldTo_add] at f4
 have T4 := T3.trans t4
 have B4 := B3.keep t4 hne
 have U4 := U3.trans (t4.mono (fun k _ e => Or.inl e))
 clear t4 T3 f3 B3 U3
 go_wp2_with fail
 refine (fnumber_c _ _ s E _ 2 2 rfl (by omega) hs f4).mono ?_
 rintro r w5 ⟨rfl, f5, t5⟩
 rw [fldTo_add] at f5
 have T5 := T4.trans t5
 have B5 := B4.keep t5 hne
 have U5 := U4.trans (t5.mono (fun k _ e => Or.inl e))
 clear t5 T4 f4 B4 U4
 have c5_7 : w5.cell? ⟨w.heap.size + 1, 7, none⟩ = some (.int .i64 ((0 : Nat) : Int)) := B5.lst 7 (by omega)
 have z5_7 := B5.frozen 7
 have c5_1 : w5.cell? ⟨w.heap.size + 1, 1, none⟩ = some (.int .i64 ((0 : Nat) : Int)) := B5.lst 1 (by omega)
 have z5_1 := B5.frozen 1
 have B5s := ((B5.set 7 (.int .i64 (fldNum s E (fldTo E p 8) 2 : Nat)) { { ent0 with maker := fldNum s E (fldTo E p 4) 2 } with flags := fldNum s E (fldTo E p 8) 2 } (by omega) rfl).set 1 (.int .i64 (fldNum s E (fldTo E p 10) 2 : Nat)) { { { ent0 with maker := fldNum s E (fldTo E p 4) 2 } with flags := fldNum s E (fldTo E p 8) 2 } with method := fldNum s E (fldTo E p 10) 2 } (by omega) rfl)
 have f5s := ((f5.other (o := 7) (.int .i64 (fldNum s E (fldTo E p 8) 2 : Nat)) (fun e => hne e.symm)).other (o := 1) (.int .i64 (fldNum s E (fldTo E p 10) 2 : Nat)) (fun e => hne e.symm))
 have T5s := ((T5.setNew (p := ⟨w.heap.size + 1, 7, none⟩) hlb (.int .i64 (fldNum s E (fldTo E p 8) 2 : Nat))).setNew (p := ⟨w.heap.size + 1, 1, none⟩) hlb (.int .i64 (fldNum s E (fldTo E p 10) 2 : Nat)))
 have U5s := ((U5.setCell (p := ⟨w.heap.size + 1, 7, none⟩) (Or.inr rfl) (.int .i64 (fldNum s E (fldTo E p 8) 2 : Nat))).setCell (p := ⟨w.heap.size + 1, 1, none⟩) (Or.inr rfl) (.int .i64 (fldNum s E (fldTo E p 10) 2 : Nat)))
 clear B5 f5 T5 U5
 have B5 := B5s
 have f5 := f5s
 have T5 := T5s
 have U5 := U5s
 clear B5s f5s T5s U5s
 go_wp2_with fail
 refine (take_c _ _ s E _ 4 4 rfl (by omega) hs f5).mono ?_
 rintro r w6 ⟨rfl, f6, t6⟩
 rw [fldTo_add] at f6
 have T6 := T5.trans t6
 have B6 := B5.keep t6 hne
 have U6 := U5.trans (t6.mono (fun k _ e => Or.inl e))
 clear t6 T5 f5 B5 U5
 clear c5_7 z5_7
 clear c5_1 z5_1
 go_wp2_with fail
 refine (take_c _ _ s E _ 12 12 rfl (by omega) hs f6).mono ?_
 rintro r w7 ⟨rfl, f7, t7⟩
 rw [fldTo_add] at f7
 have T7 := T6.trans t7
 have B7 := B6.keep t7 hne
 have U7 := U6.trans (t7.mono (fun k _ e => Or.inl e))
 clear t7 T6 f6 B6 U6
 have c7_10 : w7.cell? ⟨w.heap.size + 1, 10, none⟩ = some (.string ⟨#[]⟩) := B7.lst 10 (by omega)
 have z7_10 := B7.frozen 10
 have B7s := (B7.set 10 (.string (fldOf s E (fldTo E p 16) 12)) { { { { ent0 with maker := fldNum s E (fldTo E p 4) 2 } with flags := fldNum s E (fldTo E p 8) 2 } with method := fldNum s E (fldTo E p 10) 2 } with three := fldOf s E (fldTo E p 16) 12 } (by omega) rfl)
 have f7s := (f7.other (o := 10) (.string (fldOf s E (fldTo E p 16) 12)) (fun e => hne e.symm))
 have T7s := (T7.setNew (p := ⟨w.heap.size + 1, 10, none⟩) hlb (.string (fldOf s E (fldTo E p 16) 12)))
 have U7s := (U7.setCell (p := ⟨w.heap.size + 1, 10, none⟩) (Or.inr rfl) (.string (fldOf s E (fldTo E p 16) 12)))
 clear B7 f7 T7 U7
 have B7 := B7s
 have f7 := f7s
 have T7 := T7s
 have U7 := U7s
 clear B7s f7s T7s U7s
 go_wp2_with fail
 refine (fnumber_c _ _ s E _ 2 2 rfl (by omega) hs f7).mono ?_
 rintro r w8 ⟨rfl, f8, t8⟩
 rw [fldTo_add] at f8
 have T8 := T7.trans t8
 have B8 := B7.keep t8 hne
 have U8 := U7.trans (t8.mono (fun k _ e => Or.inl e))
 clear t8 T7 f7 B7 U7
 clear c7_10 z7_10
 go_wp2_with fail
 refine (fnumber_c _ _ s E _ 2 2 rfl (by omega) hs f8).mono ?_
 rintro r w9 ⟨rfl, f9, t9⟩
 rw [fldTo_add] at f9
 have T9 := T8.trans t9
 have B9 := B8.keep t9 hne
 have U9 := U8.trans (t9.mono (fun k _ e => Or.inl e))
 clear t9 T8 f8 B8 U8
 go_wp2_with fail
 refine (fnumber_c _ _ s E _ 2 2 rfl (by omega) hs f9).mono ?_
 rintro r w10 ⟨rfl, f10, t10⟩
 rw [fldTo_add] at f10
 have T10 := T9.trans t10
 have B10 := B9.keep t10 hne
 have U10 := U9.trans (t10.mono (fun k _ e => Or.inl e))
 clear t10 T9 f9 B9 U9
 go_wp2_with fail
 refine (fnumber_c _ _ s E _ 2 2 rfl (by omega) hs f10).mono ?_
 rintro r w11 ⟨rfl, f11, t11⟩
 rw [fldTo_add] at f11
 have T11 := T10.trans t11
 have B11 := B10.keep t11 hne
 have U11 := U10.trans (t11.mono (fun k _ e => Or.inl e))
 clear t11 T10 f10 B10 U10
 have c11_8 : w11.cell? ⟨w.heap.size + 1, 8, none⟩ = some (.int .i64 ((0 : Nat) : Int)) := B11.lst 8 (by omega)
 have z11_8 := B11.frozen 8
 have B11s := (B11.set 8 (.int .i64 (fldNum s E (fldTo E p 34) 2 : Nat)) { { { { { ent0 with maker := fldNum s E (fldTo E p 4) 2 } with flags := fldNum s E (fldTo E p 8) 2 } with method := fldNum s E (fldTo E p 10) 2 } with three := fldOf s E (fldTo E p 16) 12 } with disk := fldNum s E (fldTo E p 34) 2 } (by omega) rfl)
 have f11s := (f11.other (o := 8) (.int .i64 (fldNum s E (fldTo E p 34) 2 : Nat)) (fun e => hne e.symm))
 have T11s := (T11.setNew (p := ⟨w.heap.size + 1, 8, none⟩) hlb (.int .i64 (fldNum s E (fldTo E p 34) 2 : Nat)))
 have U11s := (U11.setCell (p := ⟨w.heap.size + 1, 8, none⟩) (Or.inr rfl) (.int .i64 (fldNum s E (fldTo E p 34) 2 : Nat)))
 clear B11 f11 T11 U11
 have B11 := B11s
 have f11 := f11s
 have T11 := T11s
 have U11 := U11s
 clear B11s f11s T11s U11s
 go_wp2_with fail
 refine (take_c _ _ s E _ 2 2 rfl (by omega) hs f11).mono ?_
 rintro r w12 ⟨rfl, f12, t12⟩
 rw [fldTo_add] at f12
 have T12 := T11.trans t12
 have B12 := B11.keep t12 hne
 have U12 := U11.trans (t12.mono (fun k _ e => Or.inl e))
 clear t12 T11 f11 B11 U11
 clear c11_8 z11_8
 go_wp2_with fail
 refine (fnumber_c _ _ s E _ 4 4 rfl (by omega) hs f12).mono ?_
 rintro r w13 ⟨rfl, f13, t13⟩
 rw [fldTo_add] at f13
 have T13 := T12.trans t13
 have B13 := B12.keep t13 hne
 have U13 := U12.trans (t13.mono (fun k _ e => Or.inl e))
 clear t13 T12 f12 B12 U12
 go_wp2_with fail
 refine (fnumber_c _ _ s E _ 4 4 rfl (by omega) hs f13).mono ?_
 rintro r w14 ⟨rfl, f14, t14⟩
 rw [fldTo_add] at f14
 have T14 := T13.trans t14
 have B14 := B13.keep t14 hne
 have U14 := U13.trans (t14.mono (fun k _ e => Or.inl e))
 clear t14 T13 f13 B13 U13
 have c14_9 : w14.cell? ⟨w.heap.size + 1, 9, none⟩ = some (.int .i64 ((0 : Nat) : Int)) := B14.lst 9 (by omega)
 have z14_9 := B14.frozen 9
 have c14_11 : w14.cell? ⟨w.heap.size + 1, 11, none⟩ = some (.int .i64 ((0 : Nat) : Int)) := B14.lst 11 (by omega)
 have z14_11 := B14.frozen 11
 have B14s := ((B14.set 9 (.int .i64 (fldNum s E (fldTo E p 38) 4 : Nat)) { { { { { { ent0 with maker := fldNum s E (fldTo E p 4) 2 } with flags := fldNum s E (fldTo E p 8) 2 } with method := fldNum s E (fldTo E p 10) 2 } with three := fldOf s E (fldTo E p 16) 12 } with disk := fldNum s E (fldTo E p 34) 2 } with outer := fldNum s E (fldTo E p 38) 4 } (by omega) rfl).set 11 (.int .i64 (fldNum s E (fldTo E p 42) 4 : Nat)) { { { { { { { ent0 with maker := fldNum s E (fldTo E p 4) 2 } with flags := fldNum s E (fldTo E p 8) 2 } with method := fldNum s E (fldTo E p 10) 2 } with three := fldOf s E (fldTo E p 16) 12 } with disk := fldNum s E (fldTo E p 34) 2 } with outer := fldNum s E (fldTo E p 38) 4 } with ahead := fldNum s E (fldTo E p 42) 4 } (by omega) rfl)
 have f14s := ((f14.other (o := 9) (.int .i64 (fldNum s E (fldTo E p 38) 4 : Nat)) (fun e => hne e.symm)).other (o := 11) (.int .i64 (fldNum s E (fldTo E p 42) 4 : Nat)) (fun e => hne e.symm))
 have T14s := ((T14.setNew (p := ⟨w.heap.size + 1, 9, none⟩) hlb (.int .i64 (fldNum s E (fldTo E p 38) 4 : Nat))).setNew (p := ⟨w.heap.size + 1, 11, none⟩) hlb (.int .i64 (fldNum s E (fldTo E p 42) 4 : Nat)))
 have U14s := ((U14.setCell (p := ⟨w.heap.size + 1, 9, none⟩) (Or.inr rfl) (.int .i64 (fldNum s E (fldTo E p 38) 4 : Nat))).setCell (p := ⟨w.heap.size + 1, 11, none⟩) (Or.inr rfl) (.int .i64 (fldNum s E (fldTo E p 42) 4 : Nat)))
 clear B14 f14 T14 U14
 have B14 := B14s
 have f14 := f14s
 have T14 := T14s
 have U14 := U14s
 clear B14s f14s T14s U14s
 go_wp2_with fail
 refine (take_c _ _ s E _ _ _ rfl (by omega) hs f14).mono ?_
 rintro r w15 ⟨rfl, f15, t15⟩
 rw [fldTo_add] at f15
 have T15 := T14.trans t15
 have B15 := B14.keep t15 hne
 have U15 := U14.trans (t15.mono (fun k _ e => Or.inl e))
 clear t15 T14 f14 B14 U14
 clear c14_9 z14_9
 clear c14_11 z14_11
 have c15_0 : w15.cell? ⟨w.heap.size + 1, 0, none⟩ = some (.string ⟨#[]⟩) := B15.lst 0 (by omega)
 have z15_0 := B15.frozen 0
 have B15s := (B15.set 0 (.string (fldOf s E (fldTo E p 46) (fldNum s E (fldTo E p 28) 2))) { { { { { { { { ent0 with maker := fldNum s E (fldTo E p 4) 2 } with flags := fldNum s E (fldTo E p 8) 2 } with method := fldNum s E (fldTo E p 10) 2 } with three := fldOf s E (fldTo E p 16) 12 } with disk := fldNum s E (fldTo E p 34) 2 } with outer := fldNum s E (fldTo E p 38) 4 } with ahead := fldNum s E (fldTo E p 42) 4 } with name := fldOf s E (fldTo E p 46) (fldNum s E (fldTo E p 28) 2) } (by omega) rfl)
 have f15s := (f15.other (o := 0) (.string (fldOf s E (fldTo E p 46) (fldNum s E (fldTo E p 28) 2))) (fun e => hne e.symm))
 have T15s := (T15.setNew (p := ⟨w.heap.size + 1, 0, none⟩) hlb (.string (fldOf s E (fldTo E p 46) (fldNum s E (fldTo E p 28) 2))))
 have U15s := (U15.setCell (p := ⟨w.heap.size + 1, 0, none⟩) (Or.inr rfl) (.string (fldOf s E (fldTo E p 46) (fldNum s E (fldTo E p 28) 2))))
 clear B15 f15 T15 U15
 have B15 := B15s
 have f15 := f15s
 have T15 := T15s
 have U15 := U15s
 clear B15s f15s T15s U15s
 go_wp2_with fail
 refine (take_c _ _ s E _ _ _ rfl (by omega) hs f15).mono ?_
 rintro r w16 ⟨rfl, f16, t16⟩
 rw [fldTo_add] at f16
 have T16 := T15.trans t16
 have B16 := B15.keep t16 hne
 have U16 := U15.trans (t16.mono (fun k _ e => Or.inl e))
 clear t16 T15 f15 B15 U15
 clear c15_0 z15_0
 go_wp2_with fail
 refine (take_c _ _ s E _ _ _ rfl (by omega) hs f16).mono ?_
 rintro r w17 ⟨rfl, f17, t17⟩
 rw [fldTo_add] at f17
 have T17 := T16.trans t17
 have B17 := B16.keep t17 hne
 have U17 := U16.trans (t17.mono (fun k _ e => Or.inl e))
 clear t17 T16 f16 B16 U16
 have A17 := HA.out.keep U17 (fun e => by rcases e with e | e <;> omega)
 clear HA U17
 obtain ⟨rfl, hfit⟩ := HB.out
 obtain ⟨e4, e8, e10, e16, e28, e30, e32, e34, e38, e42, e46, e46x, eq, emark⟩ := fields_fit s E p0 hE hfit
 simp only [e28, e30, e32, e4, e8, e10, e16, e34, e38, e42, e46, e46x, eq] at B17 f17 ⊢
 have HB2 : Hid (FitP s E p0) := hfit
 obtain ⟨k1, k2, k3⟩ := hfit
 have hmk : ((fldOf s E (some p0) 4).toList == [80, 75, 1, 2]) = true := by simpa using emark
 have r1 := f17.short
 simp only [Option.isNone_some] at r1
 have c10 : w17.cell? ⟨w.heap.size + 1, 10, none⟩ = some (.string (s.extract (p0 + 16) (p0 + 28))) := B17.lst 10 (by omega)
 have g0 := FR.newE w17 s (p0 + 16) (p0 + 28) (by omega) (by omega) _ rfl
 have tn := (Touch.refl (fun _ => False) w17).alloc (.cells #[.string (s.extract (p0 + 16) (p0 + 28)), .bool false] 175)
 have x17 := B17.lt
 have neB : ¬ w.heap.size + 1 = w17.heap.size := by omega
 have neA : ¬ w.heap.size = w17.heap.size := by omega
 have neR : ¬ rb = w17.heap.size := by have : rb < w.heap.size := hrl; omega
 have hz17 : w.heap.size ≤ w17.heap.size := by omega
 clear HB e4 e8 e10 e16 e28 e30 e32 e34 e38 e42 e46 e46x eq emark n1 n2 n3 k3
 go_wp2_with fail
 refine (fnum_some _ _ s (p0 + 28) (p0 + 16) 4 g0 (by omega) (by omega) hs).mono ?_
 rintro r w18 ⟨rfl, g1, t18⟩
 have B18 := (B17.keep tn (fun e => e)).keep t18 neB
 have A18 := (A17.keep tn (fun e => e)).keep t18 neA
 have f18 := (f17.keep tn (fun e => e)).keep t18 neR
 have T18 := (T17.alloc _).onNew t18 hz17
 clear t18 B17 A17 f17 T17 tn g0 c10 r1 hmk
 go_wp2_with fail
 refine (fnum_some _ _ s (p0 + 28) (p0 + 16 + 4) 4 g1 (by omega) (by omega) hs).mono ?_
 rintro r w19 ⟨rfl, g2, t19⟩
 have B19 := B18.keep t19 neB
 have A19 := A18.keep t19 neA
 have f19 := f18.keep t19 neR
 have T19 := T18.onNew t19 hz17
 clear t19 B18 A18 f18 T18 g1
 go_wp2_with fail
 refine (fnum_some _ _ s (p0 + 28) (p0 + 16 + 4 + 4) 4 g2 (by omega) (by omega) hs).mono ?_
 rintro r w20 ⟨rfl, g3, t20⟩
 have B20 := B19.keep t20 neB
 have A20 := A19.keep t20 neA
 have f20 := f19.keep t20 neR
 have T20 := T19.onNew t20 hz17
 clear t20 B19 A19 f19 T19 g2 g3 neB neA neR
 have s16 := numIn_le s (p0 + 16) 4
 have e20 : numIn s (p0 + 16 + 4) 4 = numIn s (p0 + 20) 4 := rfl
 have e24 : numIn s (p0 + 16 + 4 + 4) 4 = numIn s (p0 + 24) 4 := rfl
 rw [e20, e24]
 have u1 : IntKind.u32.wrap ((numIn s (p0 + 16) 4 : Nat) : Int) = ((numIn s (p0 + 16) 4 : Nat) : Int) := by simp [IntKind.wrap, IntKind.bits, IntKind.signed]; omega
 have u2 : ((numIn s (p0 + 16) 4 : Nat) : Int) % 4294967296 = ((numIn s (p0 + 16) 4 : Nat) : Int) := by omega
 have c2 : w20.cell? ⟨w.heap.size + 1, 2, none⟩ = some (.int .u32 ((0 : Nat) : Int)) := B20.lst 2 (by omega)
 have c3 : w20.cell? ⟨w.heap.size + 1, 3, none⟩ = some (.int .i64 ((0 : Nat) : Int)) := B20.lst 3 (by omega)
 have c4 : w20.cell? ⟨w.heap.size + 1, 4, none⟩ = some (.int .i64 ((0 : Nat) : Int)) := B20.lst 4 (by omega)
 have z2 := B20.frozen 2
 have z3 := B20.frozen 3
 have z4 := B20.frozen 4
 clear e20 e24
 have B21a : LB w20 (w.heap.size + 1) ⟨s.extract (p0 + 46) (p0 + 46 + numIn s (p0 + 28) 2), numIn s (p0 + 10) 2, 0, 0, 0, numIn s (p0 + 42) 4, numIn s (p0 + 4) 2, numIn s (p0 + 8) 2, numIn s (p0 + 34) 2, numIn s (p0 + 38) 4, s.extract (p0 + 16) (p0 + 28)⟩ := B20
 have B21 := ((B21a.set 2 (.int .u32 (numIn s (p0 + 16) 4 : Nat)) ⟨s.extract (p0 + 46) (p0 + 46 + numIn s (p0 + 28) 2), numIn s (p0 + 10) 2, numIn s (p0 + 16) 4, 0, 0, numIn s (p0 + 42) 4, numIn s (p0 + 4) 2, numIn s (p0 + 8) 2, numIn s (p0 + 34) 2, numIn s (p0 + 38) 4, s.extract (p0 + 16) (p0 + 28)⟩ (by omega) rfl).set 3 (.int .i64 (numIn s (p0 + 20) 4 : Nat)) ⟨s.extract (p0 + 46) (p0 + 46 + numIn s (p0 + 28) 2), numIn s (p0 + 10) 2, numIn s (p0 + 16) 4, numIn s (p0 + 20) 4, 0, numIn s (p0 + 42) 4, numIn s (p0 + 4) 2, numIn s (p0 + 8) 2, numIn s (p0 + 34) 2, numIn s (p0 + 38) 4, s.extract (p0 + 16) (p0 + 28)⟩ (by omega) rfl).set 4 (.int .i64 (numIn s (p0 + 24) 4 : Nat)) ⟨s.extract (p0 + 46) (p0 + 46 + numIn s (p0 + 28) 2), numIn s (p0 + 10) 2, numIn s (p0 + 16) 4, numIn s (p0 + 20) 4, numIn s (p0 + 24) 4, numIn s (p0 + 42) 4, numIn s (p0 + 4) 2, numIn s (p0 + 8) 2, numIn s (p0 + 34) 2, numIn s (p0 + 38) 4, s.extract (p0 + 16) (p0 + 28)⟩ (by omega) rfl
 have t3 : Touch (fun k => k = w.heap.size + 1) w20 (((w20.setCell ⟨w.heap.size + 1, 2, none⟩ (.int .u32 (numIn s (p0 + 16) 4 : Nat))).setCell ⟨w.heap.size + 1, 3, none⟩ (.int .i64 (numIn s (p0 + 20) 4 : Nat))).setCell ⟨w.heap.size + 1, 4, none⟩ (.int .i64 (numIn s (p0 + 24) 4 : Nat))) := ((touch_set w20 (w.heap.size + 1) 2 _).trans (touch_set _ (w.heap.size + 1) 3 _)).trans (touch_set _ (w.heap.size + 1) 4 _)
 have hsz3 : (((w20.setCell ⟨w.heap.size + 1, 2, none⟩ (.int .u32 (numIn s (p0 + 16) 4 : Nat))).setCell ⟨w.heap.size + 1, 3, none⟩ (.int .i64 (numIn s (p0 + 20) 4 : Nat))).setCell ⟨w.heap.size + 1, 4, none⟩ (.int .i64 (numIn s (p0 + 24) 4 : Nat))).heap.size = w20.heap.size := by simp [size_setCell]
 have x20 := B20.lt
 have neN : w20.heap.size ≠ w.heap.size + 1 := by omega
 have A21a := A20.keep t3 (by show ¬ w.heap.size = w.heap.size + 1; omega)
 have f21a := f20.keep t3 (by show ¬ rb = w.heap.size + 1; exact fun e => hne e.symm)
 have T21a := T20.onNew t3 hlb
 have bn := heap_alloc_new (((w20.setCell ⟨w.heap.size + 1, 2, none⟩ (.int .u32 (numIn s (p0 + 16) 4 : Nat))).setCell ⟨w.heap.size + 1, 3, none⟩ (.int .i64 (numIn s (p0 + 20) 4 : Nat))).setCell ⟨w.heap.size + 1, 4, none⟩ (.int .i64 (numIn s (p0 + 24) 4 : Nat))) (Obj.cells #[.pointer (some ⟨w.heap.size + 1, 4, none⟩), .pointer (some ⟨w.heap.size + 1, 3, none⟩), .pointer (some ⟨w.heap.size + 1, 11, none⟩)] 228)
 rw [hsz3] at bn
 have tr := (Touch.refl (fun _ => False) (((w20.setCell ⟨w.heap.size + 1, 2, none⟩ (.int .u32 (numIn s (p0 + 16) 4 : Nat))).setCell ⟨w.heap.size + 1, 3, none⟩ (.int .i64 (numIn s (p0 + 20) 4 : Nat))).setCell ⟨w.heap.size + 1, 4, none⟩ (.int .i64 (numIn s (p0 + 24) 4 : Nat)))).alloc (Obj.cells #[.pointer (some ⟨w.heap.size + 1, 4, none⟩), .pointer (some ⟨w.heap.size + 1, 3, none⟩), .pointer (some ⟨w.heap.size + 1, 11, none⟩)] 228)
 have B21r := B21.keep tr (fun e => e)
 have A21r := A21a.keep tr (fun e => e)
 have f21r := f21a.keep tr (fun e => e)
 have T21r := T21a.alloc (Obj.cells #[.pointer (some ⟨w.heap.size + 1, 4, none⟩), .pointer (some ⟨w.heap.size + 1, 3, none⟩), .pointer (some ⟨w.heap.size + 1, 11, none⟩)] 228)
 clear B20 B21a A20 f20 T20 t3 tr B21 A21a f21a T21a hsz3
 go_wp2_with fail
 have hN : Nums ((((w20.setCell ⟨w.heap.size + 1, 2, none⟩ (.int .u32 (numIn s (p0 + 16) 4 : Nat))).setCell ⟨w.heap.size + 1, 3, none⟩ (.int .i64 (numIn s (p0 + 20) 4 : Nat))).setCell ⟨w.heap.size + 1, 4, none⟩ (.int .i64 (numIn s (p0 + 24) 4 : Nat))).alloc (Obj.cells #[.pointer (some ⟨w.heap.size + 1, 4, none⟩), .pointer (some ⟨w.heap.size + 1, 3, none⟩), .pointer (some ⟨w.heap.size + 1, 11, none⟩)] 228)) (w.heap.size + 1) (cur3 (numIn s (p0 + 24) 4) (numIn s (p0 + 20) 4) (numIn s (p0 + 42) 4)) := by
  refine ⟨fun j hj => ?_, fun j => B21r.frozen j⟩
  rcases (by omega : j = 0 ∨ j = 1 ∨ j = 2) with rfl | rfl | rfl
  ·exact B21r.lst 4 (by omega)
  ·exact B21r.lst 3 (by omega)
  ·exact B21r.lst 11 (by omega)
 have hnb : ∀ j, j < 3 → ((((w20.setCell ⟨w.heap.size + 1, 2, none⟩ (.int .u32 (numIn s (p0 + 16) 4 : Nat))).setCell ⟨w.heap.size + 1, 3, none⟩ (.int .i64 (numIn s (p0 + 20) 4 : Nat))).setCell ⟨w.heap.size + 1, 4, none⟩ (.int .i64 (numIn s (p0 + 24) 4 : Nat))).alloc (Obj.cells #[.pointer (some ⟨w.heap.size + 1, 4, none⟩), .pointer (some ⟨w.heap.size + 1, 3, none⟩), .pointer (some ⟨w.heap.size + 1, 11, none⟩)] 228)).cell? ⟨w20.heap.size, j, none⟩ = some (.pointer (some ⟨w.heap.size + 1, offOf j, none⟩)) := by
  intro j hj
  rw [row_cell bn j]
  rcases (by omega : j = 0 ∨ j = 1 ∨ j = 2) with rfl | rfl | rfl <;> rfl
 refine (takeMeant_c _ s (p0 + 46 + numIn s (p0 + 28) 2) (p0 + 46 + numIn s (p0 + 28) 2 + numIn s (p0 + 30) 2) (numIn s (p0 + 30) 2 + 1) (w.heap.size + 1) w20.heap.size _ (by omega) (by omega) hs (by omega) hN hnb neN).mono ?_
 rintro r w21 ⟨rfl, ⟨d, hN', hR⟩, hoth, t21⟩
 have A21 := A21r.keep t21 (by show ¬ w.heap.size = w.heap.size + 1; omega)
 have f21 := f21r.keep t21 (by show ¬ rb = w.heap.size + 1; exact fun e => hne e.symm)
 have T21 := T21r.onNew t21 hlb
 have B22 : LB w21 (w.heap.size + 1) ⟨s.extract (p0 + 46) (p0 + 46 + numIn s (p0 + 28) 2), numIn s (p0 + 10) 2, numIn s (p0 + 16) 4, d 1, d 0, d 2, numIn s (p0 + 4) 2, numIn s (p0 + 8) 2, numIn s (p0 + 34) 2, numIn s (p0 + 38) 4, s.extract (p0 + 16) (p0 + 28)⟩ := by
  refine ⟨fun i hi => ?_, hN'.frozen, Nat.lt_of_lt_of_le B21r.lt t21.size⟩
  rw [Nat.zero_add]
  by_cases h4 : i = 4
  ·subst h4; exact hN'.cell 0 (by omega)
  ·by_cases h3 : i = 3
   ·subst h3; exact hN'.cell 1 (by omega)
   ·by_cases h11 : i = 11
    ·subst h11; exact hN'.cell 2 (by omega)
    ·rw [hoth i h4 h3 h11]
     have := B21r.lst i hi
     rw [Nat.zero_add] at this
     rw [this]
     rcases (by omega : i = 0 ∨ i = 1 ∨ i = 2 ∨ i = 5 ∨ i = 6 ∨ i = 7 ∨ i = 8 ∨ i = 9 ∨ i = 10 ∨ i = 12) with rfl | rfl | rfl | rfl | rfl | rfl | rfl | rfl | rfl | rfl <;> rfl
 have FIN : Hid (∀ w', FR w' rb s E (some (p0 + 46 + numIn s (p0 + 28) 2 + numIn s (p0 + 30) 2 + numIn s (p0 + 32) 2)) → listedPost s E rb p0 (.returned (.tuple #[.agg (listL ⟨s.extract (p0 + 46) (p0 + 46 + numIn s (p0 + 28) 2), numIn s (p0 + 10) 2, numIn s (p0 + 16) 4, d 1, d 0, d 2, numIn s (p0 + 4) 2, numIn s (p0 + 8) 2, numIn s (p0 + 34) 2, numIn s (p0 + 38) 4, s.extract (p0 + 16) (p0 + 28)⟩ 0 0).toArray, .bool ((wideGo s (p0 + 46 + numIn s (p0 + 28) 2 + numIn s (p0 + 30) 2) (numIn s (p0 + 30) 2 + 1) (p0 + 46 + numIn s (p0 + 28) 2) none).bind fun fo => mGo s (fo.getD (0, 0)).2 3 0 (fo.getD (0, 0)).1 (cur3 (numIn s (p0 + 24) 4) (numIn s (p0 + 20) 4) (numIn s (p0 + 42) 4))).isSome])) w') := by
  intro w' hf
  unfold listedPost
  rw [entAt_fit s E p0 HB2.out (cur3 (numIn s (p0 + 24) 4) (numIn s (p0 + 20) 4) (numIn s (p0 + 42) 4)) rfl rfl rfl]
  rcases hR with hR | hR
  ·rw [hR]; exact ⟨⟨s.extract (p0 + 46) (p0 + 46 + numIn s (p0 + 28) 2), numIn s (p0 + 10) 2, numIn s (p0 + 16) 4, d 1, d 0, d 2, numIn s (p0 + 4) 2, numIn s (p0 + 8) 2, numIn s (p0 + 34) 2, numIn s (p0 + 38) 4, s.extract (p0 + 16) (p0 + 28)⟩, 0, 0, rfl⟩
  ·rw [hR]; exact ⟨rfl, hf⟩
 clear hN hnb hR hoth t21 hN' A21r f21r T21r B21r bn HB2
 revert FIN B22
 generalize (⟨s.extract (p0 + 46) (p0 + 46 + numIn s (p0 + 28) 2), numIn s (p0 + 10) 2, numIn s (p0 + 16) 4, d 1, d 0, d 2, numIn s (p0 + 4) 2, numIn s (p0 + 8) 2, numIn s (p0 + 34) 2, numIn s (p0 + 38) 4, s.extract (p0 + 16) (p0 + 28)⟩ : Ent) = ef
 obtain ⟨nm, me, su, pa, si, ah, ma, fl, di, ou, th⟩ := ef
 generalize ((wideGo s (p0 + 46 + numIn s (p0 + 28) 2 + numIn s (p0 + 30) 2) (numIn s (p0 + 30) 2 + 1) (p0 + 46 + numIn s (p0 + 28) 2) none).bind fun fo => mGo s (fo.getD (0, 0)).2 3 0 (fo.getD (0, 0)).1 (cur3 (numIn s (p0 + 24) 4) (numIn s (p0 + 20) 4) (numIn s (p0 + 42) 4))).isSome = ok
 intro B22 FIN
 have c0 : w21.cell? ⟨w.heap.size + 1, 0, none⟩ = some (.string nm) := B22.lst 0 (by omega)
 have a0 : w21.cell? ⟨w.heap.size, 0, none⟩ = some (.string ⟨#[]⟩) := A21.lst 0 (by omega)
 have y0 := A21.frozen 0
 have c1 : w21.cell? ⟨w.heap.size + 1, 1, none⟩ = some (.int .i64 (me : Int)) := B22.lst 1 (by omega)
 have a1 : w21.cell? ⟨w.heap.size, 1, none⟩ = some (.int .i64 0) := A21.lst 1 (by omega)
 have y1 := A21.frozen 1
 have c2 : w21.cell? ⟨w.heap.size + 1, 2, none⟩ = some (.int .u32 (su : Int)) := B22.lst 2 (by omega)
 have a2 : w21.cell? ⟨w.heap.size, 2, none⟩ = some (.int .u32 0) := A21.lst 2 (by omega)
 have y2 := A21.frozen 2
 have c3 : w21.cell? ⟨w.heap.size + 1, 3, none⟩ = some (.int .i64 (pa : Int)) := B22.lst 3 (by omega)
 have a3 : w21.cell? ⟨w.heap.size, 3, none⟩ = some (.int .i64 0) := A21.lst 3 (by omega)
 have y3 := A21.frozen 3
 have c4 : w21.cell? ⟨w.heap.size + 1, 4, none⟩ = some (.int .i64 (si : Int)) := B22.lst 4 (by omega)
 have a4 : w21.cell? ⟨w.heap.size, 4, none⟩ = some (.int .i64 0) := A21.lst 4 (by omega)
 have y4 := A21.frozen 4
 have c5 : w21.cell? ⟨w.heap.size + 1, 5, none⟩ = some (.int .i64 ((0 : Nat) : Int)) := B22.lst 5 (by omega)
 have a5 : w21.cell? ⟨w.heap.size, 5, none⟩ = some (.int .i64 0) := A21.lst 5 (by omega)
 have y5 := A21.frozen 5
 have c6 : w21.cell? ⟨w.heap.size + 1, 6, none⟩ = some (.int .i64 (ma : Int)) := B22.lst 6 (by omega)
 have a6 : w21.cell? ⟨w.heap.size, 6, none⟩ = some (.int .i64 0) := A21.lst 6 (by omega)
 have y6 := A21.frozen 6
 have c7 : w21.cell? ⟨w.heap.size + 1, 7, none⟩ = some (.int .i64 (fl : Int)) := B22.lst 7 (by omega)
 have a7 : w21.cell? ⟨w.heap.size, 7, none⟩ = some (.int .i64 0) := A21.lst 7 (by omega)
 have y7 := A21.frozen 7
 have c8 : w21.cell? ⟨w.heap.size + 1, 8, none⟩ = some (.int .i64 (di : Int)) := B22.lst 8 (by omega)
 have a8 : w21.cell? ⟨w.heap.size, 8, none⟩ = some (.int .i64 0) := A21.lst 8 (by omega)
 have y8 := A21.frozen 8
 have c9 : w21.cell? ⟨w.heap.size + 1, 9, none⟩ = some (.int .i64 (ou : Int)) := B22.lst 9 (by omega)
 have a9 : w21.cell? ⟨w.heap.size, 9, none⟩ = some (.int .i64 0) := A21.lst 9 (by omega)
 have y9 := A21.frozen 9
 have c10 : w21.cell? ⟨w.heap.size + 1, 10, none⟩ = some (.string th) := B22.lst 10 (by omega)
 have a10 : w21.cell? ⟨w.heap.size, 10, none⟩ = some (.string ⟨#[]⟩) := A21.lst 10 (by omega)
 have y10 := A21.frozen 10
 have c11 : w21.cell? ⟨w.heap.size + 1, 11, none⟩ = some (.int .i64 (ah : Int)) := B22.lst 11 (by omega)
 have a11 : w21.cell? ⟨w.heap.size, 11, none⟩ = some (.int .i64 0) := A21.lst 11 (by omega)
 have y11 := A21.frozen 11
 have c12 : w21.cell? ⟨w.heap.size + 1, 12, none⟩ = some (.int .i64 ((0 : Nat) : Int)) := B22.lst 12 (by omega)
 have a12 : w21.cell? ⟨w.heap.size, 12, none⟩ = some (.int .i64 0) := A21.lst 12 (by omega)
 have y12 := A21.frozen 12
 clear B22 A21
 go_wp2
 refine bodyPost_ret (v := .tuple #[.agg #[.string nm, .int .i64 (me : Int), .int .u32 (su : Int), .int .i64 (pa : Int), .int .i64 (si : Int), .int .i64 0, .int .i64 (ma : Int), .int .i64 (fl : Int), .int .i64 (di : Int), .int .i64 (ou : Int), .string th, .int .i64 (ah : Int), .int .i64 0], .bool ok]) (by simp [results, Tryz.results88, go_sem, cell_set_if, a0, a1, a2, a3, a4, a5, a6, a7, a8, a9, a10, a11, a12]) rfl ⟨?_, FIN.out _ ?_⟩
 ·exact (((((((((((((T21.setNew (Nat.le_refl _) _).setNew (Nat.le_refl _) _).setNew (Nat.le_refl _) _).setNew (Nat.le_refl _) _).setNew (Nat.le_refl _) _).setNew (Nat.le_refl _) _).setNew (Nat.le_refl _) _).setNew (Nat.le_refl _) _).setNew (Nat.le_refl _) _).setNew (Nat.le_refl _) _).setNew (Nat.le_refl _) _).setNew (Nat.le_refl _) _).setNew (Nat.le_refl _) _)
 ·exact (((((((((((((f21.other _ (fun e => hne0 e.symm)).other _ (fun e => hne0 e.symm)).other _ (fun e => hne0 e.symm)).other _ (fun e => hne0 e.symm)).other _ (fun e => hne0 e.symm)).other _ (fun e => hne0 e.symm)).other _ (fun e => hne0 e.symm)).other _ (fun e => hne0 e.symm)).other _ (fun e => hne0 e.symm)).other _ (fun e => hne0 e.symm)).other _ (fun e => hne0 e.symm)).other _ (fun e => hne0 e.symm)).other _ (fun e => hne0 e.symm))
theorem takeListed_c (w : World) (rb : Nat) (s : ByteArray) (E p : Nat) (hr : FR w rb s E (some p)) (hs : s.size ≤ 140737488355328) :
  Calls Tryz.prog 88 #[.pointer (some ⟨rb, 0, none⟩)] w fun r w' => Touch (fun k => k = rb) w w' ∧ listedPost s E rb p r w' := by
 cases hf : fitB s E (some p) with
 | true => exact takeListed_good w rb s E p _ rfl hr hs ((fit_iff s E p hr.size).1 hf)
 | false =>
  refine (takeListed_bad w rb s E (some p) hr hs hf).mono ?_
  rintro r w' ⟨h1, rfl⟩
  exact ⟨h1, listed_bad s E rb p hr.size hf w'⟩
end Go.Proofs.YtmhlkdlcpicekaaGreatDoor
namespace Go.Proofs.YtmhlkdlcpicekaaGreatDoor
open Go.RowKit
theorem list_c (w : World) (s : ByteArray) (qe qn qb : Int) (hn : -9223372036854775808 ≤ qn ∧ qn ≤ 9223372036854775807) (hb : -9223372036854775808 ≤ qb ∧ qb ≤ 9223372036854775807) (hs : s.size ≤ 2147483648) :
  Calls Tryz.prog 20 #[.string s, .agg #[.int .i64 qe, .int .i64 qn, .int .i64 qb]] w fun r w' => Touch (fun _ => False) w w' ∧ listPost w.heap.size (listOf s qe qn qb) r w' := by
 refine list_of w s qe qn qb hn hb hs (fun d hd h1 h2 W => ?_)
 obtain ⟨d1, d2, d3, d4⟩ := dirOf_ok s d hd
 exact takeAll_of W s d h1 d1 d2 hs (fun W rb p hF => takeListed_c W rb s d.stop p hF (by omega))
theorem unpack_c (w : World) (s : ByteArray) (qe qn qb : Int) (hn : -9223372036854775808 ≤ qn ∧ qn ≤ 9223372036854775807) (hb : -9223372036854775808 ≤ qb ∧ qb ≤ 9223372036854775807) (hs : s.size ≤ 2147483648) (ho : Ord w) (h0 : 1 < w.heap.size) :
  Calls Tryz.prog 11 #[.string s, .agg #[.int .i64 qe, .int .i64 qn, .int .i64 qb]] w fun r w' => Touch (fun _ => False) w w' ∧ unpackPost w.heap.size s (listOf s qe qn qb) r w' :=
 unpack_of w s qe qn qb _ (fun W _ => list_c W s qe qn qb hn hb hs) (fun L h => listOf_ok s qe qn qb L h hs) hs ho h0
end Go.Proofs.YtmhlkdlcpicekaaGreatDoor
