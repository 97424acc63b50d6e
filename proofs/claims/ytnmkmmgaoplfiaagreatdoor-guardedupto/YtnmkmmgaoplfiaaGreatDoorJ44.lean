/- Texts of this seat, joined. -/
import Derived.Test.YtnmkmmgaoplfiaaGreatDoorJ42
import Derived.Test.YtnmkmmgaoplfiaaGreatDoorJ43
import Derived.BigQuiet
set_option linter.unusedSimpArgs false
set_option linter.unusedVariables false
set_option maxRecDepth 100000
set_option maxHeartbeats 20000000
namespace Go.Proofs.YtnmkmmgaoplfiaaGreatDoor
open Go.RowKit
theorem listOf_each (s : ByteArray) (qe qn qb : Int) (L : List Spanned) (h : listOf s qe qn qb = .ok L) : (∀ x ∈ L, EntOk x.ent ∧ faultOf x.ent = 0) ∧ anyPair (fun a b => clashB a.name b.name) (L.map (·.ent)) = false := by
 unfold listOf at h
 cases hd : dirOf s with
 | error k => rw [hd] at h; cases h
 | ok d =>
  rw [hd] at h
  simp only at h
  split at h
  ·cases h
  ·split at h
   ·cases h
   ·cases he : entsGo s d.stop d.count d.place [] with
    | error k => rw [he] at h; cases h
    | ok l =>
     rw [he] at h
     simp only at h
     split at h
     ·cases h
     ·split at h
      ·cases h
      ·rename_i hcl
       cases hsp : spansOf s d.place l with
       | none => rw [hsp] at h; cases h
       | some r =>
        rw [hsp] at h
        simp only at h
        split at h
        ·cases h
        ·split at h
         ·cases h
         ·cases h
          obtain ⟨c1, c2⟩ := spansOf_ok s _ _ _ hsp
          have b3 := (entsGo_ok s _ _ _ _ _ he).2.2
          refine ⟨fun x hx => ?_, by rw [c1]; simpa using hcl⟩
          rcases b3 x.ent (c2 x hx).1 with h0 | h0
          ·cases h0
          ·exact h0
end Go.Proofs.YtnmkmmgaoplfiaaGreatDoor
namespace Go.Proofs.YtnmkmmgaoplfiaaGreatDoor
open Go.RowKit
theorem foldIn_keep (nm : List UInt8) : ∀ (f i : Nat) (acc : List (List UInt8)) (p : List UInt8), p ∈ acc → p ∈ foldIn nm f i acc
 | 0, _, _, _, h => h
 | f + 1, i, acc, p, h => by
  unfold foldIn
  refine foldIn_keep nm f (i + 1) _ p ?_
  split
  ·exact List.mem_append_left _ h
  ·exact h
theorem foldIn_has (nm : List UInt8) : ∀ (f i : Nat) (acc : List (List UInt8)) (k : Nat), i ≤ k → k < i + f → nm[k]? = some 47 → nm.take (k + 1) ∈ foldIn nm f i acc
 | 0, i, acc, k, h1, h2, _ => by omega
 | f + 1, i, acc, k, h1, h2, hk => by
  unfold foldIn
  by_cases e : k = i
  ·subst e
   refine foldIn_keep nm f (k + 1) _ _ ?_
   by_cases hc : acc.contains (nm.take (k + 1)) = false
   ·rw [if_pos ⟨hk, hc⟩]; simp
   ·rw [if_neg (fun h => hc h.2)]
    simpa using hc
  ·exact foldIn_has nm f (i + 1) _ k (by omega) (by omega) hk
theorem foldAll_keep : ∀ (L : List Spanned) (acc : List (List UInt8)) (p : List UInt8), p ∈ acc → p ∈ foldAll L acc
 | [], _, _, h => h
 | x :: L, acc, p, h => foldAll_keep L _ p (foldIn_keep _ _ _ _ p h)
theorem foldAll_has : ∀ (L : List Spanned) (acc : List (List UInt8)) (x : Spanned) (k : Nat), x ∈ L → x.ent.name.data.toList[k]? = some 47 → x.ent.name.data.toList.take (k + 1) ∈ foldAll L acc
 | [], _, _, _, h, _ => by cases h
 | y :: L, acc, x, k, h, hk => by
  unfold foldAll
  rcases List.mem_cons.1 h with rfl | h
  ·refine foldAll_keep L _ _ (foldIn_has _ _ 0 acc k (Nat.zero_le _) ?_ hk)
   have := (List.getElem?_eq_some_iff.1 hk).1
   have e : x.ent.name.data.toList.length = x.ent.name.size := Array.length_toList
   omega
  ·exact foldAll_has L _ x k h hk
theorem filesGo_keep (s : ByteArray) : ∀ (L : List Spanned) (acc fs : List Fil), filesGo s L acc = .inr fs → ∀ f ∈ acc, f ∈ fs
 | [], acc, fs, h, f, hf => by cases h; exact hf
 | x :: L, acc, fs, h, f, hf => by
  unfold filesGo at h
  split at h
  ·exact filesGo_keep s L acc fs h f hf
  ·cases hd : dataOfE s x with
   | inl k => rw [hd] at h; cases h
   | inr d => rw [hd] at h; exact filesGo_keep s L _ fs h f (List.mem_append_left _ hf)
theorem filesGo_has (s : ByteArray) : ∀ (L : List Spanned) (acc fs : List Fil), filesGo s L acc = .inr fs → ∀ x ∈ L, folderB x.ent.name = false → ∃ d, dataOfE s x = .inr d ∧ (x.ent.name, d) ∈ fs
 | [], acc, fs, h, x, hx, _ => by cases hx
 | y :: L, acc, fs, h, x, hx, hf => by
  unfold filesGo at h
  rcases List.mem_cons.1 hx with rfl | hx
  ·rw [if_neg (by rw [hf]; simp)] at h
   cases hd : dataOfE s x with
   | inl k => rw [hd] at h; cases h
   | inr d =>
    rw [hd] at h
    exact ⟨d, rfl, filesGo_keep s L _ fs h _ (by simp)⟩
  ·split at h
   ·exact filesGo_has s L acc fs h x hx hf
   ·cases hd : dataOfE s y with
    | inl k => rw [hd] at h; cases h
    | inr d => rw [hd] at h; exact filesGo_has s L _ fs h x hx hf
theorem faultOf_size (e : Ent) (h : faultOf e = 0) : (folderB e.name = true → e.size = 0) ∧ (e.method = 0 → e.size = e.packed) := by
 unfold faultOf at h
 split at h
 ·cases h
 ·split at h
  ·cases h
  ·split at h
   ·cases h
   ·split at h
    ·cases h
    ·rename_i hn
     simp only [Bool.or_eq_true, Bool.and_eq_true, decide_eq_true_eq, not_or, not_and] at hn
     obtain ⟨h1, h2⟩ := hn
     refine ⟨fun hf => ?_, fun hm => ?_⟩
     ·have := h1 hf
      omega
     ·have := h2 hm
      omega
theorem dataOfE_ok (s : ByteArray) (x : Spanned) (d : List UInt8) (hf : FileOk s x) (h0 : faultOf x.ent = 0) (h : dataOfE s x = .inr d) : d.length = x.ent.size ∧ sumOf ⟨d.toArray⟩ = x.ent.sum := by
 unfold dataOfE at h
 cases hg : givenOf (s.extract x.place (x.place + x.ent.packed)) x.ent with
 | inl k => rw [hg] at h; cases h
 | inr l =>
  rw [hg] at h
  simp only at h
  split at h
  ·rename_i hs
   cases h
   refine ⟨?_, hs⟩
   unfold givenOf at hg
   split at hg
   ·rename_i hm
    cases hg
    have e := (faultOf_size _ h0).2 hm
    have e2 : (s.extract x.place (x.place + x.ent.packed)).data.toList.length = (s.extract x.place (x.place + x.ent.packed)).size := Array.length_toList
    rw [e2, ByteArray.size_extract]
    have := hf.inside
    omega
   ·unfold wholeOf at hg
    split at hg
    ·cases hg
    ·split at hg
     ·cases hg
     ·rename_i hne
      split at hg
      ·cases hg
      ·cases hg
       exact Classical.byContradiction hne
  ·cases h
structure ToldOk (s : ByteArray) (L : List Spanned) (o : List Fil) : Prop where
 srt : Srt o
 all : ∀ f ∈ o, AllP L f.1
 ents : ∀ x ∈ L, ∃ f ∈ o, f.1 = x.ent.name ∧ f.2.length = x.ent.size ∧ (folderB x.ent.name = false → sumOf ⟨f.2.toArray⟩ = x.ent.sum)
 fols : ∀ f ∈ o, ∀ k, f.1.data.toList[k]? = some 47 → ∃ g ∈ o, g.1.data.toList = f.1.data.toList.take (k + 1)
theorem told_ok (s : ByteArray) (qe qn qb : Int) (L : List Spanned) (hR : listOf s qe qn qb = .ok L) (hs : s.size ≤ 2147483648) (fs : List Fil) (hfg : filesGo s L [] = .inr fs) (d : List Fil) (hperm : d.Perm (fs ++ (foldAll L []).map folOf)) (hsort : d.Pairwise fun a b => cmpP a.1.data.toList b.1.data.toList ≤ 0) : ToldOk s L d := by
 obtain ⟨heach, hcl⟩ := listOf_each s qe qn qb L hR
 have hfo := (listOf_ok s qe qn qb L hR hs).2.1
 have hn : ∀ x ∈ L, nameOk x.ent.name = true := fun x hx => faultOf_name _ (heach x hx).2
 have h0 : OutIs L [] [] [] := ⟨List.Perm.refl _, List.Pairwise.nil, fun f hf => (by cases hf), fun f hf => (by cases hf)⟩
 have hall := refGo_eq s (allp_ord hn hcl) hcl L [] [] [] [] rfl h0 (fun f hf => by cases hf)
 rw [hfg] at hall
 obtain ⟨o, ho, hO⟩ := (show ∃ o, refGo s L [] = .inr o ∧ OutIs L fs (foldAll L []) o from hall)
 obtain rfl := sorted_one o d (hperm.trans hO.perm.symm) hO.srt hsort
 have hin : ∀ x ∈ L, ∀ k, x.ent.name.data.toList[k]? = some 47 → folOf (x.ent.name.data.toList.take (k + 1)) ∈ d := fun x hx k hk =>
  hO.perm.mem_iff.2 (List.mem_append_right _ (List.mem_map.2 ⟨_, foldAll_has L [] x k hx hk, rfl⟩))
 refine ⟨hO.srt, hO.all, fun x hx => ?_, fun f hf k hk => ?_⟩
 ·by_cases hfb : folderB x.ent.name = true
  ·have ht := bare_tail x.ent.name
   rw [if_pos hfb] at ht
   have hpos := name_pos _ (hn x hx)
   have hlen : x.ent.name.data.toList.length = x.ent.name.size := Array.length_toList
   have hl2 := congrArg List.length ht
   rw [List.length_append, hlen] at hl2
   simp only [List.length_singleton] at hl2
   have hk : x.ent.name.data.toList[x.ent.name.size - 1]? = some 47 := by
    rw [ht, List.getElem?_append_right (by omega), show x.ent.name.size - 1 - (bareL x.ent.name).length = 0 by omega]
    rfl
   have hm := hin x hx _ hk
   rw [show x.ent.name.size - 1 + 1 = x.ent.name.size by omega, List.take_of_length_le (by omega)] at hm
   refine ⟨_, hm, ?_, ?_, fun h => by rw [hfb] at h; cases h⟩
   ·exact byte_ext rfl
   ·rw [(faultOf_size _ (heach x hx).2).1 hfb]; rfl
  ·have hfb' : folderB x.ent.name = false := by simpa using hfb
   obtain ⟨dd, h1, h2⟩ := filesGo_has s L [] fs hfg x hx hfb'
   obtain ⟨h3, h4⟩ := dataOfE_ok s x dd (hfo x hx) (heach x hx).2 h1
   exact ⟨_, hO.perm.mem_iff.2 (List.mem_append_left _ h2), rfl, h3, fun _ => h4⟩
 ·obtain ⟨x, hx, ⟨_, e⟩ | ⟨j, hj, e⟩⟩ := hO.all f hf
  ·rw [e] at hk ⊢
   exact ⟨_, hin x hx k hk, rfl⟩
  ·rw [e, fol_list] at hk ⊢
   have hkl : k < (x.ent.name.data.toList.take (j + 1)).length := (List.getElem?_eq_some_iff.1 hk).1
   rw [List.length_take] at hkl
   have hk' : x.ent.name.data.toList[k]? = some 47 := by
    rw [List.getElem?_take_of_lt (by omega)] at hk; exact hk
   refine ⟨_, hin x hx k hk', ?_⟩
   rw [fol_list, List.take_take]
   congr 1; omega
theorem list_apart (s : ByteArray) (qe qn qb : Int) (L : List Spanned) (hR : listOf s qe qn qb = .ok L) : (∀ x ∈ L, 30 ≤ x.place ∧ x.place + x.ent.packed ≤ s.size) ∧ (∀ i j (hi : i < L.length) (hj : j < L.length), i < j → ¬ (L[j].place < L[i].place + L[i].ent.packed ∧ L[i].place < L[j].place + L[j].ent.packed)) ∧ ((L.length : Int) ≤ qe ∧ (namesSum (L.map (·.ent)) : Int) ≤ qn ∧ (sizesSum (L.map (·.ent)) : Int) ≤ qb) := by
 unfold listOf at hR
 cases hd : dirOf s with
 | error k => rw [hd] at hR; cases hR
 | ok d =>
  rw [hd] at hR
  simp only at hR
  split at hR
  ·cases hR
  ·rename_i hq
   split at hR
   ·cases hR
   ·rename_i hpl
    cases he : entsGo s d.stop d.count d.place [] with
    | error k => rw [he] at hR; cases hR
    | ok l =>
     rw [he] at hR
     simp only at hR
     split at hR
     ·cases hR
     ·rename_i hqn
      split at hR
      ·cases hR
      ·cases hsp : spansOf s d.place l with
       | none => rw [hsp] at hR; cases hR
       | some r =>
        rw [hsp] at hR
        simp only at hR
        split at hR
        ·cases hR
        ·rename_i hov
         split at hR
         ·cases hR
         ·rename_i hqb
          cases hR
          obtain ⟨c1, c2⟩ := spansOf_ok s _ _ _ hsp
          have b1 := (entsGo_ok s _ _ _ _ _ he).1
          have d1 := (dirOf_ok s d hd).1
          have hpl' : d.place ≤ d.stop := by
           apply Classical.byContradiction; intro hh; exact hpl (fun e => hh e.1)
          have hlen : L.length = l.length := by rw [← c1]; simp
          have hsp2 : ∀ x ∈ L, x.ent.ahead + 30 ≤ x.place ∧ x.place + x.ent.packed ≤ x.stop ∧ x.stop ≤ d.place := fun x hx => spanAt_ok s _ _ _ _ (c2 x hx).2
          refine ⟨fun x hx => ?_, fun i j hi hj hij => ?_, ?_, ?_, ?_⟩
          ·have := hsp2 x hx
           omega
          ·have h1 := hsp2 L[i] (List.getElem_mem hi)
           have h2 := hsp2 L[j] (List.getElem_mem hj)
           have hov' : anyPair overB L = false := by simpa using hov
           rw [anyPair_false, List.pairwise_iff_getElem] at hov'
           have h3 := hov' i j hi hj hij
           unfold overB at h3
           simp only [Bool.and_eq_false_iff, decide_eq_false_iff_not] at h3
           omega
          ·simp only [List.length_nil] at b1
           omega
          ·rw [c1]; omega
          ·rw [c1]; omega
end Go.Proofs.YtnmkmmgaoplfiaaGreatDoor
namespace Go.Proofs.YtnmkmmgaoplfiaaGreatDoor
open Go.RowKit Go.Shelf
def findOf : List Fil → ByteArray → Option (List UInt8)
 | [], _ => none
 | f :: l, p => if f.1 = p then some f.2 else findOf l p
theorem findOf_mem : ∀ (l : List Fil) (f : Fil), f ∈ l → ∃ d, findOf l f.1 = some d
 | [], f, h => by cases h
 | g :: l, f, h => by
  unfold findOf
  by_cases e : g.1 = f.1
  ·exact ⟨g.2, by rw [if_pos e]⟩
  ·rw [if_neg e]
   rcases List.mem_cons.1 h with rfl | h
   ·exact absurd rfl e
   ·exact findOf_mem l f h
theorem findOf_srt : ∀ (l : List Fil) (f : Fil), Srt l → f ∈ l → findOf l f.1 = some f.2
 | [], f, _, h => by cases h
 | g :: l, f, hs, h => by
  unfold findOf
  rcases List.mem_cons.1 h with rfl | h
  ·rw [if_pos rfl]
  ·by_cases e : g.1 = f.1
   ·exfalso
    have := (List.pairwise_cons.1 hs).1 f h
    rw [e, cmpP_self] at this
    omega
   ·rw [if_neg e]
    exact findOf_srt l f (List.pairwise_cons.1 hs).2 h
def findV : Option (List UInt8) → Value
 | some d => .tuple #[.string ⟨d.toArray⟩, .bool true]
 | none => .tuple #[.string ⟨#[]⟩, .bool false]
theorem find_c (w : World) (a : Option Addr) (g cap n : Nat) (L : List Fil) (p : ByteArray) (hL : 0 < L.length → a = some ⟨g, 0, none⟩ ∧ FilesAt w g L) (hN : n = L.length) (hn : L.length ≤ 1000000000000) :
  Calls Tryz.prog 11 #[.slice a n cap, .string p] w fun r w' => r = .returned (findV (findOf L p)) ∧ w' = w := by
 have HN : Hid (n = L.length) := hN
 have HL : Hid (0 < L.length → a = some ⟨g, 0, none⟩ ∧ FilesAt w g L) := hL
 obtain ⟨R, hR⟩ : ∃ R, R = findOf L p := ⟨_, rfl⟩
 rw [← hR]
 have HR : Hid (R = findOf (L.drop 0) p) := hR
 have hn' : n ≤ 1000000000000 := by omega
 clear hL hN hn hR
 go_enter Tryz.func11, Tryz.ntmps11
 go_wp2
 go_loop [6] (fun i => ∃ k : Nat, k ≤ n ∧ i = .int .i64 (k : Int) ∧ Hid (R = findOf (L.drop k) p)) (fun i => n - (intOf i).toNat)
 case atStart => exact ⟨0, Nat.zero_le _, rfl, HR⟩
 case round =>
  obtain ⟨k, hk, rfl, HK⟩ := hrel
  by_cases hlt : k < n
  ·have hlt' : k < L.length := by have := HN.out; omega
   obtain ⟨rfl, hF⟩ := HL.out (by omega)
   obtain ⟨x1, x2⟩ := hF k hlt'
   have HX : Hid (R = if L[k].1 = p then some L[k].2 else findOf (L.drop (k + 1)) p) := by
    unfold Hid; rw [HK.out, List.drop_eq_getElem_cons hlt', findOf]
   clear HK hF
   revert x1 x2 HX
   generalize L[k] = x
   obtain ⟨xn, xd⟩ := x
   simp only
   obtain ⟨D, hD⟩ : ∃ D : ByteArray, D = ⟨xd.toArray⟩ := ⟨_, rfl⟩
   intro x1 x2 HX
   rw [← hD] at x2
   have i1 : (k : Int) < (n : Int) := by omega
   by_cases e : xn = p
   ·have hx := HX.out
    rw [if_pos e] at hx
    have FIN : Hid (findV R = .tuple #[.string D, .bool true]) := by rw [hx, hD]; rfl
    have q1 : (xn.toList == p.toList) = true := by rw [e]; simp
    clear HX hx hD
    go_wp2
    go_ret2
    exact ⟨by rw [FIN.out]; rfl, rfl⟩
   ·have hx := HX.out
    rw [if_neg e] at hx
    have HN2 : Hid (R = findOf (L.drop (k + 1)) p) := hx
    have q1 : (xn.toList == p.toList) = false := by rw [beq_eq_false_iff_ne, Ne, bytes_eq]; exact e
    clear HX hx hD
    go_wp2
    exact ⟨⟨k + 1, by omega, by go_num, HN2⟩, by simp [intOf]; omega⟩
  ·obtain rfl : n = k := by omega
   have hx := HK.out
   rw [List.drop_of_length_le (by have := HN.out; omega), findOf] at hx
   have FIN : Hid (findV R = .tuple #[.string ⟨#[]⟩, .bool false]) := by rw [hx]; rfl
   clear HK hx
   go_wp2
   go_ret2
   exact ⟨by rw [FIN.out]; rfl, rfl⟩
theorem cmpP_first (a b : UInt8) (l m : List UInt8) (h : a ≠ b) (ha : a ≠ 0) (hb : b ≠ 0) : decide (cmpP (a :: l) (b :: m) < 0) = (decide (a = 47) || (decide (b ≠ 47) && decide (a < b))) := by
 simp only [cmpP, if_neg h]
 rw [show decide (Lib.compareInt (rk a : Int) (rk b : Int) < 0) = decide ((rk a : Int) < (rk b : Int)) from decide_eq_decide.2 (compareInt_neg _ _)]
 by_cases h1 : a = 47
 ·have h2 : b ≠ 47 := fun e => h (h1.trans e.symm)
  have := rk_pos hb h2
  have z : rk a = 0 := by unfold rk; rw [if_pos h1]
  rw [decide_eq_true (show (rk a : Int) < (rk b : Int) by omega), decide_eq_true h1]; rfl
 ·rw [decide_eq_false h1, Bool.false_or]
  have z1 : rk a = a.toNat := by unfold rk; rw [if_neg h1]
  by_cases h2 : b = 47
  ·have z2 : rk b = 0 := by unfold rk; rw [if_pos h2]
   rw [decide_eq_false (show ¬ (rk a : Int) < (rk b : Int) by omega), decide_eq_false (fun e => e h2)]; rfl
  ·have z2 : rk b = b.toNat := by unfold rk; rw [if_neg h2]
   rw [decide_eq_true (show b ≠ 47 from h2), Bool.true_and, z1, z2]
   refine decide_eq_decide.2 ?_
   rw [UInt8.lt_iff_toNat_lt]; omega
theorem kahead_c (w : World) (a b : ByteArray) (ha : NoNul a.data.toList) (hb : NoNul b.data.toList) (hsa : a.size ≤ 1048576) (hsb : b.size ≤ 1048576) :
  Calls Tryz.prog 12 #[.string a, .string b] w fun r w' => r = .returned (.bool (decide (cmpP a.data.toList b.data.toList < 0))) ∧ ∃ m, w' = w.drewN m := by
 obtain ⟨R, hR⟩ : ∃ R, R = decide (cmpP a.data.toList b.data.toList < 0) := ⟨_, rfl⟩
 rw [← hR]
 have HR : Hid (R = decide (cmpP (a.data.toList.drop 0) (b.data.toList.drop 0) < 0)) := hR
 have HA : Hid (NoNul a.data.toList) := ha
 have HB : Hid (NoNul b.data.toList) := hb
 clear hR ha hb
 go_enter Tryz.func12, Tryz.ntmps12
 go_wp2
 go_loopw [5] (fun i wr => ∃ k : Nat, k ≤ a.size ∧ k ≤ b.size ∧ i = .int .i64 (k : Int) ∧ Hid (R = decide (cmpP (a.data.toList.drop k) (b.data.toList.drop k) < 0)) ∧ ∃ m, wr = w.drewN m) (fun i wr => a.size - (intOf i).toNat)
 case atStart => exact ⟨0, Nat.zero_le _, Nat.zero_le _, rfl, HR, 0, rfl⟩
 case round =>
  obtain ⟨k, ka, kb, rfl, HK, dm, rfl⟩ := hrel
  have la : a.data.toList.length = a.size := Array.length_toList
  have lb : b.data.toList.length = b.size := Array.length_toList
  by_cases h1 : k < a.size
  ·have i1 : (k : Int) < (a.size : Int) := by omega
   by_cases h2 : k < b.size
   ·have i2 : (k : Int) < (b.size : Int) := by omega
    have e1 : a.data.toList.drop k = a[k] :: a.data.toList.drop (k + 1) := by
     rw [List.drop_eq_getElem_cons (by omega)]; rfl
    have e2 : b.data.toList.drop k = b[k] :: b.data.toList.drop (k + 1) := by
     rw [List.drop_eq_getElem_cons (by omega)]; rfl
    have na : a[k] ≠ 0 := HA.out _ (by rw [← List.take_append_drop k a.data.toList, e1]; simp)
    have nb : b[k] ≠ 0 := HB.out _ (by rw [← List.take_append_drop k b.data.toList, e2]; simp)
    by_cases hab : a[k] = b[k]
    ·have hx := HK.out
     rw [e1, e2, hab] at hx
     have HN : Hid (R = decide (cmpP (a.data.toList.drop (k + 1)) (b.data.toList.drop (k + 1)) < 0)) := by
      unfold Hid; rw [hx]; simp only [cmpP, if_pos]
     have q1 : ((a[k].toNat : Int) == (b[k].toNat : Int)) = true := by rw [hab]; simp
     have q2 : (a[k].toNat : Int) = (b[k].toNat : Int) := by rw [hab]
     clear HK hx e1 e2 na nb la lb
     go_wp2
     go_quiet (fail)
     go_wp2
     exact ⟨⟨k + 1, by omega, by omega, by go_num, HN, _, by first | rfl | (simp only [World.drewN_drewN]; rfl)⟩, by simp [intOf]; omega⟩
    ·have hx := HK.out
     rw [e1, e2, cmpP_first _ _ _ _ hab na nb] at hx
     have q2 : ¬ (a[k].toNat : Int) = (b[k].toNat : Int) := fun e => hab (UInt8.toNat_inj.1 (by omega))
     have q1 : ((a[k].toNat : Int) == (b[k].toNat : Int)) = false := by simpa using q2
     by_cases h47 : a[k] = 47
     ·have HE : Hid (R = true) := by unfold Hid; rw [hx, decide_eq_true h47]; rfl
      have q3 : ((a[k].toNat : Int) == 47) = true := by rw [h47]; rfl
      have q4 : (a[k].toNat : Int) = 47 := by rw [h47]; rfl
      clear HK hx e1 e2 na nb la lb
      go_wp2
      go_quiet (fail)
      go_wp2
      go_ret
      exact ⟨by rw [HE.out]; rfl, _, by first | rfl | (simp only [World.drewN_drewN]; rfl)⟩
     ·have q4 : ¬ (a[k].toNat : Int) = 47 := fun e => h47 (UInt8.toNat_inj.1 (by simpa using (by omega : a[k].toNat = 47)))
      have q3 : ((a[k].toNat : Int) == 47) = false := by simpa using q4
      rw [decide_eq_false h47, Bool.false_or] at hx
      by_cases g47 : b[k] = 47
      ·have HE : Hid (R = false) := by unfold Hid; rw [hx, decide_eq_false (fun e => e g47)]; rfl
       have q5 : ((b[k].toNat : Int) != 47) = false := by rw [g47]; rfl
       have q6 : (b[k].toNat : Int) = 47 := by rw [g47]; rfl
       clear HK hx e1 e2 na nb la lb
       go_wp2
       go_quiet (fail)
       go_wp2
       go_quiet (fail)
       go_wp2
       go_ret
       exact ⟨by rw [HE.out]; rfl, _, by first | rfl | (simp only [World.drewN_drewN]; rfl)⟩
      ·have q6 : ¬ (b[k].toNat : Int) = 47 := fun e => g47 (UInt8.toNat_inj.1 (by simpa using (by omega : b[k].toNat = 47)))
       have q5 : ((b[k].toNat : Int) != 47) = true := by simpa using q6
       rw [decide_eq_true (show b[k] ≠ 47 from g47), Bool.true_and] at hx
       by_cases hlt : a[k] < b[k]
       ·have HE : Hid (R = true) := by unfold Hid; rw [hx, decide_eq_true hlt]
        have q7 : (a[k].toNat : Int) < (b[k].toNat : Int) := by rw [UInt8.lt_iff_toNat_lt] at hlt; omega
        have q8 : decide (a[k].toNat < b[k].toNat) = true := decide_eq_true (by omega)
        clear HK hx e1 e2 na nb la lb
        go_wp2
        go_quiet (fail)
        go_wp2
        go_quiet (fail)
        go_wp2
        go_ret
        exact ⟨by rw [HE.out]; first | rfl | (simp; omega), _, by first | rfl | (simp only [World.drewN_drewN]; rfl)⟩
       ·have HE : Hid (R = false) := by unfold Hid; rw [hx, decide_eq_false hlt]
        have q7 : ¬ (a[k].toNat : Int) < (b[k].toNat : Int) := by rw [UInt8.lt_iff_toNat_lt] at hlt; omega
        have q8 : decide (a[k].toNat < b[k].toNat) = false := decide_eq_false (by omega)
        clear HK hx e1 e2 na nb la lb
        go_wp2
        go_quiet (fail)
        go_wp2
        go_quiet (fail)
        go_wp2
        go_ret
        exact ⟨by rw [HE.out]; first | rfl | (simp; omega), _, by first | rfl | (simp only [World.drewN_drewN]; rfl)⟩
   ·obtain rfl : b.size = k := by omega
    have hx := HK.out
    rw [List.drop_of_length_le (show b.data.toList.length ≤ b.size by omega), List.drop_eq_getElem_cons (by omega)] at hx
    have HE : Hid (R = false) := by unfold Hid; rw [hx]; simp [cmpP]
    have i2 : ¬ (b.size : Int) < (b.size : Int) := by omega
    have i3 : ¬ (a.size : Int) < (b.size : Int) := by omega
    clear HK hx la lb
    go_wp2
    go_ret
    exact ⟨by rw [HE.out]; rfl, _, rfl⟩
  ·obtain rfl : a.size = k := by omega
   have HE : Hid (R = decide (a.size < b.size)) := by
    unfold Hid
    rw [HK.out, List.drop_of_length_le (show a.data.toList.length ≤ a.size by omega)]
    by_cases h2 : a.size < b.size
    ·rw [List.drop_eq_getElem_cons (by omega), decide_eq_true h2]; simp [cmpP]
    ·rw [List.drop_of_length_le (by omega), decide_eq_false h2]; simp [cmpP]
   have i2 : ¬ (a.size : Int) < (a.size : Int) := by omega
   clear HK la lb
   go_wp2
   go_ret
   exact ⟨by rw [HE.out]; rfl, _, rfl⟩
end Go.Proofs.YtnmkmmgaoplfiaaGreatDoor
namespace Go.Proofs.YtnmkmmgaoplfiaaGreatDoor
open Go.RowKit Go.Shelf
theorem partsGo_split : ∀ (u v q : List UInt8), partsGo (u ++ 47 :: v) q = partsGo u q ++ partsGo v []
 | [], v, q => by simp [partsGo]
 | c :: u, v, q => by
  rw [List.cons_append]
  by_cases h : c = 47
  ·rw [partsGo, if_pos h, partsGo, if_pos h, partsGo_split u v []]; rfl
  ·rw [partsGo, if_neg h, partsGo, if_neg h]; exact partsGo_split u v (q ++ [c])
theorem allp_parts {L : List Spanned} (hn : ∀ x ∈ L, nameOk x.ent.name = true) {p : ByteArray} (h : AllP L p) : ∀ x ∈ partsGo (bareL p) [], partOk x = true := by
 obtain ⟨y, hy, ⟨_, rfl⟩ | ⟨k, hk, rfl⟩⟩ := h
 ·have h1 := hn y hy
  unfold nameOk at h1
  simp only [Bool.and_eq_true, List.all_eq_true] at h1
  exact h1.2
 ·have h1 := hn y hy
  unfold nameOk at h1
  simp only [Bool.and_eq_true, List.all_eq_true] at h1
  have h2 := (fol_folder y.ent.name.data.toList k hk).2
  rw [h2]
  obtain ⟨h3, h4⟩ := bare_at y.ent.name k hk
  rw [h4]
  intro x hx
  refine h1.2 x ?_
  rcases h3 with h3 | h3
  ·have hlt : k < (bareL y.ent.name).length := (List.getElem?_eq_some_iff.1 h3).1
   have e : bareL y.ent.name = (bareL y.ent.name).take k ++ 47 :: (bareL y.ent.name).drop (k + 1) := by
    have e1 := List.drop_eq_getElem_cons hlt
    rw [List.getElem?_eq_getElem hlt] at h3
    rw [Option.some.inj h3] at e1
    rw [← e1, List.take_append_drop]
   rw [e, partsGo_split]
   exact List.mem_append_left _ hx
  ·rw [List.take_of_length_le (by omega)] at hx
   exact hx
theorem proper_c (w : World) (p : ByteArray) (hp : ∀ x ∈ partsGo (bareL p) [], partOk x = true) (hs : p.size ≤ 1048576) :
  Calls Tryz.prog 14 #[.string p] w fun r w' => r = .returned (.bool true) ∧ w' = w := by
 have htail := bare_tail p
 have hlp : p.data.toList.length = p.size := Array.length_toList
 obtain ⟨B, hB⟩ : ∃ B, B = (bareL p).length := ⟨_, rfl⟩
 have hsz : p.size = B ∨ (p.size = B + 1 ∧ p.data.toList[B]? = some 47) := by
  have h1 := congrArg List.length htail
  rw [List.length_append, hlp, ← hB] at h1
  by_cases hf : folderB p = true
  ·rw [if_pos hf] at h1 htail
   right
   refine ⟨by simpa using h1, ?_⟩
   rw [htail, List.getElem?_append_right (by omega), ← hB, Nat.sub_self]; rfl
  ·rw [if_neg hf] at h1
   left; simpa using h1
 have HB : Hid (∀ k (h : k < B) (h' : k < p.size), (bareL p).drop k = p[k] :: (bareL p).drop (k + 1)) := fun k h h' => by
  rw [List.drop_eq_getElem_cons (by omega)]
  congr 1
  have e1 : p.data.toList[k]? = (bareL p)[k]? := by
   rw [htail, List.getElem?_append_left (by omega)]
  rw [List.getElem?_eq_getElem (by omega), List.getElem?_eq_getElem (by omega)] at e1
  exact (Option.some.inj e1).symm
 have HE : Hid (∀ k (h : k < p.size), ∀ q : List UInt8, (⟨q.toArray⟩ : ByteArray) ++ p.extract k (k + 1) = ⟨(q ++ [p[k]]).toArray⟩) := fun k h q => by
  apply ByteArray.ext
  apply Array.toList_inj.1
  rw [ByteArray.data_append, Array.toList_append, ByteArray.data_extract, Array.toList_extract, List.extract_eq_take_drop]
  have e : p.data.toList.drop k = p[k] :: p.data.toList.drop (k + 1) := by
   rw [List.drop_eq_getElem_cons (by omega)]; rfl
  rw [e]
  simp
 have HP0 : Hid (∀ x ∈ partsGo ((bareL p).drop 0) [], partOk x = true) := hp
 have HDN : Hid ((bareL p).drop B = []) := List.drop_of_length_le (by omega)
 have HLast : Hid (p.size = B + 1 → ∀ h : B < p.size, p[B] = 47) := fun e h => by
  rcases hsz with h1 | ⟨_, h2⟩
  ·omega
  ·rw [List.getElem?_eq_getElem (by omega)] at h2
   exact Option.some.inj h2
 have hsz' : p.size = B ∨ p.size = B + 1 := by omega
 clear hp htail hlp hB hsz
 go_enter Tryz.func14, Tryz.ntmps14
 go_wp2
 go_loop [3, 4] (fun pt i => ∃ (k : Nat) (q : List UInt8), i = .int .i64 (k : Int) ∧ pt = .string ⟨q.toArray⟩ ∧ q.length ≤ k ∧ ((k ≤ B ∧ Hid (∀ x ∈ partsGo ((bareL p).drop k) q, partOk x = true)) ∨ (k = B + 1 ∧ q = []))) (fun pt i => B + 2 - (intOf i).toNat)
 case atStart => exact ⟨0, [], rfl, rfl, Nat.le_refl _, .inl ⟨Nat.zero_le _, HP0⟩⟩
 case round =>
  obtain ⟨k, q, rfl, rfl, hq, hst⟩ := hrel
  have l1 : (⟨q.toArray⟩ : ByteArray).size = q.length := by show q.toArray.size = _; simp
  rcases hst with ⟨hkB, HQ⟩ | ⟨rfl, rfl⟩
  ·have hk1 : k ≤ p.size := by omega
   have i0 : (k : Int) ≤ (p.size : Int) := by omega
   by_cases hlt : k < p.size
   ·have i1 : (k : Int) < (p.size : Int) := by omega
    have i2 : ¬ (k : Int) = (p.size : Int) := by omega
    have i2' : ((k : Int) == (p.size : Int)) = false := by simpa using i2
    by_cases hc : p[k] = 47
    ·have hqok : partOk q = true ∧ (k < B → ∀ x ∈ partsGo ((bareL p).drop (k + 1)) [], partOk x = true) := by
      by_cases hk : k < B
      ·have h1 := HQ.out
       rw [HB.out k hk hlt, hc, partsGo, if_pos rfl] at h1
       exact ⟨h1 q (List.mem_cons_self ..), fun _ x hx => h1 x (List.mem_cons_of_mem _ hx)⟩
      ·obtain rfl : B = k := by omega
       have h1 := HQ.out
       rw [HDN.out, partsGo] at h1
       exact ⟨h1 q (by simp), fun h => by omega⟩
     obtain ⟨ok, hrest⟩ := hqok
     have HREL : Hid ((k + 1 ≤ B ∧ Hid (∀ x ∈ partsGo ((bareL p).drop (k + 1)) [], partOk x = true)) ∨ (k + 1 = B + 1 ∧ ([] : List UInt8) = [])) := by
      by_cases hk : k < B
      ·exact .inl ⟨by omega, hrest hk⟩
      ·exact .inr ⟨by omega, rfl⟩
     unfold partOk at ok
     simp only [Bool.and_eq_true, decide_eq_true_eq] at ok
     obtain ⟨⟨k1, k2⟩, k3⟩ := ok
     have b1 : ((p[k].toNat : Int) != 47) = false := by rw [hc]; rfl
     have b2 : (p[k].toNat : Int) = 47 := by rw [hc]; rfl
     obtain ⟨Q, hQ⟩ : ∃ Q : ByteArray, Q = ⟨q.toArray⟩ := ⟨_, rfl⟩
     have c1 : Q.toList.isEmpty = false := by rw [hQ, ByteArray.toList_eq]; simpa using k1
     have c2 : (Q.toList == [46]) = false := by rw [hQ, ByteArray.toList_eq]; simpa using k2
     have c3 : (Q.toList == [46, 46]) = false := by rw [hQ, ByteArray.toList_eq]; simpa using k3
     rw [← hQ]
     clear hQ k1 k2 k3 hrest HQ hc l1
     go_wp2
     exact ⟨⟨k + 1, [], by go_num, rfl, Nat.zero_le _, HREL.out⟩, by simp [intOf]; omega⟩
    ·have hkb : k < B := by
      apply Classical.byContradiction
      intro h
      obtain rfl : B = k := by omega
      exact hc (HLast.out (by omega) hlt)
     have h1 := HQ.out
     rw [HB.out k hkb hlt, partsGo, if_neg hc] at h1
     have HREL : Hid (∀ x ∈ partsGo ((bareL p).drop (k + 1)) (q ++ [p[k]]), partOk x = true) := h1
     have b2 : ¬ (p[k].toNat : Int) = 47 := fun e => hc (UInt8.toNat_inj.1 (by simpa using (by omega : p[k].toNat = 47)))
     have b1 : ((p[k].toNat : Int) != 47) = true := by simpa using b2
     have e := HE.out k hlt q
     have HEE : Hid ((⟨q.toArray⟩ : ByteArray) ++ p.extract k (k + 1) = ⟨(q ++ [p[k]]).toArray⟩) := e
     clear h1 HQ e hc
     go_wp2
     exact ⟨⟨k + 1, q ++ [p[k]], by go_num, by rw [← HEE.out], by simp; omega, .inl ⟨by omega, HREL⟩⟩, by simp [intOf]; omega⟩
   ·obtain rfl : p.size = k := by omega
    have hBk : p.size = B := by omega
    have h1 := HQ.out
    rw [List.drop_of_length_le (by
     have := HDN.out
     have h2 := congrArg List.length this
     rw [List.length_drop] at h2
     simp only [List.length_nil] at h2
     omega), partsGo] at h1
    have ok := h1 q (by simp)
    unfold partOk at ok
    simp only [Bool.and_eq_true, decide_eq_true_eq] at ok
    obtain ⟨⟨k1, k2⟩, k3⟩ := ok
    have i1 : ¬ (p.size : Int) < (p.size : Int) := by omega
    obtain ⟨Q, hQ⟩ : ∃ Q : ByteArray, Q = ⟨q.toArray⟩ := ⟨_, rfl⟩
    have c1 : Q.toList.isEmpty = false := by rw [hQ, ByteArray.toList_eq]; simpa using k1
    have c2 : (Q.toList == [46]) = false := by rw [hQ, ByteArray.toList_eq]; simpa using k2
    have c3 : (Q.toList == [46, 46]) = false := by rw [hQ, ByteArray.toList_eq]; simpa using k3
    rw [← hQ]
    clear hQ k1 k2 k3 HQ h1 l1
    go_wp2
    exact ⟨⟨p.size + 1, [], by go_num, rfl, Nat.zero_le _, .inr ⟨by omega, rfl⟩⟩, by simp [intOf]; omega⟩
  ·by_cases hf : p.size = B + 1
   ·have i0 : ((B + 1 : Nat) : Int) = (p.size : Int) := by omega
    rw [i0]
    have i1 : (0 : Int) < (p.size : Int) := by omega
    go_wp2
    go_ret
    exact ⟨rfl, rfl⟩
   ·have i0 : ¬ ((B + 1 : Nat) : Int) ≤ (p.size : Int) := by omega
    go_wp2
    go_ret
    exact ⟨rfl, rfl⟩
end Go.Proofs.YtnmkmmgaoplfiaaGreatDoor
namespace Go.Proofs.YtnmkmmgaoplfiaaGreatDoor
open Go.RowKit
theorem quiet_draw {P : Program} {f : FuncId} {args : Array Value} {w : World} {n : Nat} {v : Value} (h : Calls P f args (w.drewN n) fun e w' => e = .returned v ∧ ∃ z, w' = (w.drewN n).drewN z) : Calls P f args (w.drewN n) fun e w'' => e = .returned v ∧ ∃ m, w'' = w.drewN m :=
 h.mono fun _ _ ⟨a, z, b⟩ => ⟨a, n + z, by rw [b, World.drewN_drewN]⟩
theorem quota_new (w : World) (x y z : Value) (t : TypeId) : (w.alloc (Obj.cells #[x, y, z] t)).cell? ⟨w.heap.size, 0, none⟩ = some x ∧ (w.alloc (Obj.cells #[x, y, z] t)).cell? ⟨w.heap.size, 1, none⟩ = some y ∧ (w.alloc (Obj.cells #[x, y, z] t)).cell? ⟨w.heap.size, 2, none⟩ = some z := by
 have hb := heap_alloc_new w (Obj.cells #[x, y, z] t)
 refine ⟨?_, ?_, ?_⟩ <;> rw [row_cell hb] <;> rfl
theorem filesAt_kept {w w' : World} {g : Nat} {o : List Fil} (h : FilesAt w g o) (t : Touch (fun _ => False) w w') : FilesAt w' g o := fun i hi => ⟨t.at (h i hi).1 (fun e => e), t.at (h i hi).2 (fun e => e)⟩
theorem cmpP_take : ∀ (l : List UInt8) (n : Nat), n < l.length → cmpP (l.take n) l < 0
 | [], n, h => by simp at h
 | c :: l, 0, _ => by simp [cmpP]
 | c :: l, n + 1, h => by
  rw [List.take_succ_cons, cmpP, if_pos rfl]
  exact cmpP_take l n (by simpa using h)
theorem told_find {s : ByteArray} {L : List Spanned} {o : List Fil} (h : ToldOk s L o) (x : Spanned) (hx : x ∈ L) : ∃ d, findOf o x.ent.name = some d ∧ d.length = x.ent.size ∧ (folderB x.ent.name = false → sumOf ⟨d.toArray⟩ = x.ent.sum) := by
 obtain ⟨f, hf, e, h1, h2⟩ := h.ents x hx
 have := findOf_srt o f h.srt hf
 rw [e] at this
 exact ⟨f.2, this, h1, h2⟩
theorem told_up {s : ByteArray} {L : List Spanned} {o : List Fil} (h : ToldOk s L o) (i : Nat) (hi : i < o.length) (k : Nat) (hk : o[i].1.data.toList[k]? = some 47) (hlt : k + 1 < o[i].1.size) : ∃ d, findOf (o.take i) (o[i].1.extract 0 (k + 1)) = some d := by
 obtain ⟨g, hg, e⟩ := h.fols o[i] (List.getElem_mem hi) k hk
 obtain ⟨j, hj, rfl⟩ := List.getElem_of_mem hg
 have hl : o[i].1.data.toList.length = o[i].1.size := Array.length_toList
 have hc : cmpP o[j].1.data.toList o[i].1.data.toList < 0 := by rw [e]; exact cmpP_take _ _ (by omega)
 have hji : j < i := by
  apply Classical.byContradiction
  intro hn
  rcases Nat.lt_or_ge i j with hh | hh
  ·have h1 := List.pairwise_iff_getElem.1 h.srt i j hi hj hh
   have h2 := cmpP_swap o[i].1.data.toList o[j].1.data.toList
   omega
  ·obtain rfl : i = j := by omega
   rw [cmpP_self] at hc; omega
 have hm : o[j] ∈ o.take i := by
  rw [List.mem_take_iff_getElem]
  exact ⟨j, by omega, rfl⟩
 obtain ⟨d, hd⟩ := findOf_mem (o.take i) o[j] hm
 have e2 : o[j].1 = o[i].1.extract 0 (k + 1) := byte_ext (by
  rw [e, ByteArray.data_extract, Array.toList_extract, List.extract_eq_take_drop]
  simp)
 exact ⟨d, by rw [← e2]; exact hd⟩
theorem allp_size {L : List Spanned} (hn : ∀ x ∈ L, NoNul x.ent.name.data.toList ∧ x.ent.name.size ≤ 60) {p : ByteArray} (h : AllP L p) : NoNul p.data.toList ∧ p.size ≤ 60 := by
 obtain ⟨y, hy, ⟨_, rfl⟩ | ⟨k, hk, rfl⟩⟩ := h
 ·exact hn y hy
 ·obtain ⟨h1, h2⟩ := hn y hy
  have hl : (folOf (y.ent.name.data.toList.take (k + 1))).1.data.toList.length = (folOf (y.ent.name.data.toList.take (k + 1))).1.size := Array.length_toList
  have hl2 : y.ent.name.data.toList.length = y.ent.name.size := Array.length_toList
  rw [fol_list] at hl ⊢
  rw [List.length_take] at hl
  exact ⟨fun c hc => h1 c (List.mem_of_mem_take hc), by omega⟩
structure UpOk (o : List Fil) : Prop where
 small : ∀ i (h : i < o.length), NoNul o[i].1.data.toList ∧ o[i].1.size ≤ 60
 parts : ∀ i (h : i < o.length), ∀ x ∈ partsGo (bareL o[i].1) [], partOk x = true
 up : ∀ i (h : i < o.length), ∀ k (hk : k + 1 < o[i].1.size), o[i].1[k] = 47 → ∃ d, findOf (o.take i) (o[i].1.extract 0 (k + 1)) = some d
 srt : ∀ i (h : i + 1 < o.length), cmpP o[i].1.data.toList o[i + 1].1.data.toList < 0
theorem up_ok {s : ByteArray} {L : List Spanned} {o : List Fil} (h : ToldOk s L o) (hn : ∀ x ∈ L, nameOk x.ent.name = true) (hs : ∀ x ∈ L, NoNul x.ent.name.data.toList ∧ x.ent.name.size ≤ 60) : UpOk o := by
 refine ⟨fun i hi => allp_size hs (h.all _ (List.getElem_mem hi)), fun i hi => allp_parts hn (h.all _ (List.getElem_mem hi)), fun i hi k hk hc => told_up h i hi k ?_ hk, fun i hi => List.pairwise_iff_getElem.1 h.srt i (i + 1) (by omega) hi (by omega)⟩
 have hl : o[i].1.data.toList.length = o[i].1.size := Array.length_toList
 rw [List.getElem?_eq_getElem (by omega)]
 exact congrArg some hc
structure LeftOk (S : ByteArray) (L : List Spanned) (o : List Fil) (qe qn qb : Int) : Prop where
 ent : ∀ i (h : i < L.length), EntOk L[i].ent ∧ 30 ≤ L[i].place ∧ L[i].place + L[i].ent.packed ≤ S.size ∧ 0 < L[i].ent.name.size ∧ L[i].ent.name.size ≤ 60
 apart : ∀ i j (hi : i < L.length) (hj : j < L.length), i < j → ¬ (L[j].place < L[i].place + L[i].ent.packed ∧ L[i].place < L[j].place + L[j].ent.packed)
 told : ∀ i (h : i < L.length), ∃ d, findOf o L[i].ent.name = some d ∧ d.length = L[i].ent.size ∧ (folderB L[i].ent.name = false → sumOf ⟨d.toArray⟩ = L[i].ent.sum)
 qe : (L.length : Int) ≤ qe
 qn : (namesSum (L.map (·.ent)) : Int) ≤ qn
 qb : (sizesSum (L.map (·.ent)) : Int) ≤ qb
theorem left_ok (S : ByteArray) (qe qn qb : Int) (L : List Spanned) (hR : listOf S qe qn qb = .ok L) (hs : S.size ≤ 2147483648) {o : List Fil} (h : ToldOk S L o) : LeftOk S L o qe qn qb := by
 obtain ⟨a1, a2, a3, a4, a5⟩ := list_apart S qe qn qb L hR
 have he := (listOf_each S qe qn qb L hR).1
 have hnm := (listOf_ok S qe qn qb L hR hs).2.2
 refine ⟨fun i hi => ?_, a2, fun i hi => told_find h _ (List.getElem_mem hi), a3, a4, a5⟩
 have hm := List.getElem_mem hi
 obtain ⟨b1, b2⟩ := a1 _ hm
 exact ⟨(he _ hm).1, b1, b2, name_pos _ (faultOf_name _ (he _ hm).2), (hnm _ hm).2⟩
end Go.Proofs.YtnmkmmgaoplfiaaGreatDoor
