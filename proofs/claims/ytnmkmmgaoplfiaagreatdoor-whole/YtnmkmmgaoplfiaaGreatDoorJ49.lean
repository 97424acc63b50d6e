/- Texts of this seat, joined. -/
import Derived.Test.YtnmkmmgaoplfiaaGreatDoorJ21
import Derived.Test.YtnmkmmgaoplfiaaGreatDoorJ44
import Derived.Test.YtnmkmmgaoplfiaaGreatDoorJ42
import Derived.Test.YtnmkmmgaoplfiaaGreatDoorJ45
import Derived.Test.YtnmkmmgaoplfiaaGreatDoorJ47
import Derived.Test.YtnmkmmgaoplfiaaGreatDoorJ48
import Derived.BigQuiet
set_option linter.unusedSimpArgs false
set_option linter.unusedVariables false
set_option maxRecDepth 100000
set_option maxHeartbeats 20000000
namespace Go.Proofs.YtnmkmmgaoplfiaaGreatDoor
open Go.RowKit
end Go.Proofs.YtnmkmmgaoplfiaaGreatDoor
namespace Go.Proofs.YtnmkmmgaoplfiaaGreatDoor
open Go.RowKit Go.Shelf
theorem foldIn_len (nm : List UInt8) : ∀ (f i : Nat) (acc : List (List UInt8)), (foldIn nm f i acc).length ≤ acc.length + f
 | 0, _, acc => by simp [foldIn]
 | f + 1, i, acc => by
  have h := foldIn_len nm f (i + 1) (if nm[i]? = some 47 ∧ acc.contains (nm.take (i + 1)) = false then acc ++ [nm.take (i + 1)] else acc)
  unfold foldIn
  split at h
  ·rename_i hc
   rw [if_pos hc]
   simp only [List.length_append, List.length_singleton] at h
   omega
  ·rename_i hc
   rw [if_neg hc]; omega
theorem foldAll_len : ∀ (L : List Spanned) (acc : List (List UInt8)), (∀ x ∈ L, x.ent.name.size ≤ 60) → (foldAll L acc).length ≤ acc.length + 60 * L.length
 | [], acc, _ => by simp [foldAll]
 | x :: L, acc, h => by
  have h1 := foldIn_len x.ent.name.data.toList x.ent.name.size 0 acc
  have h2 := foldAll_len L (foldIn x.ent.name.data.toList x.ent.name.size 0 acc) (fun y hy => h y (List.mem_cons_of_mem _ hy))
  have h3 := h x (List.mem_cons_self ..)
  unfold foldAll
  rw [List.length_cons]
  omega
end Go.Proofs.YtnmkmmgaoplfiaaGreatDoor
namespace Go.Proofs.YtnmkmmgaoplfiaaGreatDoor
open Go.RowKit Go.Shelf
theorem buildGo_ok : ∀ (l : List Raw) (acc : List Made), (∀ r ∈ l, RawOk r) → AllOk acc → AllOk (buildGo l acc)
 | [], acc, _, h => h
 | r :: l, acc, hr, h => by
  unfold buildGo
  cases hk : knownB acc (madeOf r).name with
  | true => rw [if_pos rfl]; exact buildGo_ok l acc (fun x hx => hr x (List.mem_cons_of_mem _ hx)) h
  | false => rw [if_neg (by simp)]; exact buildGo_ok l _ (fun x hx => hr x (List.mem_cons_of_mem _ hx)) (h.snoc (madeOf_ok r (hr r (List.mem_cons_self ..))) hk)
theorem buildGo_len : ∀ (l : List Raw) (acc : List Made), (buildGo l acc).length ≤ acc.length + l.length
 | [], acc => by simp [buildGo]
 | r :: l, acc => by
  unfold buildGo
  split
  ·have := buildGo_len l acc
   rw [List.length_cons]; omega
  ·have := buildGo_len l (acc ++ [madeOf r])
   rw [List.length_append, List.length_singleton] at this
   rw [List.length_cons]; omega
theorem spansMade_len (f : Nat) : ∀ (l : List Made) (a : Nat), (spansMade f l a).length = l.length
 | [], _ => rfl
 | m :: l, a => by unfold spansMade; rw [List.length_cons, List.length_cons, spansMade_len f l]
theorem spansMade_get (f : Nat) : ∀ (l : List Made) (a i : Nat) (h : i < l.length) (h' : i < (spansMade f l a).length), (spansMade f l a)[i].ent.name = ⟨l[i].name.toArray⟩ ∧ (spansMade f l a)[i].ent.size = l[i].text.length
 | [], _, i, h, _ => by simp at h
 | m :: l, a, 0, _, _ => ⟨rfl, rfl⟩
 | m :: l, a, i + 1, h, h' => by
  have := spansMade_get f l (a + (fileB f m).length) i (by simpa using h) (by rw [spansMade_len]; simpa using h)
  exact this
theorem filsOf_len (l : List Made) : (filsOf l).length = l.length := List.length_map ..
theorem filsOf_get (l : List Made) (i : Nat) (h : i < (filsOf l).length) : (filsOf l)[i] = filOf (l[i]'(by rw [filsOf_len] at h; exact h)) := List.getElem_map ..
theorem filsOf_names (l : List Made) : ((filsOf l).map fun f => f.1.data.toList) = l.map (·.name) := by
 unfold filsOf
 rw [List.map_map]
 rfl
theorem nf_made (l : List Made) : nfTo (filsOf l) (filsOf l).length = (l.filter fun m => !folderB ⟨m.name.toArray⟩).length := by
 unfold nfTo
 rw [List.take_length]
 unfold filsOf
 rw [List.filter_map, List.length_map]
 rfl
theorem ItemAt.keep {w W : World} {sb a : Nat} {r : Raw} (h : ItemAt w sb a r) (t : Touch (fun _ => False) w W) : ItemAt W sb a r := by
 obtain ⟨pa, pl, pc, P, p3, ppl, pop, pe1, pe2⟩ := h.c3
 refine ⟨t.at h.c0 (fun e => e), t.at h.c1 (fun e => e), t.at h.c2 (fun e => e), ⟨pa, pl, pc, P, t.at p3 (fun e => e), ppl, fun i hi => ?_, pe1, pe2⟩, Nat.lt_of_lt_of_le h.lt t.size, h.hn, h.hk, h.ht⟩
 obtain ⟨s1, s2, e1, e2⟩ := pop i hi
 exact ⟨s1, s2, e1, e2.below (t.toBelow (Nat.le_refl _) (fun _ _ e => e))⟩
theorem madeB_size {f : Nat} {l : List Made} (h : AllOk l) (hl : l.length ≤ 10) : (⟨(madeB f l).toArray⟩ : ByteArray).size ≤ 1000000 := by
 have h1 := fileAll_len f l h.each
 have h2 := dirAll_len f l 0 h.each
 rw [kstr_size]
 unfold madeB
 rw [List.length_append, List.length_append, endB_len]
 omega
theorem whole_f (w : World) (ao : Option Addr) (len cap : Nat) (later : Bool) (f : Nat) (hf : f = 0 ∨ f = 8) (MS : List Made) (hok : AllOk MS) (hl : MS.length ≤ 10) (hord : Ord w) (h0 : 0 < w.heap.size)
  (HB : ∀ W, Touch (fun _ => False) w W → Calls Tryz.prog 6 #[.slice ao len cap, .bool later] W fun r w' => Touch (fun _ => False) W w' ∧ ∃ v, r = .returned (.agg #[.string ⟨(madeB f MS).toArray⟩, v, .int .i64 (((MS.map fun m => m.name.length).sum : Nat) : Int), .int .i64 (((MS.map fun m => m.text.length).sum : Nat) : Int), .int .i64 (MS.length : Int)]) ∧ w'.ownsRow W.heap.size 39 2 v MS.length (fileV (filsOf MS))) :
  Calls Tryz.prog 3 #[.slice ao len cap, .bool later] w fun r w' => r = .returned (.bool true) ∧ Below w.heap.size w w' := by
 obtain ⟨A, hA⟩ : ∃ A : ByteArray, A = ⟨(madeB f MS).toArray⟩ := ⟨_, rfl⟩
 obtain ⟨NM, hNM⟩ : ∃ x : Nat, x = (MS.map fun m => m.name.length).sum := ⟨_, rfl⟩
 obtain ⟨BY, hBY⟩ : ∃ x : Nat, x = (MS.map fun m => m.text.length).sum := ⟨_, rfl⟩
 have hsum := sums_le MS hok.each
 rw [← hNM, ← hBY] at hsum
 have hLo : ∀ qe qn qb : Int, listOf A qe qn qb = if qe < (MS.length : Int) then .error 13 else if qn < (NM : Int) then .error 13 else if qb < (BY : Int) then .error 13 else .ok (spansMade f MS 0) := fun qe qn qb => by
  rw [hA, hNM, hBY]; exact listOf_built hf hok hl qe qn qb
 have hR : listOf A (MS.length : Int) (NM : Int) (BY : Int) = .ok (spansMade f MS 0) := by
  rw [hLo, if_neg (by omega), if_neg (by omega), if_neg (by omega)]
 have hQ1 : listOf A ((MS.length : Int) - 1) (NM : Int) (BY : Int) = .error 13 := by rw [hLo, if_pos (by omega)]
 have hQ2 : listOf A (MS.length : Int) ((NM : Int) - 1) (BY : Int) = .error 13 := by rw [hLo, if_neg (by omega), if_pos (by omega)]
 have hQ3 : listOf A (MS.length : Int) (NM : Int) ((BY : Int) - 1) = .error 13 := by rw [hLo, if_neg (by omega), if_neg (by omega), if_pos (by omega)]
 have hfg : filesGo A (spansMade f MS 0) [] = .inr ((MS.filter fun m => !folderB ⟨m.name.toArray⟩).map fun m => ((⟨m.name.toArray⟩ : ByteArray), m.text)) := by rw [hA]; exact filesGo_built hok
 have hAs : A.size ≤ 1000000 := by rw [hA]; exact madeB_size hok hl
 rw [← hA, ← hNM, ← hBY] at HB
 clear hA hNM hBY hLo
 obtain ⟨fs, hfs⟩ : ∃ x, x = ((MS.filter fun m => !folderB ⟨m.name.toArray⟩).map fun m => ((⟨m.name.toArray⟩ : ByteArray), m.text)) := ⟨_, rfl⟩
 obtain ⟨L, hL⟩ : ∃ x, x = spansMade f MS 0 := ⟨_, rfl⟩
 rw [← hfs] at hfg
 rw [← hL] at hR hfg
 have hlok := listOf_ok A _ _ _ L hR (by omega)
 obtain ⟨heach, hcl⟩ := listOf_each A _ _ _ L hR
 have hn : ∀ x ∈ L, nameOk x.ent.name = true := fun x hx => faultOf_name _ (heach x hx).2
 have hex : ∃ o, ToldOk A L o ∧ o.Perm (fs ++ (foldAll L []).map folOf) ∧ Srt o ∧ ∀ d : List Fil, d.Perm (fs ++ (foldAll L []).map folOf) → d.Pairwise (fun a b => cmpP a.1.data.toList b.1.data.toList ≤ 0) → d = o := by
  have hall := refGo_all A L hn hcl
  rw [hfg] at hall
  obtain ⟨o, ho, hO⟩ := (show ∃ o, refGo A L [] = .inr o ∧ _ from hall)
  have hin : OutIs L fs (foldAll L []) o := by
   have h0 : OutIs L [] [] [] := ⟨List.Perm.refl _, List.Pairwise.nil, fun f hf => (by cases hf), fun f hf => (by cases hf)⟩
   have h1 := refGo_eq A (allp_ord hn hcl) hcl L [] [] [] [] rfl h0 (fun f hf => by cases hf)
   rw [hfg] at h1
   obtain ⟨o', ho', hO'⟩ := (show ∃ o, refGo A L [] = .inr o ∧ OutIs L fs (foldAll L []) o from h1)
   rw [ho] at ho'
   cases ho'
   exact hO'
  exact ⟨o, told_ok A _ _ _ L hR (by omega) fs hfg o hin.perm (hin.srt.imp fun h => by omega), hin.perm, hin.srt, fun d h1 h2 => sorted_one o d (h1.trans hin.perm.symm) hin.srt h2⟩
 obtain ⟨o, hT, hperm, hsrt, huniq⟩ := hex
 have hLl : L.length = MS.length := by rw [hL]; exact spansMade_len f MS 0
 have hpl : o.Perm ((MS.filter fun m => !folderB ⟨m.name.toArray⟩).map (fun m => ((⟨m.name.toArray⟩ : ByteArray), m.text)) ++ (foldAll (spansMade f MS 0) []).map folOf) := by rw [← hfs, ← hL]; exact hperm
 have hcnt := told_len hpl
 have htold := made_told hpl (fun m hm e => ((hok.each m hm).fol (by rw [folderB_list] at e; exact e)).2)
 have hF60 : (foldN (MS.map (·.name)) []).length ≤ 600 := by
  have e3 := foldAll_len L [] (fun x hx => (hlok.2.2 x hx).2)
  rw [hL, foldAll_made, spansMade_len] at e3
  simp only [List.length_nil] at e3
  omega
 have hnf : (MS.filter fun m => !folderB ⟨m.name.toArray⟩).length ≤ 10 := Nat.le_trans (List.length_filter_le _ _) hl
 refine whole_ok w ao len cap later A (filsOf MS) MS.length NM BY (foldN ((filsOf MS).map fun f => f.1.data.toList) []).length L o (filsOf_len MS).symm hLl.symm hl (by omega) (by omega) (by rw [filsOf_names]; omega) (by omega) ⟨fun i h h' => ?_, fun i h => ?_, ?_, up_ok hT hn hlok.2.2⟩ hord h0 (fun W t _ _ => ?_) (fun W a g cp hfa => ?_) (fun W h1 h2 => ?_) (fun W h1 h2 => ?_) (fun W h1 h2 => ?_) (fun W h1 h2 => ?_) (fun W h1 h2 => ?_)
 ·subst hL
  rw [filsOf_get]
  have hi : i < MS.length := by rw [filsOf_len] at h; exact h
  obtain ⟨e1, e2⟩ := spansMade_get f MS 0 i hi h'
  have hm := hok.each _ (List.getElem_mem hi)
  have hs := names_small hm.nm
  have hx := hm.txt
  refine ⟨e1, e2, ?_, ?_, hx⟩
  ·show 0 < (⟨MS[i].name.toArray⟩ : ByteArray).size
   rw [kstr_size]; omega
  ·show (⟨MS[i].name.toArray⟩ : ByteArray).size ≤ 60
   rw [kstr_size]; omega
 ·rw [filsOf_get]
  exact findOf_srt o _ hsrt (htold _ (List.getElem_mem _))
 ·rw [filsOf_names, nf_made]; exact hcnt
 ·rw [filsOf_len]; exact HB W t
 ·refine (folders_c W a g cp MS.length (filsOf MS) hfa (filsOf_len MS).symm (by rw [filsOf_len]; omega) (fun x hx => ?_))
  obtain ⟨m, hm, rfl⟩ := List.mem_map.1 hx
  have hs := names_small (hok.each m hm).nm
  show (⟨m.name.toArray⟩ : ByteArray).size ≤ 60
  rw [kstr_size]; omega
 ·refine (list_c W A _ _ _ (by omega) (by omega) (by omega)).mono ?_
  rintro r w' ⟨t, hp⟩
  rw [hR] at hp
  obtain ⟨g, cap, e, ho⟩ := hp
  rw [hLl] at e
  exact ⟨t, g, cap, e, EntsAt.owned ho⟩
 ·refine (unpack_c W A _ _ _ (by omega) (by omega) (by omega) h1 h2).mono ?_
  rintro r w' ⟨t, hp⟩
  rw [hR] at hp
  unfold unpackPost at hp
  simp only at hp
  rw [hfg] at hp
  obtain ⟨v, d, e, hperm, hsort, a, cap, hv, hown, hat⟩ := hp
  obtain rfl := huniq d hperm hsort
  rw [hv] at e
  by_cases hd : 0 < d.length
  ·obtain ⟨g, _, q2, q3, q4⟩ := hat hd
   refine ⟨t, a, cap, g, e, fun _ => ⟨q3, q4, q2, ?_⟩⟩
   rw [hv] at hown
   obtain ⟨_, ⟨h2, h3⟩ | ⟨g', cap', cur, e', hb, hg, h3, h4, h5, h6⟩⟩ := hown
   ·omega
   ·cases e'; exact h3
  ·exact ⟨t, a, cap, 0, e, fun h => absurd h hd⟩
 ·refine (unpack_c W A _ _ _ (by omega) (by omega) (by omega) h1 h2).mono ?_
  rintro r w' ⟨t, hp⟩
  rw [hQ1] at hp
  exact ⟨t, hp⟩
 ·refine (unpack_c W A _ _ _ (by omega) (by omega) (by omega) h1 h2).mono ?_
  rintro r w' ⟨t, hp⟩
  rw [hQ2] at hp
  exact ⟨t, hp⟩
 ·refine (unpack_c W A _ _ _ (by omega) (by omega) (by omega) h1 h2).mono ?_
  rintro r w' ⟨t, hp⟩
  rw [hQ3] at hp
  exact ⟨t, hp⟩
theorem whole_c (w : World) (ao : Option Addr) (len cap : Nat) (later : Bool) (R : Nat → Raw) (hlen : len ≤ 9223372036854775807) (hop : ∀ i, i < len → ∃ sb so, ao = some ⟨sb, so, none⟩ ∧ ItemAt w sb (so + i * 4) (R i)) (hord : Ord w) (h0 : 0 < w.heap.size) :
  Calls Tryz.prog 3 #[.slice ao len cap, .bool later] w fun r w' => r = .returned (.bool true) ∧ Below w.heap.size w w' := by
 have hraw : ∀ r ∈ (List.range (min len 10)).map R, RawOk r := fun r hr => by
  obtain ⟨i, hi, rfl⟩ := List.mem_map.1 hr
  rw [List.mem_range] at hi
  obtain ⟨sb, so, _, hI⟩ := hop i (by omega)
  exact hI.raw
 obtain ⟨MS, hMS⟩ : ∃ MS, MS = buildGo ((List.range (min len 10)).map R) [] := ⟨_, rfl⟩
 have hok : AllOk MS := by rw [hMS]; exact buildGo_ok _ _ hraw AllOk.nil
 have hl : MS.length ≤ 10 := by
  have := buildGo_len ((List.range (min len 10)).map R) []
  rw [← hMS, List.length_map, List.length_range, List.length_nil] at this
  omega
 have hopW : ∀ W, Touch (fun _ => False) w W → ∀ i, i < len → ∃ sb so, ao = some ⟨sb, so, none⟩ ∧ ItemAt W sb (so + i * 4) (R i) := fun W t i hi => by
  obtain ⟨sb, so, e, hI⟩ := hop i hi
  exact ⟨sb, so, e, hI.keep t⟩
 cases later with
 | false => exact whole_f w ao len cap false 0 (Or.inl rfl) MS hok hl hord h0 (fun W t => build_0 W ao len cap R hlen (hopW W t) MS hMS hok)
 | true => exact whole_f w ao len cap true 8 (Or.inr rfl) MS hok hl hord h0 (fun W t => build_8 W ao len cap R hlen (hopW W t) MS hMS hok)
end Go.Proofs.YtnmkmmgaoplfiaaGreatDoor
