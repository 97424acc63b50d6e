/- Texts of this seat, joined. -/
import Derived.Test.YtnmkmmgaoplfiaaGreatDoorJ35
import Derived.Test.YtnmkmmgaoplfiaaGreatDoorJ42
import Derived.Test.YtnmkmmgaoplfiaaGreatDoorJ33
import Derived.BigQuiet
set_option linter.unusedSimpArgs false
set_option linter.unusedVariables false
set_option maxRecDepth 100000
set_option maxHeartbeats 20000000
namespace Go.Proofs.YtnmkmmgaoplfiaaGreatDoor
open Go.RowKit
structure Raw where
 nm : Int
 kd : Int
 txt : ByteArray
 pd : List UInt8
 pt : List UInt8
def madeOf (r : Raw) : Made :=
 if r.kd.tmod 4 = 0 then ⟨foldL (pickOf r.nm 4), 0, [], [], sumOf ⟨#[]⟩⟩
 else if r.kd.tmod 4 = 1 then ⟨pathL (pickOf r.nm 24), 8, r.pd, r.pt, sumOf ⟨r.pt.toArray⟩⟩
 else ⟨pathL (pickOf r.nm 24), 0, r.txt.data.toList.take 60, r.txt.data.toList.take 60, sumOf ⟨(r.txt.data.toList.take 60).toArray⟩⟩
def filOf (m : Made) : Fil := (⟨m.name.toArray⟩, m.text)
def knownB (acc : List Made) (n : List UInt8) : Bool := acc.any fun m => decide (m.name = n)
def buildGo : List Raw → List Made → List Made
 | [], acc => acc
 | r :: l, acc => if knownB acc (madeOf r).name then buildGo l acc else buildGo l (acc ++ [madeOf r])
theorem fileAll_snoc (f : Nat) : ∀ (l : List Made) (m : Made), fileAll f (l ++ [m]) = fileAll f l ++ fileB f m
 | [], m => by simp [fileAll]
 | x :: l, m => by rw [List.cons_append, fileAll, fileAll_snoc f l m, fileAll, List.append_assoc]
theorem dirAll_snoc (f : Nat) : ∀ (l : List Made) (m : Made) (a : Nat), dirAll f (l ++ [m]) a = dirAll f l a ++ dirB f m (a + (fileAll f l).length)
 | [], m, a => by simp [dirAll, fileAll]
 | x :: l, m, a => by rw [List.cons_append, dirAll, dirAll_snoc f l m, dirAll, List.append_assoc, fileAll, List.length_append, Nat.add_assoc]
structure RawOk (r : Raw) : Prop where
 dl : 0 < r.pd.length ∧ r.pd.length ≤ 2000
 tl : r.pt.length ≤ 3600
 inf : inflateVal (inflateOf ⟨r.pd.toArray⟩ (r.pt.length : Int)) = .tuple #[.string ⟨r.pt.toArray⟩, .int .i64 (r.pd.length : Int), .int .i64 0]
structure MadeOk (m : Made) : Prop where
 nm : m.name ∈ namesAll
 mth : m.method = 0 ∨ m.method = 8
 dat : m.data.length ≤ 2000
 txt : m.text.length ≤ 3600
 gv : Gives m
 fol : folderLL m.name = true → m.data = [] ∧ m.text = []
 m0 : m.method = 0 → m.data = m.text
theorem pathL_mem (n : Nat) (h : n < 24) : pathL n ∈ namesAll := List.mem_append_left _ (List.mem_map.2 ⟨n, List.mem_range.2 h, rfl⟩)
theorem foldL_mem (n : Nat) (h : n < 4) : foldL n ∈ namesAll := List.mem_append_right _ (List.mem_map.2 ⟨n, List.mem_range.2 h, rfl⟩)
theorem path_file (n : Nat) (h : n < 24) : folderLL (pathL n) = false := by
 have := List.all_eq_true.1 names_file n (List.mem_range.2 h)
 simpa using this
theorem madeOf_ok (r : Raw) (h : RawOk r) : MadeOk (madeOf r) := by
 have p24 := pickOf_lt r.nm 24 (by omega)
 have p4 := pickOf_lt r.nm 4 (by omega)
 unfold madeOf
 split
 ·exact ⟨foldL_mem _ p4, Or.inl rfl, by simp, by simp, ⟨Or.inl ⟨rfl, rfl⟩, rfl⟩, fun _ => ⟨rfl, rfl⟩, fun _ => rfl⟩
 ·split
  ·refine ⟨pathL_mem _ p24, Or.inr rfl, h.dl.2, h.tl, gives_of rfl h.inf h.dl.1 rfl, fun hf => ?_, fun e => by cases e⟩
   rw [path_file _ p24] at hf; cases hf
  ·refine ⟨pathL_mem _ p24, Or.inl rfl, ?_, ?_, ⟨Or.inl ⟨rfl, rfl⟩, rfl⟩, fun hf => ?_, fun _ => rfl⟩
   ·show (r.txt.data.toList.take 60).length ≤ 2000
    rw [List.length_take]; omega
   ·show (r.txt.data.toList.take 60).length ≤ 3600
    rw [List.length_take]; omega
   ·rw [path_file _ p24] at hf; cases hf
theorem known_iff (acc : List Made) (n : List UInt8) : knownB acc n = true ↔ n ∈ acc.map (·.name) := by
 unfold knownB
 rw [List.any_eq_true, List.mem_map]
 constructor
 ·rintro ⟨m, hm, e⟩; exact ⟨m, hm, of_decide_eq_true e⟩
 ·rintro ⟨m, hm, e⟩; exact ⟨m, hm, decide_eq_true e⟩
structure AllOk (l : List Made) : Prop where
 each : ∀ m ∈ l, MadeOk m
 nd : (l.map (·.name)).Nodup
theorem AllOk.nil : AllOk [] := ⟨fun m h => (by cases h), (by simp)⟩
theorem AllOk.snoc {l : List Made} (h : AllOk l) {m : Made} (hm : MadeOk m) (hk : knownB l m.name = false) : AllOk (l ++ [m]) := by
 refine ⟨fun x hx => ?_, ?_⟩
 ·rcases List.mem_append.1 hx with hx | hx
  ·exact h.each x hx
  ·rw [List.mem_singleton] at hx; rw [hx]; exact hm
 ·rw [List.map_append, List.nodup_append]
  refine ⟨h.nd, by simp, fun a ha b hb => ?_⟩
  simp only [List.map_cons, List.map_nil, List.mem_singleton] at hb
  subst hb
  intro e
  subst e
  have := (known_iff l m.name).2 ha
  rw [hk] at this; cases this
theorem names_small {n : List UInt8} (h : n ∈ namesAll) : 0 < n.length ∧ n.length ≤ 10 := by
 have : namesAll.all (fun n => decide (0 < n.length ∧ n.length ≤ 10)) = true := by decide +kernel
 exact of_decide_eq_true (List.all_eq_true.1 this n h)
theorem MadeOk.fits {m : Made} (h : MadeOk m) {f : Nat} (hf : f = 0 ∨ f = 8) : Fits f m := by
 have := names_small h.nm
 refine ⟨hf, by omega, h.mth, by have := h.dat; omega, by have := h.txt; omega, ?_⟩
 rw [← h.gv.sum]
 exact Nat.xor_lt_two_pow (n := 32) (by omega) (sumGo_lt _)
theorem MadeOk.fault {m : Made} (h : MadeOk m) {f : Nat} (hf : f = 0 ∨ f = 8) (x : Nat) : faultOf (entMade f m x) = 0 := by
 refine faultOf_made (h.fits hf) ?_ (fun e => h.fol (by rw [folderB_list] at e; exact e)) h.m0 x
 rw [nameOk_list]
 exact List.all_eq_true.1 names_ok _ h.nm
theorem fileAll_len (f : Nat) : ∀ (l : List Made), (∀ m ∈ l, MadeOk m) → (fileAll f l).length ≤ 2100 * l.length
 | [], _ => by simp [fileAll]
 | m :: l, h => by
  have ih := fileAll_len f l (fun x hx => h x (by simp [hx]))
  have h1 := h m (by simp)
  have h2 := names_small h1.nm
  have h3 := h1.dat
  unfold fileAll
  rw [List.length_append, fileB_len, List.length_cons]
  split <;> omega
theorem dirAll_len (f : Nat) : ∀ (l : List Made) (a : Nat), (∀ m ∈ l, MadeOk m) → (dirAll f l a).length ≤ 60 * l.length
 | [], _, _ => by simp [dirAll]
 | m :: l, a, h => by
  have ih := dirAll_len f l (a + (fileB f m).length) (fun x hx => h x (by simp [hx]))
  have h1 := h m (by simp)
  have h2 := names_small h1.nm
  unfold dirAll
  rw [List.length_append, dirB_len, List.length_cons]
  omega
theorem listOf_built {f : Nat} (hf : f = 0 ∨ f = 8) {l : List Made} (h : AllOk l) (hl : l.length ≤ 10) (qe qn qb : Int) :
  listOf ⟨(madeB f l).toArray⟩ qe qn qb = if qe < (l.length : Int) then .error 13 else if qn < (((l.map fun m => m.name.length).sum : Nat) : Int) then .error 13 else if qb < (((l.map fun m => m.text.length).sum : Nat) : Int) then .error 13 else .ok (spansMade f l 0) := by
 have h1 := fileAll_len f l h.each
 have h2 := dirAll_len f l 0 h.each
 refine listOf_made (fun m hm => ⟨(h.each m hm).fits hf, (h.each m hm).fault hf⟩) (by omega) ?_ ?_
 ·unfold madeB
  rw [List.length_append, List.length_append, endB_len]
  omega
 ·have := clash_none h.nd (fun a ha => by
   obtain ⟨m, hm, rfl⟩ := List.mem_map.1 ha
   exact (h.each m hm).nm)
  rw [List.map_map] at this
  exact this
theorem filesGo_built {f : Nat} {l : List Made} (h : AllOk l) : filesGo ⟨(madeB f l).toArray⟩ (spansMade f l 0) [] = .inr ((l.filter fun m => !folderB ⟨m.name.toArray⟩).map fun m => ((⟨m.name.toArray⟩ : ByteArray), m.text)) := by
 have h0 : Stands ⟨(madeB f l).toArray⟩ 0 (fileAll f l ++ (dirAll f l 0 ++ endB l.length (dirAll f l 0).length (fileAll f l).length)) := ⟨[], [], by simp [madeB], rfl⟩
 rw [filesGo_made l 0 [] (fun m hm _ => (h.each m hm).gv) h0.left, List.nil_append]
end Go.Proofs.YtnmkmmgaoplfiaaGreatDoor
namespace Go.Proofs.YtnmkmmgaoplfiaaGreatDoor
open Go.RowKit Go.Shelf
def findOf : List Fil → ByteArray → Option (List UInt8)
 | [], _ => none
 | f :: l, p => if f.1 = p then some f.2 else findOf l p
theorem findOf_mem : ∀ (l : List Fil) (f : Fil), f ∈ l → ∃ d, findOf l f.1 = some d
 | [], f, h => by cases h
 | g :: l, f, h => by
  unfold findOf
  by_cases e : g.1 = f.1
  ·exact ⟨g.2, by rw [if_pos e]⟩
  ·rw [if_neg e]
   rcases List.mem_cons.1 h with rfl | h
   ·exact absurd rfl e
   ·exact findOf_mem l f h
theorem findOf_srt : ∀ (l : List Fil) (f : Fil), Srt l → f ∈ l → findOf l f.1 = some f.2
 | [], f, _, h => by cases h
 | g :: l, f, hs, h => by
  unfold findOf
  rcases List.mem_cons.1 h with rfl | h
  ·rw [if_pos rfl]
  ·by_cases e : g.1 = f.1
   ·exfalso
    have := (List.pairwise_cons.1 hs).1 f h
    rw [e, cmpP_self] at this
    omega
   ·rw [if_neg e]
    exact findOf_srt l f (List.pairwise_cons.1 hs).2 h
def findV : Option (List UInt8) → Value
 | some d => .tuple #[.string ⟨d.toArray⟩, .bool true]
 | none => .tuple #[.string ⟨#[]⟩, .bool false]
theorem find_c (w : World) (a : Option Addr) (g cap n : Nat) (L : List Fil) (p : ByteArray) (hL : 0 < L.length → a = some ⟨g, 0, none⟩ ∧ FilesAt w g L) (hN : n = L.length) (hn : L.length ≤ 1000000000000) :
  Calls Tryz.prog 11 #[.slice a n cap, .string p] w fun r w' => r = .returned (findV (findOf L p)) ∧ w' = w := by
 have HN : Hid (n = L.length) := hN
 have HL : Hid (0 < L.length → a = some ⟨g, 0, none⟩ ∧ FilesAt w g L) := hL
 obtain ⟨R, hR⟩ : ∃ R, R = findOf L p := ⟨_, rfl⟩
 rw [← hR]
 have HR : Hid (R = findOf (L.drop 0) p) := hR
 have hn' : n ≤ 1000000000000 := by omega
 clear hL hN hn hR
 go_enter Tryz.func11, Tryz.ntmps11
 go_wp2
 go_loop [6] (fun i => ∃ k : Nat, k ≤ n ∧ i = .int .i64 (k : Int) ∧ Hid (R = findOf (L.drop k) p)) (fun i => n - (intOf i).toNat)
 case atStart => exact ⟨0, Nat.zero_le _, rfl, HR⟩
 case round =>
  obtain ⟨k, hk, rfl, HK⟩ := hrel
  by_cases hlt : k < n
  ·have hlt' : k < L.length := by have := HN.out; omega
   obtain ⟨rfl, hF⟩ := HL.out (by omega)
   obtain ⟨x1, x2⟩ := hF k hlt'
   have HX : Hid (R = if L[k].1 = p then some L[k].2 else findOf (L.drop (k + 1)) p) := by
    unfold Hid; rw [HK.out, List.drop_eq_getElem_cons hlt', findOf]
   clear HK hF
   revert x1 x2 HX
   generalize L[k] = x
   obtain ⟨xn, xd⟩ := x
   simp only
   obtain ⟨D, hD⟩ : ∃ D : ByteArray, D = ⟨xd.toArray⟩ := ⟨_, rfl⟩
   intro x1 x2 HX
   rw [← hD] at x2
   have i1 : (k : Int) < (n : Int) := by omega
   by_cases e : xn = p
   ·have hx := HX.out
    rw [if_pos e] at hx
    have FIN : Hid (findV R = .tuple #[.string D, .bool true]) := by rw [hx, hD]; rfl
    have q1 : (xn.toList == p.toList) = true := by rw [e]; simp
    clear HX hx hD
    go_wp2
    go_ret2
    exact ⟨by rw [FIN.out]; rfl, rfl⟩
   ·have hx := HX.out
    rw [if_neg e] at hx
    have HN2 : Hid (R = findOf (L.drop (k + 1)) p) := hx
    have q1 : (xn.toList == p.toList) = false := by rw [beq_eq_false_iff_ne, Ne, bytes_eq]; exact e
    clear HX hx hD
    go_wp2
    exact ⟨⟨k + 1, by omega, by go_num, HN2⟩, by simp [intOf]; omega⟩
  ·obtain rfl : n = k := by omega
   have hx := HK.out
   rw [List.drop_of_length_le (by have := HN.out; omega), findOf] at hx
   have FIN : Hid (findV R = .tuple #[.string ⟨#[]⟩, .bool false]) := by rw [hx]; rfl
   clear HK hx
   go_wp2
   go_ret2
   exact ⟨by rw [FIN.out]; rfl, rfl⟩
theorem cmpP_first (a b : UInt8) (l m : List UInt8) (h : a ≠ b) (ha : a ≠ 0) (hb : b ≠ 0) : decide (cmpP (a :: l) (b :: m) < 0) = (decide (a = 47) || (decide (b ≠ 47) && decide (a < b))) := by
 simp only [cmpP, if_neg h]
 rw [show decide (Lib.compareInt (rk a : Int) (rk b : Int) < 0) = decide ((rk a : Int) < (rk b : Int)) from decide_eq_decide.2 (compareInt_neg _ _)]
 by_cases h1 : a = 47
 ·have h2 : b ≠ 47 := fun e => h (h1.trans e.symm)
  have := rk_pos hb h2
  have z : rk a = 0 := by unfold rk; rw [if_pos h1]
  rw [decide_eq_true (show (rk a : Int) < (rk b : Int) by omega), decide_eq_true h1]; rfl
 ·rw [decide_eq_false h1, Bool.false_or]
  have z1 : rk a = a.toNat := by unfold rk; rw [if_neg h1]
  by_cases h2 : b = 47
  ·have z2 : rk b = 0 := by unfold rk; rw [if_pos h2]
   rw [decide_eq_false (show ¬ (rk a : Int) < (rk b : Int) by omega), decide_eq_false (fun e => e h2)]; rfl
  ·have z2 : rk b = b.toNat := by unfold rk; rw [if_neg h2]
   rw [decide_eq_true (show b ≠ 47 from h2), Bool.true_and, z1, z2]
   refine decide_eq_decide.2 ?_
   rw [UInt8.lt_iff_toNat_lt]; omega
theorem kahead_c (w : World) (a b : ByteArray) (ha : NoNul a.data.toList) (hb : NoNul b.data.toList) (hsa : a.size ≤ 1048576) (hsb : b.size ≤ 1048576) :
  Calls Tryz.prog 12 #[.string a, .string b] w fun r w' => r = .returned (.bool (decide (cmpP a.data.toList b.data.toList < 0))) ∧ ∃ m, w' = w.drewN m := by
 obtain ⟨R, hR⟩ : ∃ R, R = decide (cmpP a.data.toList b.data.toList < 0) := ⟨_, rfl⟩
 rw [← hR]
 have HR : Hid (R = decide (cmpP (a.data.toList.drop 0) (b.data.toList.drop 0) < 0)) := hR
 have HA : Hid (NoNul a.data.toList) := ha
 have HB : Hid (NoNul b.data.toList) := hb
 clear hR ha hb
 go_enter Tryz.func12, Tryz.ntmps12
 go_wp2
 go_loopw [5] (fun i wr => ∃ k : Nat, k ≤ a.size ∧ k ≤ b.size ∧ i = .int .i64 (k : Int) ∧ Hid (R = decide (cmpP (a.data.toList.drop k) (b.data.toList.drop k) < 0)) ∧ ∃ m, wr = w.drewN m) (fun i wr => a.size - (intOf i).toNat)
 case atStart => exact ⟨0, Nat.zero_le _, Nat.zero_le _, rfl, HR, 0, rfl⟩
 case round =>
  obtain ⟨k, ka, kb, rfl, HK, dm, rfl⟩ := hrel
  have la : a.data.toList.length = a.size := Array.length_toList
  have lb : b.data.toList.length = b.size := Array.length_toList
  by_cases h1 : k < a.size
  ·have i1 : (k : Int) < (a.size : Int) := by omega
   by_cases h2 : k < b.size
   ·have i2 : (k : Int) < (b.size : Int) := by omega
    have e1 : a.data.toList.drop k = a[k] :: a.data.toList.drop (k + 1) := by
     rw [List.drop_eq_getElem_cons (by omega)]; rfl
    have e2 : b.data.toList.drop k = b[k] :: b.data.toList.drop (k + 1) := by
     rw [List.drop_eq_getElem_cons (by omega)]; rfl
    have na : a[k] ≠ 0 := HA.out _ (by rw [← List.take_append_drop k a.data.toList, e1]; simp)
    have nb : b[k] ≠ 0 := HB.out _ (by rw [← List.take_append_drop k b.data.toList, e2]; simp)
    by_cases hab : a[k] = b[k]
    ·have hx := HK.out
     rw [e1, e2, hab] at hx
     have HN : Hid (R = decide (cmpP (a.data.toList.drop (k + 1)) (b.data.toList.drop (k + 1)) < 0)) := by
      unfold Hid; rw [hx]; simp only [cmpP, if_pos]
     have q1 : ((a[k].toNat : Int) == (b[k].toNat : Int)) = true := by rw [hab]; simp
     have q2 : (a[k].toNat : Int) = (b[k].toNat : Int) := by rw [hab]
     clear HK hx e1 e2 na nb la lb
     go_wp2
     go_quiet (fail)
     go_wp2
     exact ⟨⟨k + 1, by omega, by omega, by go_num, HN, _, by first | rfl | (simp only [World.drewN_drewN]; rfl)⟩, by simp [intOf]; omega⟩
    ·have hx := HK.out
     rw [e1, e2, cmpP_first _ _ _ _ hab na nb] at hx
     have q2 : ¬ (a[k].toNat : Int) = (b[k].toNat : Int) := fun e => hab (UInt8.toNat_inj.1 (by omega))
     have q1 : ((a[k].toNat : Int) == (b[k].toNat : Int)) = false := by simpa using q2
     by_cases h47 : a[k] = 47
     ·have HE : Hid (R = true) := by unfold Hid; rw [hx, decide_eq_true h47]; rfl
      have q3 : ((a[k].toNat : Int) == 47) = true := by rw [h47]; rfl
      have q4 : (a[k].toNat : Int) = 47 := by rw [h47]; rfl
      clear HK hx e1 e2 na nb la lb
      go_wp2
      go_quiet (fail)
      go_wp2
      go_ret
      exact ⟨by rw [HE.out]; rfl, _, by first | rfl | (simp only [World.drewN_drewN]; rfl)⟩
     ·have q4 : ¬ (a[k].toNat : Int) = 47 := fun e => h47 (UInt8.toNat_inj.1 (by simpa using (by omega : a[k].toNat = 47)))
      have q3 : ((a[k].toNat : Int) == 47) = false := by simpa using q4
      rw [decide_eq_false h47, Bool.false_or] at hx
      by_cases g47 : b[k] = 47
      ·have HE : Hid (R = false) := by unfold Hid; rw [hx, decide_eq_false (fun e => e g47)]; rfl
       have q5 : ((b[k].toNat : Int) != 47) = false := by rw [g47]; rfl
       have q6 : (b[k].toNat : Int) = 47 := by rw [g47]; rfl
       clear HK hx e1 e2 na nb la lb
       go_wp2
       go_quiet (fail)
       go_wp2
       go_quiet (fail)
       go_wp2
       go_ret
       exact ⟨by rw [HE.out]; rfl, _, by first | rfl | (simp only [World.drewN_drewN]; rfl)⟩
      ·have q6 : ¬ (b[k].toNat : Int) = 47 := fun e => g47 (UInt8.toNat_inj.1 (by simpa using (by omega : b[k].toNat = 47)))
       have q5 : ((b[k].toNat : Int) != 47) = true := by simpa using q6
       rw [decide_eq_true (show b[k] ≠ 47 from g47), Bool.true_and] at hx
       by_cases hlt : a[k] < b[k]
       ·have HE : Hid (R = true) := by unfold Hid; rw [hx, decide_eq_true hlt]
        have q7 : (a[k].toNat : Int) < (b[k].toNat : Int) := by rw [UInt8.lt_iff_toNat_lt] at hlt; omega
        have q8 : decide (a[k].toNat < b[k].toNat) = true := decide_eq_true (by omega)
        clear HK hx e1 e2 na nb la lb
        go_wp2
        go_quiet (fail)
        go_wp2
        go_quiet (fail)
        go_wp2
        go_ret
        exact ⟨by rw [HE.out]; first | rfl | (simp; omega), _, by first | rfl | (simp only [World.drewN_drewN]; rfl)⟩
       ·have HE : Hid (R = false) := by unfold Hid; rw [hx, decide_eq_false hlt]
        have q7 : ¬ (a[k].toNat : Int) < (b[k].toNat : Int) := by rw [UInt8.lt_iff_toNat_lt] at hlt; omega
        have q8 : decide (a[k].toNat < b[k].toNat) = false := decide_eq_false (by omega)
        clear HK hx e1 e2 na nb la lb
        go_wp2
        go_quiet (fail)
        go_wp2
        go_quiet (fail)
        go_wp2
        go_ret
        exact ⟨by rw [HE.out]; first | rfl | (simp; omega), _, by first | rfl | (simp only [World.drewN_drewN]; rfl)⟩
   ·obtain rfl : b.size = k := by omega
    have hx := HK.out
    rw [List.drop_of_length_le (show b.data.toList.length ≤ b.size by omega), List.drop_eq_getElem_cons (by omega)] at hx
    have HE : Hid (R = false) := by unfold Hid; rw [hx]; simp [cmpP]
    have i2 : ¬ (b.size : Int) < (b.size : Int) := by omega
    have i3 : ¬ (a.size : Int) < (b.size : Int) := by omega
    clear HK hx la lb
    go_wp2
    go_ret
    exact ⟨by rw [HE.out]; rfl, _, rfl⟩
  ·obtain rfl : a.size = k := by omega
   have HE : Hid (R = decide (a.size < b.size)) := by
    unfold Hid
    rw [HK.out, List.drop_of_length_le (show a.data.toList.length ≤ a.size by omega)]
    by_cases h2 : a.size < b.size
    ·rw [List.drop_eq_getElem_cons (by omega), decide_eq_true h2]; simp [cmpP]
    ·rw [List.drop_of_length_le (by omega), decide_eq_false h2]; simp [cmpP]
   have i2 : ¬ (a.size : Int) < (a.size : Int) := by omega
   clear HK la lb
   go_wp2
   go_ret
   exact ⟨by rw [HE.out]; rfl, _, rfl⟩
end Go.Proofs.YtnmkmmgaoplfiaaGreatDoor
namespace Go.Proofs.YtnmkmmgaoplfiaaGreatDoor
open Go.RowKit Go.Shelf
theorem has_c (w : World) (a : Option Addr) (g cap n : Nat) (L : List Fil) (p : ByteArray) (hL : 0 < L.length → a = some ⟨g, 0, none⟩ ∧ FilesAt w g L) (hN : n = L.length) (hn : L.length ≤ 1000000000000) :
  Calls Tryz.prog 20 #[.slice a n cap, .string p] w fun r w' => r = .returned (.bool (findOf L p).isSome) ∧ w' = w := by
 have HN : Hid (n = L.length) := hN
 have HL : Hid (0 < L.length → a = some ⟨g, 0, none⟩ ∧ FilesAt w g L) := hL
 obtain ⟨R, hR⟩ : ∃ R, R = findOf L p := ⟨_, rfl⟩
 rw [← hR]
 have HR : Hid (R = findOf (L.drop 0) p) := hR
 have hn' : n ≤ 1000000000000 := by omega
 clear hL hN hn hR
 go_enter Tryz.func20, Tryz.ntmps20
 go_wp2
 go_loop [5] (fun i => ∃ k : Nat, k ≤ n ∧ i = .int .i64 (k : Int) ∧ Hid (R = findOf (L.drop k) p)) (fun i => n - (intOf i).toNat)
 case atStart => exact ⟨0, Nat.zero_le _, rfl, HR⟩
 case round =>
  obtain ⟨k, hk, rfl, HK⟩ := hrel
  by_cases hlt : k < n
  ·have hlt' : k < L.length := by have := HN.out; omega
   obtain ⟨rfl, hF⟩ := HL.out (by omega)
   obtain ⟨x1, x2⟩ := hF k hlt'
   have HX : Hid (R = if L[k].1 = p then some L[k].2 else findOf (L.drop (k + 1)) p) := by
    unfold Hid; rw [HK.out, List.drop_eq_getElem_cons hlt', findOf]
   clear HK hF x2
   revert x1 HX
   generalize L[k] = x
   obtain ⟨xn, xd⟩ := x
   simp only
   intro x1 HX
   have i1 : (k : Int) < (n : Int) := by omega
   by_cases e : xn = p
   ·have hx := HX.out
    rw [if_pos e] at hx
    have FIN : Hid (R.isSome = true) := by rw [hx]; rfl
    have q1 : (xn.toList == p.toList) = true := by rw [e]; simp
    clear HX hx
    go_wp2
    go_ret
    exact ⟨by rw [FIN.out]; rfl, rfl⟩
   ·have hx := HX.out
    rw [if_neg e] at hx
    have HN2 : Hid (R = findOf (L.drop (k + 1)) p) := hx
    have q1 : (xn.toList == p.toList) = false := by rw [beq_eq_false_iff_ne, Ne, bytes_eq]; exact e
    clear HX hx
    go_wp2
    exact ⟨⟨k + 1, by omega, by go_num, HN2⟩, by simp [intOf]; omega⟩
  ·obtain rfl : n = k := by omega
   have hx := HK.out
   rw [List.drop_of_length_le (by have := HN.out; omega), findOf] at hx
   have FIN : Hid (R.isSome = false) := by rw [hx]; rfl
   clear HK hx
   go_wp2
   go_ret
   exact ⟨by rw [FIN.out]; rfl, rfl⟩
theorem kmost60_c (w : World) (S T : ByteArray) (hS : S.size ≤ 9223372036854775807) (hT : T = ⟨(S.data.toList.take 60).toArray⟩) :
  Calls Tryz.prog 21 #[.string S, .int .i64 60] w fun e w' => e = .returned (.string T) ∧ w = w' := by
 have hl : S.data.toList.length = S.size := Array.length_toList
 by_cases h : 60 < S.size
 ·have HE : Hid (S.extract 0 60 = T) := by
   unfold Hid; rw [hT]
   apply ByteArray.ext
   apply Array.toList_inj.1
   rw [Lib.extract_data]; simp
  clear hT
  go_enter Tryz.func21, Tryz.ntmps21
  go_wp2
  go_ret
  refine ⟨?_, rfl⟩
  rw [← HE.out]; rfl
 ·have HE : Hid (S = T) := by
   unfold Hid; rw [hT, List.take_of_length_le (by omega)]
  clear hT
  go_enter Tryz.func21, Tryz.ntmps21
  go_wp2
  go_ret
  refine ⟨?_, rfl⟩
  rw [← HE.out]; rfl
theorem path_c (w : World) (c : Int) (c0 : -9223372036854775808 ≤ c) (c1 : c ≤ 9223372036854775807) (T : ByteArray) (hT : T = ⟨(pathL (pickOf c 24)).toArray⟩) :
  Calls Tryz.prog 18 #[.int .i64 c] w fun r w' => r = .returned (.string T) ∧ Touch (fun _ => False) w w' := by
 have hlt := pickOf_lt c 24 (by omega)
 have HPK : Hid (∀ W, Calls Tryz.prog 19 #[.int .i64 c, .int .i64 24] W fun e w' => e = .returned (.int .i64 ((pickOf c 24 : Nat) : Int)) ∧ W = w') := fun W => kpick_c W c 24 _ 24 rfl rfl (by omega) (by omega) c0 c1
 subst hT
 revert HPK hlt
 generalize pickOf c 24 = n
 intro hlt HPK
 have hs : n = 0 ∨ n = 1 ∨ n = 2 ∨ n = 3 ∨ n = 4 ∨ n = 5 ∨ n = 6 ∨ n = 7 ∨ n = 8 ∨ n = 9 ∨ n = 10 ∨ n = 11 ∨ n = 12 ∨ n = 13 ∨ n = 14 ∨ n = 15 ∨ n = 16 ∨ n = 17 ∨ n = 18 ∨ n = 19 ∨ n = 20 ∨ n = 21 ∨ n = 22 ∨ n = 23 := by omega
 clear hlt c0 c1
 rcases hs with rfl | rfl | rfl | rfl | rfl | rfl | rfl | rfl | rfl | rfl | rfl | rfl | rfl | rfl | rfl | rfl | rfl | rfl | rfl | rfl | rfl | rfl | rfl | rfl
 all_goals
  go_enter Tryz.func18, Tryz.ntmps18
  go_wp2_with fail
  refine (HPK.out _).mono ?_
  rintro e w1 ⟨rfl, rfl⟩
  go_wp2
  go_ret
  exact ⟨congrArg (fun b => Ending.returned (Value.string b)) (by first | rfl | kernel_rfl), (Touch.refl _ _).alloc _⟩
end Go.Proofs.YtnmkmmgaoplfiaaGreatDoor
namespace Go.Proofs.YtnmkmmgaoplfiaaGreatDoor
open Go.RowKit Go.Shelf
theorem filesAt_owned {w : World} {base n cap : Nat} {a : Option Addr} {l : List Fil} (h : w.ownsRow base 39 2 (.slice a n cap) l.length (fileV l)) : n = l.length ∧ (0 < l.length → ∃ g, a = some ⟨g, 0, none⟩ ∧ FilesAt w g l ∧ g < w.heap.size ∧ base ≤ g ∧ l.length ≤ cap) := by
 obtain ⟨h1, ⟨h2, h3⟩ | ⟨g, cap', cur, e, hb, hg, h3, h4, h5, h6⟩⟩ := h
 ·cases h2
  exact ⟨h3.symm, fun h => by omega⟩
 ·cases e
  refine ⟨rfl, fun _ => ⟨g, rfl, fun i hi => ?_, (Array.getElem?_eq_some_iff.1 hg).1, hb, h3⟩⟩
  obtain ⟨e1, e2⟩ := fileV_get l i hi
  rw [← h6, List.getElem?_take_of_lt (by omega)] at e1 e2
  rw [cell_of_row w g _ cur _ _ hg, cell_of_row w g _ cur _ _ hg]
  exact ⟨by simpa using e1, by simpa using e2⟩
theorem find_fol (t : List UInt8) : ∀ acc : List (List UInt8), (findOf (acc.map folOf) ⟨t.toArray⟩).isSome = acc.contains t
 | [] => rfl
 | x :: acc => by
  rw [List.map_cons, findOf, List.contains_cons]
  by_cases h : x = t
  ·rw [if_pos (show (folOf x).1 = ⟨t.toArray⟩ by rw [h]; rfl), h]; simp
  ·rw [if_neg (fun e => h (by have := congrArg (fun b : ByteArray => b.data.toList) e; simpa [folOf] using this)), find_fol t acc]
   have : (t == x) = false := by rw [beq_eq_false_iff_ne]; exact fun e => h e.symm
   rw [this, Bool.false_or]
theorem folders_c (w : World) (a : Option Addr) (g cap n : Nat) (fl : List Fil) (hL : 0 < fl.length → a = some ⟨g, 0, none⟩ ∧ FilesAt w g fl) (hN : n = fl.length) (hn : fl.length ≤ 1000) (hs : ∀ f ∈ fl, f.1.size ≤ 60) :
  Calls Tryz.prog 10 #[.slice a n cap] w fun r w' => r = .returned (.int .i64 ((foldN (fl.map fun f => f.1.data.toList) []).length : Int)) ∧ Touch (fun _ => False) w w' := by
 obtain ⟨i0, hi, hz0, hz1, hz2⟩ := info_parts Tryz.infoFile
 have HN : Hid (n = fl.length) := hN
 have HL : Hid (0 < fl.length → a = some ⟨g, 0, none⟩ ∧ FilesAt w g fl) := hL
 obtain ⟨R, hR⟩ : ∃ R, R = foldN (fl.map fun f => f.1.data.toList) [] := ⟨_, rfl⟩
 rw [← hR]
 have HR : Hid (R = foldN ((fl.drop 0).map fun f => f.1.data.toList) []) := hR
 have HS : Hid (∀ f ∈ fl, f.1.size ≤ 60) := hs
 have hn' : n ≤ 1000 := by omega
 clear hL hN hn hR hs
 go_enter Tryz.func10, Tryz.ntmps10
 go_wp2
 go_loopw [3, 4] (fun v i wr => ∃ (k : Nat) (acc : List (List UInt8)), k ≤ n ∧ acc.length ≤ 60 * k ∧ i = .int .i64 (k : Int) ∧ wr.ownsRow w.heap.size 39 2 v acc.length (fileV (acc.map folOf)) ∧ Hid (R = foldN ((fl.drop k).map fun f => f.1.data.toList) acc) ∧ Touch (fun _ => False) w wr) (fun _ i _ => n - (intOf i).toNat)
 case atStart => exact ⟨0, [], Nat.zero_le _, Nat.zero_le _, rfl, World.ownsRow_nil _ _ _ _, HR, Touch.refl _ _⟩
 case round =>
  obtain ⟨k, acc, hk, hacc, rfl, hro, HK, T⟩ := hrel
  by_cases hlt : k < n
  ·have hlt' : k < fl.length := by have := HN.out; omega
   obtain ⟨rfl, hF⟩ := HL.out (by omega)
   have x1 := T.at (hF k hlt').1 (fun e => e)
   have hsz := HS.out fl[k] (List.getElem_mem hlt')
   have HX : Hid (R = foldN ((fl.drop (k + 1)).map fun f => f.1.data.toList) (foldIn fl[k].1.data.toList fl[k].1.data.toList.length 0 acc)) := by
    unfold Hid; rw [HK.out, List.drop_eq_getElem_cons hlt', List.map_cons, foldN]
   clear HK hF
   revert x1 hsz HX
   generalize fl[k].1 = p
   intro x1 hsz HX
   have hpl : p.data.toList.length = p.size := Array.length_toList
   rw [hpl] at HX
   obtain ⟨Fin, hFin⟩ : ∃ Fin, Fin = foldIn p.data.toList p.size 0 acc := ⟨_, rfl⟩
   rw [← hFin] at HX
   have HF0 : Hid (Fin = foldIn p.data.toList (p.size - 0) 0 acc) := hFin
   have HP : Hid (∀ z (h : z < p.size), p.data.toList[z]? = some p[z]) := fun z h => by
    rw [List.getElem?_eq_getElem (by omega)]; rfl
   have HT : Hid (∀ z, p.extract 0 (z + 1) = ⟨(p.data.toList.take (z + 1)).toArray⟩) := fun z => by
    apply ByteArray.ext
    apply Array.toList_inj.1
    rw [Lib.extract_data]; simp
   have i1 : (k : Int) < (n : Int) := by omega
   clear hFin hpl
   go_wp2
   go_loopw [3, 6] (fun v z wz => ∃ (q : Nat) (ac2 : List (List UInt8)), q ≤ p.size ∧ ac2.length ≤ 60 * k + q ∧ z = .int .i64 (q : Int) ∧ wz.ownsRow w.heap.size 39 2 v ac2.length (fileV (ac2.map folOf)) ∧ Hid (Fin = foldIn p.data.toList (p.size - q) q ac2) ∧ Touch (fun _ => False) w wz) (fun _ z _ => p.size - (intOf z).toNat)
   case atStart => exact ⟨0, acc, Nat.zero_le _, by omega, rfl, hro, HF0, T⟩
   case round =>
    obtain ⟨q, ac2, hq, ha2, rfl, hr2, HQ, T2⟩ := hrel
    obtain ⟨wz, hwz⟩ : ∃ wz, wz = wr := ⟨_, rfl⟩
    subst hwz
    have hws := T2.size
    by_cases hqp : q < p.size
    ·have j1 : (q : Int) < (p.size : Int) := by omega
     have hQ1 := HQ.out
     rw [show p.size - q = (p.size - (q + 1)) + 1 by omega, foldIn, HP.out q hqp] at hQ1
     by_cases h47 : p[q] = 47
     ·have g1 : (p[q].toNat : Int) = 47 := by rw [h47]; rfl
      have g2 : ((p[q].toNat : Int) == 47) = true := by rw [g1]; rfl
      rw [h47] at hQ1
      have j2 : (q : Int) + 1 ≤ (p.size : Int) := by omega
      obtain ⟨ao, cp, hv⟩ := owned_form hr2
      subst hv
      have hfa := (filesAt_owned (l := ac2.map folOf) (by rw [List.length_map]; exact hr2)).2
      rw [List.length_map] at hfa
      have HHS : Hid (Calls Tryz.prog 20 #[.slice ao ac2.length cp, .string (p.extract 0 (q + 1))] wz fun r w' => r = .returned (.bool (ac2.contains (p.data.toList.take (q + 1)))) ∧ wz = w') := by
       rw [HT.out q]
       by_cases h0 : 0 < ac2.length
       ·obtain ⟨gg, e1, e2, e3, e4, e5⟩ := hfa h0
        refine (has_c wz ao gg cp ac2.length (ac2.map folOf) _ (fun _ => ⟨e1, e2⟩) (by simp) (by simp; omega)).mono ?_
        rintro r w' ⟨rfl, rfl⟩
        rw [find_fol]
        exact ⟨rfl, rfl⟩
       ·refine (has_c wz ao 0 cp ac2.length (ac2.map folOf) _ (fun h => by simp at h; omega) (by simp) (by simp; omega)).mono ?_
        rintro r w' ⟨rfl, rfl⟩
        rw [find_fol]
        exact ⟨rfl, rfl⟩
      cases hcc : ac2.contains (p.data.toList.take (q + 1)) with
      | true =>
       rw [hcc] at HHS hQ1
       have HQ2 : Hid (Fin = foldIn p.data.toList (p.size - (q + 1)) (q + 1) ac2) := by
        unfold Hid; rw [hQ1, if_neg (by simp)]
       clear hQ1 HQ hfa hcc HP HT HF0 x1 h47
       go_wp2_with fail
       refine HHS.out.mono ?_
       rintro e w' ⟨rfl, rfl⟩
       go_wp2
       exact ⟨⟨q + 1, ac2, by omega, by omega, by go_num, hr2, HQ2, T2⟩, by simp [intOf]; omega⟩
      | false =>
       rw [hcc] at HHS hQ1
       have HQ2 : Hid (Fin = foldIn p.data.toList (p.size - (q + 1)) (q + 1) (ac2 ++ [p.data.toList.take (q + 1)])) := by
        unfold Hid; rw [hQ1, if_pos ⟨rfl, rfl⟩]
       have b1 : ac2.length + 1 ≤ maxLen := by unfold maxLen; omega
       have b2 : (ac2.length + 1) * 32 ≤ 140737488355328 := by omega
       have HFL : Hid ([Value.string (p.extract 0 (q + 1)), Value.string ⟨#[]⟩] = fileL (folOf (p.data.toList.take (q + 1)))) := by
        rw [HT.out q]; rfl
       clear hQ1 HQ hfa hcc HP HT HF0 x1 h47
       go_wp2_with fail
       refine HHS.out.mono ?_
       rintro e w' ⟨rfl, rfl⟩
       go_wp2_with (at_builtin; refine wpList_append_own _ rfl _ _ 24 rfl w.heap.size 39 i0 (.agg #[.string ⟨#[]⟩, .string ⟨#[]⟩]) 2 32 Tryz.underlying24 hi hz0 hz1 hz2 rfl (by decide) _ _ _ rfl (hr2.alloc _) ⟨wz.heap.size, 0, none⟩ 1 1 [.string (p.extract 0 (q + 1)), .string ⟨#[]⟩] rfl rfl (cell_two_new _ _ _ _) (by simp [Value.oneCell']) b1 b2 (by simp; omega) ?_; intro v' w2 hown' hgrow hnil)
       refine ⟨⟨q + 1, ac2 ++ [p.data.toList.take (q + 1)], by omega, by simp; omega, by go_num, ?_, HQ2, ?_⟩, by simp [intOf]; omega⟩
       ·rw [List.map_append, List.map_cons, List.map_nil, fileV_snoc, ← HFL.out, List.length_append]; exact hown'
       ·exact (T2.alloc _).grownNew hgrow (fun j hj => (hr2.lt j hj).1)
     ·have g1 : ¬ (p[q].toNat : Int) = 47 := fun e => h47 (UInt8.toNat_inj.1 (by simpa using (by omega : p[q].toNat = 47)))
      have g2 : ((p[q].toNat : Int) == 47) = false := by simpa using g1
      have HQ2 : Hid (Fin = foldIn p.data.toList (p.size - (q + 1)) (q + 1) ac2) := by
       unfold Hid; rw [hQ1, if_neg (fun h => h47 (Option.some.inj h.1))]
      clear hQ1 HQ
      go_wp2
      exact ⟨⟨q + 1, ac2, by omega, by omega, by go_num, hr2, HQ2, T2⟩, by simp [intOf]; omega⟩
    ·obtain rfl : p.size = q := by omega
     have j1 : ¬ (p.size : Int) < (p.size : Int) := by omega
     have hF := HQ.out
     rw [Nat.sub_self, foldIn] at hF
     subst hF
     clear HQ HF0
     go_wp2
     exact ⟨⟨k + 1, Fin, by omega, by omega, by go_num, hr2, HX, T2⟩, by simp [intOf]; omega⟩
  ·obtain rfl : n = k := by omega
   have hx := HK.out
   rw [List.drop_of_length_le (by have := HN.out; omega), List.map_nil, foldN] at hx
   subst hx
   obtain ⟨ao, cp, hv⟩ := owned_form hro
   subst hv
   have i1 : ¬ (n : Int) < (n : Int) := by omega
   clear HK HR
   go_wp2
   go_ret
   exact ⟨rfl, T⟩
end Go.Proofs.YtnmkmmgaoplfiaaGreatDoor
