/- Texts of this seat, joined. -/
import Derived.Test.YtmhlkdlcpicekaaGreatDoorJ12
import Derived.Test.YtmhlkdlcpicekaaGreatDoorJ17
import Derived.Maps.OwnSet
import Derived.Maps.OwnOps
import Derived.Maps.Views
import Derived.BigRegion
import Derived.Deep.AppendSrc
set_option linter.unusedSimpArgs false
set_option linter.unusedVariables false
set_option maxRecDepth 100000
set_option maxHeartbeats 20000000
namespace Go.Proofs.YtmhlkdlcpicekaaGreatDoor
open Go.RowKit Go.Shelf Go.Maps
def updU (U : List UInt8 → Nat) (k : List UInt8) (v : Nat) : List UInt8 → Nat := fun x => if x = k then v else U x
def MapIs (w : World) (B n : Nat) (U : List UInt8 → Nat) : Prop :=
 ∃ D : DataW Unit, w.ownsMap Tryz.prog 9 (plainElem Tryz.prog 230) B n D ∧ (∀ key, D.atKey (.string key) (.lit (.int .i64 0)) = .lit (.int .i64 (U key : Int))) ∧ ∀ key, U key ≤ 3
theorem zeroUse (w : World) : (zeroValue 230).run Tryz.prog w = .ok (.int .i64 0) w := by kernel_rfl
theorem MapIs.look {w : World} {B n : Nat} {U : List UInt8 → Nat} (h : MapIs w B n U) (s : ByteArray) (hs : s.size ≤ maxLen) :
  (Instr.lookup 183 (.map (some B)) (.string s) false).run Tryz.prog w = .ok (.int .i64 (U s.data.toList : Int)) w := by
 obtain ⟨D, ho, hU, _⟩ := h
 obtain ⟨c, hrun, hat, _⟩ := ho.lookup_int (string_keyed Tryz.underlying9) Tryz.underlying183 Tryz.underlying230 (zeroUse w) (Go.WideMaps.keyOf_string_mk Tryz.underlying9 hs)
 rw [hU] at hat
 cases hat
 exact hrun
theorem wf_small (v : Nat) (h : v ≤ 3) : (Lit.int .i64 (v : Int)).wf = true := by
 rcases (by omega : v = 0 ∨ v = 1 ∨ v = 2 ∨ v = 3) with rfl | rfl | rfl | rfl <;> decide
theorem MapIs.put {w : World} {B n : Nat} {U : List UInt8 → Nat} (h : MapIs w B n U) (s : ByteArray) (hs : s.size ≤ maxLen) (hn : n < maxLen) (v : Nat) (hv : v ≤ 3) :
  ∃ w', (Instr.mapUpdate 183 (.map (some B)) (.string s) (.int .i64 (v : Int))).run Tryz.prog w = .ok () w' ∧ MapIs w' B (n + 1) (updU U s.data.toList v) ∧ w.grownBy w' (some B) := by
 obtain ⟨D, ho, hU, hb⟩ := h
 have hkey := Go.WideMaps.keyOf_string_mk Tryz.underlying9 hs
 obtain ⟨w', hrun, ho', hg⟩ := ho.update (string_keyed Tryz.underlying9) Tryz.underlying183 hn hkey (plainElem_int Tryz.underlying230 (wf_small v hv))
 refine ⟨w', hrun, ⟨_, ho', fun key => ?_, fun key => ?_⟩, hg⟩
 ·unfold updU
  by_cases e : key = s.data.toList
  ·rw [if_pos e, e]; exact atKey_put_same ho.isMap ((string_keyed Tryz.underlying9).key hkey) _ _
  ·rw [if_neg e, atKey_put_other (by intro h; cases h; exact e rfl)]; exact hU key
 ·unfold updU; split
  ·exact hv
  ·exact hb key
theorem MapIs.keep {w w' : World} {S : Nat → Prop} {B n : Nat} {U : List UInt8 → Nat} (h : MapIs w B n U) (ht : Touch S w w') (hs : ¬ S B) : MapIs w' B n U := by
 obtain ⟨D, ho, hU, hb⟩ := h
 refine ⟨D, ?_, hU, hb⟩
 have hl := ho.lt
 obtain ⟨es, clock, h1, h2⟩ := ho
 exact ⟨es, clock, (ht.block B hl hs).trans h1, h2⟩
theorem MapIs.lt {w : World} {B n : Nat} {U : List UInt8 → Nat} (h : MapIs w B n U) : B < w.heap.size := by obtain ⟨D, ho, _⟩ := h; exact ho.lt
theorem MapIs.new (w : World) : MapIs (w.alloc (.map #[] 0)) w.heap.size 0 (fun _ => 0) := ⟨_, World.ownsMap_made w _ _ _, fun _ => rfl, fun _ => Nat.zero_le _⟩
theorem touch_grown {w w' : World} {B : Nat} (h : w.grownBy w' (some B)) : Touch (fun k => k = B) w w' := (Touch.refl (fun k => k = B) w).grown h (fun k e => by cases e; rfl)
def leadTo (p : List UInt8) : Nat → Nat → (List UInt8 → Nat) → Option (List UInt8 → Nat)
 | 0, _, U => some U
 | f + 1, i, U => if p[i]? = some 47 then (if U (p.take i) = 3 then none else leadTo p f (i + 1) (updU U (p.take i) (max (U (p.take i)) 1))) else leadTo p f (i + 1) U
def claimOf (U : List UInt8 → Nat) (s : ByteArray) : Option (List UInt8 → Nat) :=
 (leadTo (bareL s) (bareL s).length 0 U).bind fun V => if V (bareL s) > 1 ∨ (V (bareL s) = 1 ∧ folderB s = false) then none else some (updU V (bareL s) (if folderB s then 2 else 3))
theorem claim_c (w : World) (B n : Nat) (U : List UInt8 → Nat) (s : ByteArray) (hs : s.size ≤ 60) (hn : n ≤ 1000000000000) (hM : MapIs w B n U) :
  Calls Tryz.prog 90 #[.map (some B), .string s] w fun r w' => r = .returned (.bool (claimOf U s).isSome) ∧ (∀ V, claimOf U s = some V → MapIs w' B (n + 61) V) ∧ Touch (fun k => k = B) w w' := by
 have HP : Hid (∀ W, Calls Tryz.prog 126 #[.string s] W fun e w' => e = .returned (.string ⟨(bareL s).toArray⟩) ∧ W = w') := fun W => pathOf_c W s (by omega)
 have HD : Hid (∀ W, Calls Tryz.prog 64 #[.string s] W fun r w' => r = .returned (.bool (folderB s)) ∧ W = w') := fun W => isFolder_c W s (by omega)
 have hz := bare_size s
 have hp : (⟨(bareL s).toArray⟩ : ByteArray).data.toList = bareL s := rfl
 have HC : Hid (claimOf U s = (leadTo (bareL s) (bareL s).length 0 U).bind fun V => if V (bareL s) > 1 ∨ (V (bareL s) = 1 ∧ folderB s = false) then none else some (updU V (bareL s) (if folderB s then 2 else 3))) := rfl
 revert HP hz hp HC
 generalize claimOf U s = R
 generalize bareL s = p
 intro HP hz hp HC
 obtain ⟨P, hP⟩ : ∃ P : ByteArray, P = ⟨p.toArray⟩ := ⟨_, rfl⟩
 rw [← hP] at HP hz hp
 have hl : p.length = P.size := by rw [hP]; show _ = p.toArray.size; simp
 have hl60 : p.length ≤ 60 := by omega
 have HL : Hid (p.length = P.size) := hl
 have HPp : Hid (P.data.toList = p) := hp
 have e0 : ∀ i, (P.extract 0 i).data.toList = p.take i := by intro i; rw [← hp]; simp [ByteArray.data_extract]
 have HT : Hid (∀ i, (P.extract 0 i).data.toList = p.take i) := e0
 have HG : Hid (∀ i (h : i < P.size), p[i]? = some P[i]) := by
  intro i h
  rw [← hp]; simp [h]; rfl
 clear hP hp e0 hl
 go_enter Tryz.func90, Tryz.ntmps90
 go_wp2_with fail
 refine (HP.out _).mono ?_
 rintro e w' ⟨rfl, rfl⟩
 go_wp2
 go_loopw [12] (fun i wr => ∃ k : Nat, k ≤ P.size ∧ i = .int .i64 (k : Int) ∧ (∃ V, MapIs wr B (n + k) V ∧ Hid (leadTo p p.length 0 U = leadTo p (p.length - k) k V)) ∧ Touch (fun k => k = B) w wr) (fun i wr => P.size - (intOf i).toNat)
 case atStart => exact ⟨0, Nat.zero_le _, rfl, ⟨U, hM, rfl⟩, Touch.refl _ _⟩
 case round =>
  obtain ⟨k, hk, rfl, ⟨V, hV, HV⟩, ht⟩ := hrel
  by_cases hlt : k < P.size
  ·have hg := HG.out k hlt
   have HS : Hid (leadTo p p.length 0 U = if p[k]? = some 47 then (if V (p.take k) = 3 then none else leadTo p (p.length - (k + 1)) (k + 1) (updU V (p.take k) (max (V (p.take k)) 1))) else leadTo p (p.length - (k + 1)) (k + 1) V) := by
    unfold Hid; rw [HV.out, show p.length - k = (p.length - (k + 1)) + 1 by have := HL.out; omega]; rfl
   by_cases h47 : (P[k].toNat : Int) = 47
   ·have hb : p[k]? = some 47 := by rw [hg]; congr 1; apply UInt8.toNat_inj.1; simpa using (by omega : P[k].toNat = 47)
    have h47' : ((P[k].toNat : Int) != 47) = false := by simpa using h47
    have q1 := hV.look (P.extract 0 k) (by rw [ByteArray.size_extract]; unfold maxLen; omega)
    rw [HT.out k] at q1
    have kl : (k : Int) ≤ (P.size : Int) := by omega
    by_cases h3 : (V (p.take k) : Int) = 3
    ·have HE : Hid (R = none) := by
      unfold Hid; rw [HC.out, HS.out, if_pos hb, if_pos (by omega)]; rfl
     rw [h3] at q1
     clear hg HS h3
     go_wp2
     go_ret
     exact ⟨by rw [HE.out]; rfl, (fun V h => by rw [HE.out] at h; cases h), ht⟩
    ·obtain ⟨w2, q2, hV2, hg2⟩ := MapIs.put (w := wr.drew) hV (P.extract 0 k) (by rw [ByteArray.size_extract]; unfold maxLen; omega) (by unfold maxLen; omega) (max (V (p.take k)) 1) (by obtain ⟨_, _, _, hb⟩ := hV; have := hb (p.take k); omega)
     rw [HT.out k] at hV2
     rw [show ((max (V (p.take k)) 1 : Nat) : Int) = max (V (p.take k) : Int) 1 by omega] at q2
     have q1' : (Instr.lookup 183 (.map (some B)) (.string (P.extract 0 k)) false).run Tryz.prog wr.drew = .ok (.int .i64 (V (p.take k) : Int)) wr.drew := by
      have := MapIs.look (w := wr.drew) hV (P.extract 0 k) (by rw [ByteArray.size_extract]; unfold maxLen; omega)
      rw [HT.out k] at this; exact this
     have T2 : Touch (fun k => k = B) w w2 := ht.drew.trans (touch_grown hg2)
     have HS' : Hid (leadTo p p.length 0 U = leadTo p (p.length - (k + 1)) (k + 1) (updU V (p.take k) (max (V (p.take k)) 1))) := by
      unfold Hid; rw [HS.out, if_pos hb, if_neg (by omega)]
     have h3' : ((V (p.take k) : Int) == 3) = false := by simpa using h3
     clear hg HS hg2
     go_wp2
     go_region
     all_goals
      go_wp2
      go_roundw
      case rel => exact ⟨k + 1, by omega, by go_num, ⟨_, hV2, HS'⟩, T2⟩
      case measure => simp [intOf]; omega
   ·have hb : ¬ p[k]? = some 47 := by
     rw [hg]; intro e; apply h47; rw [Option.some.inj e]; rfl
    have h47' : ((P[k].toNat : Int) != 47) = true := by simpa using h47
    have HS' : Hid (leadTo p p.length 0 U = leadTo p (p.length - (k + 1)) (k + 1) V) := by
     unfold Hid; rw [HS.out, if_neg hb]
    clear hg HS
    go_wp2
    exact ⟨⟨k + 1, by omega, by go_num, ⟨V, by obtain ⟨D, h1, h2, h3⟩ := hV; exact ⟨D, h1.mono (by omega), h2, h3⟩, HS'⟩, ht⟩, by simp [intOf]; omega⟩
  ·obtain rfl : k = P.size := by omega
   have HE : Hid (R = if V p > 1 ∨ (V p = 1 ∧ folderB s = false) then none else some (updU V p (if folderB s then 2 else 3))) := by
    unfold Hid; rw [HC.out, HV.out, show p.length - P.size = 0 by have := HL.out; omega]; rfl
   have q1 := hV.look P (by unfold maxLen; omega)
   rw [HPp.out] at q1
   cases hf : folderB s with
   | true =>
    rw [hf] at HE
    obtain ⟨w3, q3, hV3, hg3⟩ := hV.put P (by unfold maxLen; omega) (by unfold maxLen; omega) 2 (by omega)
    rw [HPp.out] at hV3
    have q3' : (Instr.mapUpdate 183 (.map (some B)) (.string P) (.int .i64 2)).run Tryz.prog wr = .ok () w3 := q3
    clear q3
    have T3 : Touch (fun k => k = B) w w3 := ht.trans (touch_grown hg3)
    have hV4 : MapIs w3 B (n + 61) (updU V p 2) := by obtain ⟨D, h1, h2, h3⟩ := hV3; exact ⟨D, h1.mono (by have := HL.out; omega), h2, h3⟩
    clear hg3 hV3
    by_cases v1 : (1 : Int) < (V p : Int)
    ·have HN : Hid (R = none) := by unfold Hid; rw [HE.out, if_pos (by omega)]
     go_wp2_with fail
     refine (HD.out _).mono ?_
     rintro e w' ⟨rfl, rfl⟩
     rw [hf]
     go_wp2
     go_ret
     exact ⟨by rw [HN.out]; rfl, (fun V h => by rw [HN.out] at h; cases h), ht⟩
    ·have HN : Hid (R = some (updU V p 2)) := by unfold Hid; rw [HE.out, if_neg (by simp; omega)]; rfl
     by_cases v0 : (V p : Int) = 1
     ·rw [v0] at q1
      clear v1 v0
      go_wp2_with fail
      refine (HD.out _).mono ?_
      rintro e w' ⟨rfl, rfl⟩
      rw [hf]
      go_wp2
      go_ret
      exact ⟨by rw [HN.out]; rfl, (fun V' h => by rw [HN.out] at h; cases h; exact hV4), T3⟩
     ·have v0' : ((V p : Int) == 1) = false := by simpa using v0
      go_wp2_with fail
      refine (HD.out _).mono ?_
      rintro e w' ⟨rfl, rfl⟩
      rw [hf]
      go_wp2
      go_ret
      exact ⟨by rw [HN.out]; rfl, (fun V' h => by rw [HN.out] at h; cases h; exact hV4), T3⟩
   | false =>
    rw [hf] at HE
    obtain ⟨w3, q3, hV3, hg3⟩ := hV.put P (by unfold maxLen; omega) (by unfold maxLen; omega) 3 (by omega)
    rw [HPp.out] at hV3
    have q3' : (Instr.mapUpdate 183 (.map (some B)) (.string P) (.int .i64 3)).run Tryz.prog wr = .ok () w3 := q3
    clear q3
    have T3 : Touch (fun k => k = B) w w3 := ht.trans (touch_grown hg3)
    have hV4 : MapIs w3 B (n + 61) (updU V p 3) := by obtain ⟨D, h1, h2, h3⟩ := hV3; exact ⟨D, h1.mono (by have := HL.out; omega), h2, h3⟩
    clear hg3 hV3
    by_cases v1 : (1 : Int) < (V p : Int)
    ·have HN : Hid (R = none) := by unfold Hid; rw [HE.out, if_pos (by omega)]
     go_wp2_with fail
     refine (HD.out _).mono ?_
     rintro e w' ⟨rfl, rfl⟩
     rw [hf]
     go_wp2
     go_ret
     exact ⟨by rw [HN.out]; rfl, (fun V h => by rw [HN.out] at h; cases h), ht⟩
    ·by_cases v0 : (V p : Int) = 1
     ·have HN : Hid (R = none) := by unfold Hid; rw [HE.out, if_pos (by simp; omega)]
      rw [v0] at q1
      clear v1 v0
      go_wp2_with fail
      refine (HD.out _).mono ?_
      rintro e w' ⟨rfl, rfl⟩
      rw [hf]
      go_wp2
      go_ret
      exact ⟨by rw [HN.out]; rfl, (fun V h => by rw [HN.out] at h; cases h), ht⟩
     ·have HN : Hid (R = some (updU V p 3)) := by unfold Hid; rw [HE.out, if_neg (by simp; omega)]; rfl
      have v0' : ((V p : Int) == 1) = false := by simpa using v0
      go_wp2_with fail
      refine (HD.out _).mono ?_
      rintro e w' ⟨rfl, rfl⟩
      rw [hf]
      go_wp2
      go_ret
      exact ⟨by rw [HN.out]; rfl, (fun V' h => by rw [HN.out] at h; cases h; exact hV4), T3⟩
end Go.Proofs.YtmhlkdlcpicekaaGreatDoor
namespace Go.Proofs.YtmhlkdlcpicekaaGreatDoor
open Go.RowKit Go.Shelf Go.Maps
def SetIs (w : World) (B n : Nat) (K : List (List UInt8)) : Prop :=
 ∃ D : DataW Unit, w.ownsMap Tryz.prog 9 (unitElem (H := Unit)) B n D ∧ ∀ key, Maps.has D (.string key) = K.contains key
theorem zeroUnit (w : World) : (zeroValue 78).run Tryz.prog w = .ok (.agg #[]) w := by kernel_rfl
theorem SetIs.look {w : World} {B n : Nat} {K : List (List UInt8)} (h : SetIs w B n K) (s : ByteArray) (hs : s.size ≤ maxLen) :
  (Instr.lookup 149 (.map (some B)) (.string s) true).run Tryz.prog w = .ok (.tuple #[.agg #[], .bool (K.contains s.data.toList)]) w := by
 obtain ⟨D, ho, hU⟩ := h
 obtain ⟨v, ps, hrun, hv⟩ := ho.look_ok (string_keyed Tryz.underlying9) Tryz.underlying149 (zeroUnit w) unitElem_mk (Go.WideMaps.keyOf_string_mk Tryz.underlying9 hs)
 obtain ⟨rfl, _⟩ := unitElem_inv hv
 rw [hU] at hrun
 exact hrun
theorem SetIs.put {w : World} {B n : Nat} {K : List (List UInt8)} (h : SetIs w B n K) (s : ByteArray) (hs : s.size ≤ maxLen) (hn : n < maxLen) :
  ∃ w', (Instr.mapUpdate 149 (.map (some B)) (.string s) (.agg #[])).run Tryz.prog w = .ok () w' ∧ SetIs w' B (n + 1) (K ++ [s.data.toList]) ∧ w.grownBy w' (some B) := by
 obtain ⟨D, ho, hU⟩ := h
 have hkey := Go.WideMaps.keyOf_string_mk Tryz.underlying9 hs
 obtain ⟨w', hrun, ho', hg⟩ := ho.update (string_keyed Tryz.underlying9) Tryz.underlying149 hn hkey unitElem_mk
 refine ⟨w', hrun, ⟨_, ho', fun key => ?_⟩, hg⟩
 by_cases e : key = s.data.toList
 ·rw [e, has_put_same ho.isMap ((string_keyed Tryz.underlying9).key hkey)]; simp
 ·rw [has_put_other (by intro h; cases h; exact e rfl), hU key]
  simp [e]
theorem SetIs.keep {w w' : World} {S : Nat → Prop} {B n : Nat} {K : List (List UInt8)} (h : SetIs w B n K) (ht : Touch S w w') (hs : ¬ S B) : SetIs w' B n K := by
 obtain ⟨D, ho, hU⟩ := h
 refine ⟨D, ?_, hU⟩
 have hl := ho.lt
 obtain ⟨es, clock, h1, h2⟩ := ho
 exact ⟨es, clock, (ht.block B hl hs).trans h1, h2⟩
theorem SetIs.mono {w : World} {B n m : Nat} {K : List (List UInt8)} (h : SetIs w B n K) (hm : n ≤ m) : SetIs w B m K := by
 obtain ⟨D, ho, hU⟩ := h; exact ⟨D, ho.mono hm, hU⟩
theorem SetIs.new (w : World) : SetIs (w.alloc (.map #[] 0)) w.heap.size 0 [] := ⟨_, World.ownsMap_made w _ _ _, fun _ => rfl⟩
theorem SetIs.lt {w : World} {B n : Nat} {K : List (List UInt8)} (h : SetIs w B n K) : B < w.heap.size := by obtain ⟨D, ho, _⟩ := h; exact ho.lt
def foldIn (nm : List UInt8) : Nat → Nat → List (List UInt8) → List (List UInt8)
 | 0, _, acc => acc
 | f + 1, i, acc => foldIn nm f (i + 1) (if nm[i]? = some 47 ∧ acc.contains (nm.take (i + 1)) = false then acc ++ [nm.take (i + 1)] else acc)
def foldAll : List Spanned → List (List UInt8) → List (List UInt8)
 | [], acc => acc
 | x :: l, acc => foldAll l (foldIn x.ent.name.data.toList x.ent.name.size 0 acc)
def folOf (p : List UInt8) : ByteArray × List UInt8 := (⟨p.toArray⟩, [])
theorem foldersOf_c (w : World) (a : Option Addr) (g cap : Nat) (L : List Spanned) (ha : 0 < L.length → a = some ⟨g, 0, none⟩) (hl : 0 < L.length → EntsAt w g L) (hn : L.length ≤ 1000000000) (hok : ∀ x ∈ L, x.ent.name.size ≤ 60) :
  Calls Tryz.prog 31 #[.slice a L.length cap] w fun r w' => ∃ v, r = .returned v ∧ w'.ownsRow (w.heap.size + 1) 41 2 v (foldAll L []).length (fileV ((foldAll L []).map folOf)) ∧ (foldAll L []).length ≤ 60 * L.length ∧ Touch (fun _ => False) w w' := by
 obtain ⟨i0, hi, hz0, hz1, hz2⟩ := info_parts Tryz.infoFile
 obtain ⟨n, hN⟩ : ∃ n, n = L.length := ⟨_, rfl⟩
 rw [← hN]
 have ha' : Hid (0 < L.length → a = some ⟨g, 0, none⟩) := ha
 have hl' : Hid (0 < L.length → EntsAt w g L) := hl
 have hN' : Hid (n = L.length) := hN
 have hn' : n ≤ 1000000000 := by omega
 obtain ⟨R, hR⟩ : ∃ R, R = foldAll L [] := ⟨_, rfl⟩
 have HR : Hid (R = foldAll (L.drop 0) []) := hR
 rw [← hR]
 have hmm := @run_makeMap Tryz.prog
 have T0 : Touch (fun _ => False) w (w.alloc (.map #[] 0)) := (Touch.refl _ w).alloc _
 have M0 := SetIs.new w
 clear ha hl hN hn hR
 go_enter Tryz.func31, Tryz.ntmps31
 go_wp2
 go_loopw [3, 14] (fun v i wr => ∃ (k : Nat) (acc : List (List UInt8)), k ≤ n ∧ acc.length ≤ 60 * k ∧ i = .int .i64 (k : Int) ∧ SetIs wr w.heap.size (60 * k) acc ∧ wr.ownsRow (w.heap.size + 1) 41 2 v acc.length (fileV (acc.map folOf)) ∧ Hid (R = foldAll (L.drop k) acc) ∧ Touch (fun _ => False) w wr) (fun v i wr => n - (intOf i).toNat)
 case atStart => exact ⟨0, [], Nat.zero_le _, Nat.zero_le _, rfl, M0, World.ownsRow_nil _ _ _ _, HR, T0⟩
 case round =>
  obtain ⟨k, acc, hk, hacc, rfl, hset, hro, HK, ht⟩ := hrel
  have hsB := hset.lt
  by_cases hlt : k < n
  ·have hlt' : k < L.length := by have := hN'.out; omega
   obtain rfl := ha'.out (by omega)
   have hE := (hl'.out (by omega)).keep ht (fun e => e)
   have hC := hE.cells k hlt'
   have HX : Hid (R = foldAll (L.drop (k + 1)) (foldIn L[k].ent.name.data.toList L[k].ent.name.size 0 acc)) := by
    unfold Hid; rw [HK.out, List.drop_eq_getElem_cons hlt']; rfl
   have hns := hok L[k] (List.getElem_mem hlt')
   revert hC HX hns
   generalize L[k] = x
   intro hC HX hns
   have c0 := hC 0 (by omega)
   have c1 := hC 1 (by omega)
   have c2 := hC 2 (by omega)
   have c3 := hC 3 (by omega)
   have c4 := hC 4 (by omega)
   have c5 := hC 5 (by omega)
   simp only [entL, List.getElem?_cons_zero, List.getElem?_cons_succ, Nat.add_zero] at c0 c1 c2 c3 c4 c5
   have bx := heap_alloc_new wr (Obj.cells #[.string x.ent.name, .int .i64 (x.ent.method : Int), .int .u32 (x.ent.sum : Int), .int .i64 (x.ent.packed : Int), .int .i64 (x.ent.size : Int), .int .i64 (x.place : Int)] 134)
   have hset1 := hset.keep ((Touch.refl (fun _ => False) wr).alloc (Obj.cells #[.string x.ent.name, .int .i64 (x.ent.method : Int), .int .u32 (x.ent.sum : Int), .int .i64 (x.ent.packed : Int), .int .i64 (x.ent.size : Int), .int .i64 (x.place : Int)] 134)) (fun e => e)
   have hro1 := hro.alloc (Obj.cells #[.string x.ent.name, .int .i64 (x.ent.method : Int), .int .u32 (x.ent.sum : Int), .int .i64 (x.ent.packed : Int), .int .i64 (x.ent.size : Int), .int .i64 (x.place : Int)] 134)
   have ht1 := ht.alloc (Obj.cells #[.string x.ent.name, .int .i64 (x.ent.method : Int), .int .u32 (x.ent.sum : Int), .int .i64 (x.ent.packed : Int), .int .i64 (x.ent.size : Int), .int .i64 (x.place : Int)] 134)
   obtain ⟨nl, hnl⟩ : ∃ nl, nl = x.ent.name.data.toList := ⟨_, rfl⟩
   have HT : Hid (∀ i, (x.ent.name.extract 0 i).data.toList = nl.take i) := by intro i; rw [hnl]; simp [ByteArray.data_extract]
   have HG : Hid (∀ i (h : i < x.ent.name.size), nl[i]? = some x.ent.name[i]) := by intro i h; rw [hnl]; simp [h]; rfl
   rw [← hnl] at HX
   have hEB : w.heap.size < wr.heap.size := hsB
   clear hC hlt' hE hnl HK
   go_wp2
   go_loopw [3, 21] (fun v i wi => ∃ (j : Nat) (ac : List (List UInt8)), j ≤ x.ent.name.size ∧ ac.length ≤ 60 * k + j ∧ i = .int .i64 (j : Int) ∧ SetIs wi w.heap.size (60 * k + j) ac ∧ wi.ownsRow (w.heap.size + 1) 41 2 v ac.length (fileV (ac.map folOf)) ∧ wi.heap[wr.heap.size]? = some (Obj.cells #[.string x.ent.name, .int .i64 (x.ent.method : Int), .int .u32 (x.ent.sum : Int), .int .i64 (x.ent.packed : Int), .int .i64 (x.ent.size : Int), .int .i64 (x.place : Int)] 134) ∧ Hid (foldIn nl x.ent.name.size 0 acc = foldIn nl (x.ent.name.size - j) j ac) ∧ Touch (fun _ => False) w wi) (fun v i wi => x.ent.name.size - (intOf i).toNat)
   case atStart => exact ⟨0, acc, Nat.zero_le _, hacc, rfl, hset1, hro1, bx, rfl, ht1⟩
   case round =>
    obtain ⟨j, ac, hj, hac, rfl, hset2, hro2, bx2, HJ, ht2⟩ := hrel
    have nc := row_cell bx2 0
    have nc' : wr.cell? ⟨_, 0, none⟩ = some (.string x.ent.name) := nc.trans rfl
    have hEl := (Array.getElem?_eq_some_iff.1 bx2).1
    clear nc hset1 hro1 bx ht1 hset hro ht c0 c1 c2 c3 c4 c5 hsB
    have hsB := hset2.lt
    by_cases hjl : j < x.ent.name.size
    ·have hg := HG.out j hjl
     have HS : Hid (foldIn nl x.ent.name.size 0 acc = foldIn nl (x.ent.name.size - (j + 1)) (j + 1) (if nl[j]? = some 47 ∧ ac.contains (nl.take (j + 1)) = false then ac ++ [nl.take (j + 1)] else ac)) := by
      unfold Hid; rw [HJ.out, show x.ent.name.size - j = (x.ent.name.size - (j + 1)) + 1 by omega]; rfl
     by_cases h47 : (x.ent.name[j].toNat : Int) = 47
     ·have hb : nl[j]? = some 47 := by rw [hg]; congr 1; apply UInt8.toNat_inj.1; simpa using (by omega : x.ent.name[j].toNat = 47)
      have h47' : ((x.ent.name[j].toNat : Int) != 47) = false := by simpa using h47
      have jl : (j : Int) + 1 ≤ (x.ent.name.size : Int) := by omega
      have q1 := hset2.look (x.ent.name.extract 0 (j + 1)) (by rw [ByteArray.size_extract]; unfold maxLen; omega)
      rw [HT.out (j + 1)] at q1
      cases hcn : ac.contains (nl.take (j + 1)) with
      | true =>
       rw [hcn] at q1 HS
       rw [if_neg (by simp)] at HS
       clear hg HJ
       go_wp2
       exact ⟨⟨j + 1, ac, by omega, by omega, by go_num, (hset2.mono (by omega)).keep ((Touch.refl (fun _ => False) wr).alloc _) (fun e => e), hro2.alloc _, (Below.heap_alloc _ _ _ hEl).trans bx2, HS, ht2.alloc _⟩, by simp [intOf]; omega⟩
      | false =>
       rw [hcn] at q1 HS
       rw [if_pos ⟨hb, rfl⟩] at HS
       have hset3 := hset2.keep ((Touch.refl (fun _ => False) wr).alloc (Obj.cells #[] 78)) (fun e => e)
       obtain ⟨w2, q2, hset4, hg2⟩ := hset3.put (x.ent.name.extract 0 (j + 1)) (by rw [ByteArray.size_extract]; unfold maxLen; omega) (by unfold maxLen; omega)
       rw [HT.out (j + 1)] at hset4
       have t2 := touch_grown hg2
       have hro3 := t2.owns (hro2.alloc (Obj.cells #[] 78)) (fun q hq e => by have h1 := (hro2.lt q hq).1; have h2 : q = w.heap.size := e; omega)
       have bx3 := (t2.block _ (by simp; omega) (by intro e; have h2 := (show _ = w.heap.size from e); omega)).trans ((Below.heap_alloc _ (Obj.cells #[] 78) _ hEl).trans bx2)
       have T2 : Touch (fun _ => False) w w2 := (ht2.alloc _).onNew t2 (Nat.le_refl _)
       have hEl2 := (Array.getElem?_eq_some_iff.1 bx3).1
       have hsz2 : w.heap.size + 1 ≤ w2.heap.size := by have := hset4.lt; omega
       have b1 : ac.length + 1 ≤ maxLen := by unfold maxLen; omega
       have b2 : (ac.length + 1) * 32 ≤ 140737488355328 := by omega
       obtain ⟨P, hP⟩ : ∃ P, P = x.ent.name.extract 0 (j + 1) := ⟨_, rfl⟩
       have HFL : Hid ([Value.string P, Value.string ⟨#[]⟩] = fileL (folOf (nl.take (j + 1)))) := by
        unfold Hid; rw [hP]; unfold fileL folOf
        rw [← HT.out (j + 1)]
       have HPL : Hid (P = x.ent.name.extract 0 (j + 1)) := hP
       clear hg HJ hset3 hg2 t2 hP
       go_wp2_with (at_builtin; refine wpList_append_own _ rfl _ _ 30 rfl (w.heap.size + 1) 41 i0 (.agg #[.string ⟨#[]⟩, .string ⟨#[]⟩]) 2 32 Tryz.underlying30 hi hz0 hz1 hz2 rfl (by decide) _ _ _ rfl (hro3.alloc _) ⟨w2.heap.size, 0, none⟩ 1 1 [.string (x.ent.name.extract 0 (j + 1)), .string ⟨#[]⟩] rfl rfl (cell_two_new _ _ _ _) (by simp [Value.oneCell']) b1 b2 (by simp; omega) ?_; intro v' w3 hown' hgrow hnil)
       have hrowB : ∀ q, u3.ownBlock = some q → w.heap.size + 1 ≤ q := fun q hq => (hro2.lt q hq).1
       have TB : Touch (fun q => u3.ownBlock = some q) (w2.alloc (Obj.cells #[.string (x.ent.name.extract 0 (j + 1)), .string ⟨#[]⟩] 41)) w3 := (Touch.refl _ _).grown hgrow (fun q hq => hq)
       refine ⟨⟨j + 1, ac ++ [nl.take (j + 1)], by omega, by simp; omega, by go_num, ?_, ?_, ?_, HS, ?_⟩, by simp [intOf]; omega⟩
       ·refine (hset4.keep ((Touch.refl (fun _ => False) w2).alloc _) (fun e => e)).keep TB (fun e => ?_)
        have := hrowB _ e; omega
       ·rw [List.map_append, List.length_append]
        show w3.ownsRow _ _ _ v' _ (fileV (ac.map folOf ++ [folOf (nl.take (j + 1))]))
        rw [fileV_snoc, ← HFL.out, HPL.out]; exact hown'
       ·refine (TB.block _ (by simp; omega) (fun e => ?_)).trans ((Below.heap_alloc _ _ _ hEl2).trans bx3)
        have h1 := Typed.owned (hro3.alloc (Obj.cells #[.string (x.ent.name.extract 0 (j + 1)), .string ⟨#[]⟩] 41)) e
        have h2 := h1.ne ⟨_, _, (Below.heap_alloc _ _ _ hEl2).trans bx3⟩
        exact absurd h2 (by decide)
       ·exact (T2.alloc _).grownNew hgrow (fun q hq => by have := hrowB q hq; omega)
     ·have hb : ¬ nl[j]? = some 47 := by rw [hg]; intro e; apply h47; rw [Option.some.inj e]; rfl
      have h47' : ((x.ent.name[j].toNat : Int) != 47) = true := by simpa using h47
      rw [if_neg (by intro h; exact hb h.1)] at HS
      clear hg HJ
      go_wp2
      exact ⟨⟨j + 1, ac, by omega, by omega, by go_num, hset2.mono (by omega), hro2, bx2, HS, ht2⟩, by simp [intOf]; omega⟩
    ·obtain rfl : j = x.ent.name.size := by omega
     have HE : Hid (R = foldAll (L.drop (k + 1)) ac) := by unfold Hid; rw [HX.out, HJ.out, Nat.sub_self]; rfl
     go_wp2
     exact ⟨⟨k + 1, ac, by omega, by omega, by go_num, hset2.mono (by omega), hro2, HE, ht2⟩, by simp [intOf]; omega⟩
  ·obtain rfl : k = n := by omega
   have HE : Hid (R = acc) := by unfold Hid; rw [HK.out, List.drop_of_length_le (by have := hN'.out; omega)]; rfl
   go_wp2
   go_ret
   exact ⟨_, rfl, by rw [HE.out]; exact hro, by rw [HE.out]; exact hacc, ht⟩
end Go.Proofs.YtmhlkdlcpicekaaGreatDoor
namespace Go.Proofs.YtmhlkdlcpicekaaGreatDoor
open Go.RowKit Go.Shelf Go.Lib Go.Sort
def rk (c : UInt8) : Nat := if c = 47 then 0 else c.toNat
def cmpP : List UInt8 → List UInt8 → Int
 | a :: l, b :: m => if a = b then cmpP l m else Lib.compareInt (rk a : Int) (rk b : Int)
 | [], [] => 0
 | [], _ :: _ => -1
 | _ :: _, [] => 1
theorem nanB_c (w : World) (x : Int) : Calls Tryz.prog 175 #[.int .u8 x] w fun e w' => e = .returned (.bool false) ∧ w' = w := by
 go_enter Tryz.func175, Tryz.ntmps175
 go_wp2
 go_ret
 exact ⟨by simp, rfl⟩
theorem cmpB_c (w : World) (x y : Int) : Calls Tryz.prog 114 #[.int .u8 x, .int .u8 y] w fun e w' => e = .returned (.int .i64 (Lib.compareInt x y)) ∧ w' = w := by
 have HN : Hid (∀ W x, Calls Tryz.prog 175 #[.int .u8 x] W fun e w' => e = .returned (.bool false) ∧ W = w') := fun W x => (nanB_c W x).mono fun _ _ h => ⟨h.1, h.2.symm⟩
 unfold Lib.compareInt
 by_cases h1 : x < y
 ·rw [if_pos h1]
  go_enter Tryz.func114, Tryz.ntmps114
  go_wp2_with fail
  refine (HN.out _ _).mono ?_
  rintro e w' ⟨rfl, rfl⟩
  go_wp2_with fail
  refine (HN.out _ _).mono ?_
  rintro e w' ⟨rfl, rfl⟩
  go_wp2
  go_ret
  exact ⟨rfl, rfl⟩
 ·rw [if_neg h1]
  by_cases h2 : y < x
  ·rw [if_pos h2]
   go_enter Tryz.func114, Tryz.ntmps114
   go_wp2_with fail
   refine (HN.out _ _).mono ?_
   rintro e w' ⟨rfl, rfl⟩
   go_wp2_with fail
   refine (HN.out _ _).mono ?_
   rintro e w' ⟨rfl, rfl⟩
   go_wp2
   go_ret
   exact ⟨rfl, rfl⟩
  ·rw [if_neg h2]
   go_enter Tryz.func114, Tryz.ntmps114
   go_wp2_with fail
   refine (HN.out _ _).mono ?_
   rintro e w' ⟨rfl, rfl⟩
   go_wp2_with fail
   refine (HN.out _ _).mono ?_
   rintro e w' ⟨rfl, rfl⟩
   go_wp2
   go_ret
   exact ⟨rfl, rfl⟩
theorem rank_c (w : World) (c : UInt8) : Calls Tryz.prog 115 #[.int .u8 (c.toNat : Int)] w fun e w' => e = .returned (.int .u8 (rk c : Int)) ∧ w' = w := by
 by_cases h : (c.toNat : Int) = 47
 ·have hc : c = 47 := by apply UInt8.toNat_inj.1; simpa using (by omega : c.toNat = 47)
  have HR : Hid ((rk c : Int) = 0) := by unfold Hid rk; rw [if_pos hc]; rfl
  have h' : ((c.toNat : Int) == 47) = true := by simpa using h
  clear h hc
  go_enter Tryz.func115, Tryz.ntmps115
  go_wp2
  go_ret
  exact ⟨by rw [HR.out]; rfl, rfl⟩
 ·have hc : ¬ c = 47 := by intro e; apply h; rw [e]; rfl
  have HR : Hid ((rk c : Int) = (c.toNat : Int)) := by unfold Hid rk; rw [if_neg hc]
  have h' : ((c.toNat : Int) == 47) = false := by simpa using h
  clear h hc
  go_enter Tryz.func115, Tryz.ntmps115
  go_wp2
  go_ret
  exact ⟨by rw [HR.out]; rfl, rfl⟩
theorem cmp_sub (a b k : Nat) (h1 : k ≤ a) (h2 : k ≤ b) : Lib.compareInt ((a - k : Nat) : Int) ((b - k : Nat) : Int) = Lib.compareInt (a : Int) (b : Int) := by
 unfold Lib.compareInt
 repeat' split
 all_goals omega
theorem cmpP_len : ∀ (l m : List UInt8), l = [] ∨ m = [] → cmpP l m = Lib.compareInt (l.length : Int) (m.length : Int)
 | [], [], _ => by simp [cmpP, Lib.compareInt]
 | [], b :: m, _ => by simp only [cmpP, Lib.compareInt, List.length_nil, List.length_cons]; rw [if_pos (by omega)]
 | a :: l, [], _ => by simp only [cmpP, Lib.compareInt, List.length_nil, List.length_cons]; rw [if_neg (by omega), if_pos (by omega)]
 | a :: l, b :: m, h => by rcases h with h | h <;> cases h
theorem cmpP_step (A B : ByteArray) (i : Nat) (h1 : i < A.size) (h2 : i < B.size) : cmpP (A.data.toList.drop i) (B.data.toList.drop i) = if A[i] = B[i] then cmpP (A.data.toList.drop (i + 1)) (B.data.toList.drop (i + 1)) else Lib.compareInt (rk A[i] : Int) (rk B[i] : Int) := by
 rw [List.drop_eq_getElem_cons (by rw [← Lib.size_eq]; exact h1), List.drop_eq_getElem_cons (l := B.data.toList) (by rw [← Lib.size_eq]; exact h2)]
 rfl
theorem comparePaths_c (w : World) (A B : ByteArray) (hA : A.size ≤ 140737488355328) (hB : B.size ≤ 140737488355328) :
  Calls Tryz.prog 68 #[.string A, .string B] w fun e w' => e = .returned (.int .i64 (cmpP A.data.toList B.data.toList)) ∧ ∃ q, w' = w.drewN q := by
 obtain ⟨R, hR⟩ : ∃ R, R = cmpP A.data.toList B.data.toList := ⟨_, rfl⟩
 rw [← hR]
 have HR : Hid (R = cmpP (A.data.toList.drop 0) (B.data.toList.drop 0)) := hR
 have HCI : Hid (∀ W (x y : Int), Calls Tryz.prog 94 #[.int .i64 x, .int .i64 y] W fun e w' => e = .returned (.int .i64 (Lib.compareInt x y)) ∧ W = w') := fun W x y => cmpInt_c x y W
 have HRK : Hid (∀ W (c : UInt8), Calls Tryz.prog 115 #[.int .u8 (c.toNat : Int)] W fun e w' => e = .returned (.int .u8 (rk c : Int)) ∧ W = w') := fun W c => (rank_c W c).mono fun _ _ h => ⟨h.1, h.2.symm⟩
 have HCB : Hid (∀ W (x y : Int), Calls Tryz.prog 114 #[.int .u8 x, .int .u8 y] W fun e w' => e = .returned (.int .i64 (Lib.compareInt x y)) ∧ W = w') := fun W x y => (cmpB_c W x y).mono fun _ _ h => ⟨h.1, h.2.symm⟩
 obtain ⟨m, hm⟩ : ∃ m : Nat, (m : Int) = min (A.size : Int) (B.size : Int) := ⟨min A.size B.size, by omega⟩
 have hm1 : m ≤ A.size := by omega
 have hm2 : m ≤ B.size := by omega
 have hmm : min (A.size : Int) (B.size : Int) = (m : Int) := hm.symm
 have HM : Hid (m = min A.size B.size) := by unfold Hid; omega
 clear hR hm
 go_enter Tryz.func68, Tryz.ntmps68
 go_wp2
 go_loopw [11] (fun i wr => ∃ k : Nat, k ≤ m ∧ i = .int .i64 (k : Int) ∧ Hid (R = cmpP (A.data.toList.drop k) (B.data.toList.drop k)) ∧ ∃ q, wr = w.drewN q) (fun i wr => m - (intOf i).toNat)
 case atStart => exact ⟨0, Nat.zero_le _, rfl, HR, 0, rfl⟩
 case round =>
  obtain ⟨k, hk, rfl, HK, q, rfl⟩ := hrel
  by_cases hlt : k < m
  ·have a1 : k < A.size := by omega
   have a2 : k < B.size := by omega
   have y1 : (k : Int) < (A.size : Int) := by omega
   have y2 : (k : Int) < (B.size : Int) := by omega
   have y0 : (0 : Int) ≤ (k : Int) := by omega
   have HS : Hid (R = if A[k] = B[k] then cmpP (A.data.toList.drop (k + 1)) (B.data.toList.drop (k + 1)) else Lib.compareInt (rk A[k] : Int) (rk B[k] : Int)) := by
    unfold Hid; rw [HK.out, cmpP_step A B k a1 a2]
   by_cases he : (A[k].toNat : Int) = (B[k].toNat : Int)
   ·have he' : ((A[k].toNat : Int) != (B[k].toNat : Int)) = false := by simpa using he
    have HS' : Hid (R = cmpP (A.data.toList.drop (k + 1)) (B.data.toList.drop (k + 1))) := by
     unfold Hid; rw [HS.out, if_pos (UInt8.toNat_inj.1 (by omega))]
    clear he HS HK
    go_wp2
    go_quiet (fail)
    go_wp2
    exact ⟨⟨k + 1, by omega, by go_num, HS', _, rfl⟩, by simp [intOf]; omega⟩
   ·have he' : ((A[k].toNat : Int) != (B[k].toNat : Int)) = true := by simpa using he
    have HS' : Hid (R = Lib.compareInt (rk A[k] : Int) (rk B[k] : Int)) := by
     unfold Hid; rw [HS.out, if_neg (by intro e; apply he; rw [e])]
    clear he HS HK
    go_wp2
    go_quiet (fail)
    go_wp2
    go_region_held3 (fun _ => True) (trivial) (first | (go_at_call 115; refine (HRK.out _ _).mono ?_; rintro e w2 ⟨rfl, rfl⟩) | (go_at_call 114; refine (HCB.out _ _ _).mono ?_; rintro e w2 ⟨rfl, rfl⟩))
    all_goals
     go_wp2
     go_ret
     exact ⟨by rw [HS'.out]; rfl, _, rfl⟩
  ·obtain rfl : k = m := by omega
   have HE : Hid (R = Lib.compareInt (A.size : Int) (B.size : Int)) := by
    unfold Hid
    rw [HK.out, cmpP_len _ _ (by
     rcases (by have := HM.out; omega : k = A.size ∨ k = B.size) with h | h
     ·left; rw [h, Lib.size_eq]; simp
     ·right; rw [h, Lib.size_eq]; simp)]
    rw [List.length_drop, List.length_drop, ← Lib.size_eq, ← Lib.size_eq]
    exact cmp_sub _ _ _ hm1 hm2
   have y1 : ¬ (k : Int) < (k : Int) := by omega
   go_wp2_with fail
   refine (HCI.out _ _ _).mono ?_
   rintro e w' ⟨rfl, rfl⟩
   go_wp2
   go_ret
   exact ⟨by rw [HE.out]; rfl, _, rfl⟩
end Go.Proofs.YtmhlkdlcpicekaaGreatDoor
namespace Go.Proofs.YtmhlkdlcpicekaaGreatDoor
open Go.RowKit Go.Shelf Go.Lib Go.Sort
theorem compareInt_swap (x y : Int) : Lib.compareInt y x = - Lib.compareInt x y := by
 unfold Lib.compareInt
 repeat' split
 all_goals omega
theorem compareInt_neg (x y : Int) : Lib.compareInt x y < 0 ↔ x < y := by
 unfold Lib.compareInt
 repeat' split
 all_goals omega
theorem compareInt_zero (x y : Int) : Lib.compareInt x y = 0 ↔ x = y := by
 unfold Lib.compareInt
 repeat' split
 all_goals omega
def NoNul (l : List UInt8) : Prop := ∀ c ∈ l, c ≠ 0
theorem rk_inj {a b : UInt8} (ha : a ≠ 0) (hb : b ≠ 0) (h : rk a = rk b) : a = b := by
 have za : a.toNat ≠ 0 := fun e => ha (UInt8.toNat_inj.1 (by simpa using e))
 have zb : b.toNat ≠ 0 := fun e => hb (UInt8.toNat_inj.1 (by simpa using e))
 unfold rk at h
 by_cases h1 : a = 47 <;> by_cases h2 : b = 47 <;> simp [h1, h2] at h ⊢
 ·exact absurd h.symm zb
 ·exact absurd h za
 ·exact UInt8.toNat_inj.1 h
theorem cmpP_swap : ∀ (l m : List UInt8), cmpP m l = - cmpP l m
 | [], [] => rfl
 | [], _ :: _ => rfl
 | _ :: _, [] => rfl
 | a :: l, b :: m => by
  simp only [cmpP]
  by_cases h : a = b
  ·rw [if_pos h, if_pos h.symm, cmpP_swap l m]
  ·rw [if_neg h, if_neg (fun e => h e.symm), compareInt_swap]
theorem cmpP_zero : ∀ (l m : List UInt8), NoNul l → NoNul m → cmpP l m = 0 → l = m
 | [], [], _, _, _ => rfl
 | [], _ :: _, _, _, h => by simp [cmpP] at h
 | _ :: _, [], _, _, h => by simp [cmpP] at h
 | a :: l, b :: m, hl, hm, h => by
  simp only [cmpP] at h
  by_cases e : a = b
  ·rw [if_pos e] at h
   rw [e, cmpP_zero l m (fun c hc => hl c (List.mem_cons_of_mem _ hc)) (fun c hc => hm c (List.mem_cons_of_mem _ hc)) h]
  ·rw [if_neg e, compareInt_zero] at h
   exact absurd (rk_inj (hl a (List.mem_cons_self ..)) (hm b (List.mem_cons_self ..)) (by omega)) e
theorem cmpP_trans : ∀ (l m k : List UInt8), NoNul l → NoNul m → NoNul k → cmpP l m < 0 → cmpP m k < 0 → cmpP l k < 0
 | [], [], _, _, _, _, h, _ => by simp [cmpP] at h
 | [], _ :: _, [], _, _, _, _, h => by simp [cmpP] at h
 | [], _ :: _, _ :: _, _, _, _, _, _ => by simp [cmpP]
 | _ :: _, [], _, _, _, _, h, _ => by simp [cmpP] at h
 | _ :: _, _ :: _, [], _, _, _, _, h => by simp [cmpP] at h
 | a :: l, b :: m, c :: k, hl, hm, hk, h1, h2 => by
  have ha := hl a (List.mem_cons_self ..)
  have hb := hm b (List.mem_cons_self ..)
  have hc := hk c (List.mem_cons_self ..)
  simp only [cmpP] at h1 h2 ⊢
  by_cases e1 : a = b
  ·rw [if_pos e1] at h1
   by_cases e2 : b = c
   ·rw [if_pos e2] at h2
    rw [if_pos (e1.trans e2)]
    exact cmpP_trans l m k (fun c hc => hl c (List.mem_cons_of_mem _ hc)) (fun c hc => hm c (List.mem_cons_of_mem _ hc)) (fun c hc => hk c (List.mem_cons_of_mem _ hc)) h1 h2
   ·rw [if_neg e2] at h2
    rw [if_neg (fun e => e2 (e1.symm.trans e)), e1]; exact h2
  ·rw [if_neg e1, compareInt_neg] at h1
   by_cases e2 : b = c
   ·rw [if_neg (fun e => e1 (e.trans e2.symm)), ← e2, compareInt_neg]; exact h1
   ·rw [if_neg e2, compareInt_neg] at h2
    have hne : a ≠ c := fun e => by rw [e] at h1; omega
    rw [if_neg hne, compareInt_neg]; omega
abbrev FileN := { f : ByteArray × List UInt8 // NoNul f.1.data.toList ∧ f.1.size ≤ 140737488355328 }
instance : Inhabited FileN := ⟨⟨(⟨#[]⟩, []), (fun c hc => by simp at hc), by decide⟩⟩
def encF (f : FileN) : List Value := fileL f.1
def cmpF (x y : FileN) : Int := cmpP x.1.1.data.toList y.1.1.data.toList
theorem swoF : SWO (ltOf cmpF) where
 irrefl x := by
  unfold ltOf cmpF
  have := cmpP_swap x.1.1.data.toList x.1.1.data.toList
  simp; omega
 trans x y z h1 h2 := by
  unfold ltOf cmpF at *
  simp at *
  exact cmpP_trans _ _ _ x.2.1 y.2.1 z.2.1 h1 h2
 ntrans x y z h1 h2 := by
  unfold ltOf cmpF at *
  simp at *
  apply Classical.byContradiction
  intro h3
  have s1 := cmpP_swap x.1.1.data.toList y.1.1.data.toList
  have s2 := cmpP_swap y.1.1.data.toList z.1.1.data.toList
  have h4 : cmpP x.1.1.data.toList z.1.1.data.toList < 0 := by omega
  by_cases h5 : cmpP y.1.1.data.toList x.1.1.data.toList < 0
  ·have := cmpP_trans _ _ _ y.2.1 x.2.1 z.2.1 h5 h4; omega
  ·have h6 := cmpP_zero _ _ y.2.1 x.2.1 (by omega)
   rw [h6] at h2; omega
theorem closureF_c (x y : FileN) (W : World) : Calls Tryz.prog 67 #[.agg #[.string x.1.1, .string ⟨x.1.2.toArray⟩], .agg #[.string y.1.1, .string ⟨y.1.2.toArray⟩]] W fun e w' => e = .returned (.int .i64 (cmpF x y)) ∧ ∃ q os', w' = grow (W.drewN q) os' := by
 have hcon : Hid (∀ W', Calls Tryz.prog 68 #[.string x.1.1, .string y.1.1] W' fun e w' => e = .returned (.int .i64 (cmpF x y)) ∧ ∃ q, w' = W'.drewN q) := fun W' => comparePaths_c W' x.1.1 y.1.1 x.2.2 y.2.2
 generalize cmpF x y = r at hcon ⊢
 go_enter Tryz.func67, Tryz.ntmps67
 go_wp2_with fail
 refine (hcon.out _).mono ?_
 rintro e w' ⟨rfl, q, rfl⟩
 go_wp2
 go_ret
 exact ⟨rfl, q, _, by rw [alloc_eq_grow, alloc_eq_grow, grow_grow]; rfl⟩
theorem cmpLaysF (blk off size : Nat) (w : World) : CmpLays Tryz.prog 67 #[] encF 2 cmpF blk off size w :=
 fun _ _ _ _ x y => closureF_c x y _
theorem run_append_none {P : Program} (w : World) (t tx ty e e' : TypeId) (i : TypeInfo) (ht : P.underlying t = some (.slice e)) (hk : P.underlying tx = some (.slice e')) (hi : P.info? e = some i) (base : Option Addr) (n cap : Nat) (h : n ≤ cap) :
  (Builtin.append_ #[t, tx] ty #[.slice base n cap, .slice none 0 0]).run P w = .ok (.slice base n cap) w := by
 cases base with
 | none => simp [Builtin.append_, run_underlying ht, run_underlying hk, sizeOf, typeInfo, hi, Builtin.lenOf, Builtin.firstCells, h]
 | some a => simp [Builtin.append_, run_underlying ht, run_underlying hk, sizeOf, typeInfo, hi, Builtin.lenOf, Builtin.firstCells, h, storeCells]
theorem wpList_append_two {P : Program} {ops : Array Oper} {rest : List Oper} {o : Oper} {a : Act} {w : World} {Q : Exit → Act → World → Prop} (hgd : o.guard = none) (s x : Operand) (t : TypeId)
  (hop : o.op = .call { callee := .builtin .append, args := #[s, x], argTypes := #[t, t] })
  (base base2 : Nat) (e : TypeId) (i : TypeInfo) (z : Value) (size bytes : Nat) (ht : P.underlying t = some (.slice e)) (hi : P.info? e = some i) (hz : i.zero = some z) (hsize : i.size = size) (hby : i.bytes = bytes) (hzs : z.cells.size = size) (hsz : 0 < size)
  (v : Value) (n : Nat) (xs : List Value) (hv : a.eval s = v) (hown : w.ownsRow base e size v n xs) (y : Value) (m : Nat) (news : List Value) (hy : a.eval x = y) (hsrc : w.ownsRow base2 e size y m news) (h1 : ∀ u ∈ news, u.oneCell' = true)
  (b1 : n + m ≤ maxLen) (b2 : (n + m) * bytes ≤ 140737488355328) (b3 : base ≤ w.heap.size)
  (h : ∀ v' w', w'.ownsRow base e size v' (n + m) (xs ++ news) → w.grownBy w' v.ownBlock → wpList P ops Q rest (a.put o.dst v') w') : wpList P ops Q (o :: rest) a w := by
 obtain ⟨hl, ⟨rfl, rfl⟩ | ⟨g, cap, cur, rfl, hb, hg, h3, h4, h5, h6⟩⟩ := hsrc
 ·have hnil : news = [] := List.eq_nil_of_length_eq_zero (by omega)
  subst hnil
  refine wpList_plain hgd fun _ hK => ?_
  obtain ⟨bs, c, rfl, hc⟩ : ∃ bs c, v = .slice bs n c ∧ n ≤ c := by
   obtain ⟨_, ⟨e1, e2⟩ | ⟨g', c', cur', e1, _, _, e2, _⟩⟩ := hown
   ·subst e2; exact ⟨none, 0, e1, Nat.le_refl _⟩
   ·exact ⟨_, _, e1, e2⟩
  have hrun := run_append_none (P := P) w t t o.type e e i ht ht hi bs n c hc
  unfold Oper.wp
  simp [execOp, hop, resolve, invoke, builtin, hv, hy, hrun, Result.andThen]
  exact hK _ _ (h _ _ (by simpa using hown) (World.grownBy.refl _ _))
 ·refine wpList_append_own w hgd s x t hop base e i z size bytes ht hi hz hsize hby hzs hsz v n xs hv hown ⟨g, 0, none⟩ m cap news hy hl ?_ h1 b1 b2 b3 (fun v' w' h1 h2 _ => h v' w' h1 h2)
  intro j u hj
  have hlt : j < m * size := by rw [← hl]; exact (List.getElem?_eq_some_iff.1 hj).1
  rw [← h6, List.getElem?_take_of_lt hlt] at hj
  have e0 : ((⟨g, 0, none⟩ : Addr).add j) = ⟨g, j, none⟩ := by
   cases j with
   | zero => rfl
   | succ j => simp [Addr.add]
  rw [e0, row_cell hg j]; simpa using hj
end Go.Proofs.YtmhlkdlcpicekaaGreatDoor
