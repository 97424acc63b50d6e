/- Texts of this seat, joined. -/
import Derived.Test.YtmhlkdlcpicekaaGreatDoorJ08
import Derived.Test.YtmhlkdlcpicekaaGreatDoorJ10
import Derived.Deep.RegionWith
set_option linter.unusedSimpArgs false
set_option linter.unusedVariables false
set_option maxRecDepth 100000
set_option maxHeartbeats 20000000
namespace Go.Proofs.YtmhlkdlcpicekaaGreatDoor
open Go.RowKit Go.Maps
def takeC (c : CutS) (k : Nat) : Option CutS := match c with
 | none => some none
 | some (n, f) => if k ≤ n then some (some (n - k, f)) else none
theorem takeC_zero (c : CutS) : takeC c 0 = some c := by
 rcases c with _ | ⟨n, f⟩ <;> simp [takeC]
theorem takeC_step {c d : CutS} {k : Nat} (h : takeC c k = some d) (hp : passB d = true) : takeC c (k + 1) = some (passC d) := by
 rcases c with _ | ⟨n, f⟩
 ·simp only [takeC, Option.some.injEq] at h ⊢
  rw [← h]; rfl
 ·unfold takeC at h ⊢
  simp only at h ⊢
  split at h
  ·rename_i hk
   cases h
   by_cases hk1 : k + 1 ≤ n
   ·rw [if_pos hk1]
    obtain ⟨m, hm⟩ : ∃ m, n - k = m + 1 := ⟨n - k - 1, by omega⟩
    rw [hm]
    simp only [passC]
    rw [show n - (k + 1) = m by omega]
   ·rw [show n - k = 0 by omega] at hp
    cases hp
  ·cases h
theorem takeC_stop {c d : CutS} {k s : Nat} (h : takeC c k = some d) (hp : passB d = false) (hs : k < s) : takeC c s = none ∧ d = some (0, cutF c) := by
 rcases c with _ | ⟨n, f⟩
 ·simp only [takeC, Option.some.injEq] at h
  rw [← h] at hp; cases hp
 ·unfold takeC at h ⊢
  simp only at h ⊢
  split at h
  ·rename_i hk
   cases h
   have h0 : n - k = 0 := by
    cases hm : n - k with
    | zero => rfl
    | succ m => rw [hm] at hp; cases hp
   rw [if_neg (by omega), h0]
   exact ⟨rfl, rfl⟩
  ·cases h
def chunks (n : Nat) : Nat := (n + 15) / 16
def stepsOf (path data : ByteArray) : Nat := if folderB path then 1 else 1 + chunks data.size
def OnePost (S b n lim : Nat) (f : List UInt8 → Option Value) (sh : Option Nat) (c : CutS) (np : Bool) (path data : ByteArray) (w : World) (r : Ending) (w' : World) : Prop :=
 Touch (fun k => k = S ∨ k = b ∨ lim ≤ k) w w' ∧ match takeC c (stepsOf path data) with
 | some d => r = .returned (.bool true) ∧ SB w' S 1 sh (some b) d np ∧ ∃ v, RawMap w' b (n + 1) (updM f path.data.toList (some v)) ∧ w'.ownsRow lim 5 1 v data.size (byteV data.data.toList)
 | none => r = .returned (.bool false) ∧ SB w' S 1 sh (some b) (some (0, cutF c)) np ∧ ∃ g, RawMap w' b (n + 1) g ∧ ∀ key, g key ≠ none → f key ≠ none ∨ key = path.data.toList
def sizeOfS : Value → Nat | .string s => s.size | _ => 0
def boolN : Value → Nat | .bool true => 1 | _ => 0
theorem SB.drewS {w : World} {S : Nat} {lk : Int} {sh be : Option Nat} {c : CutS} {np : Bool} (h : SB w S lk sh be c np) : SB w.drew S lk sh be c np := ⟨h.hp, h.hc⟩
theorem RawMap.drewM {w : World} {B n : Nat} {f : List UInt8 → Option Value} (h : RawMap w B n f) : RawMap w.drew B n f := h
theorem updM_twice (f : List UInt8 → Option Value) (k : List UInt8) (u v : Option Value) : updM (updM f k u) k v = updM f k v := by
 funext x
 unfold updM
 split <;> rfl
theorem updM_same (f : List UInt8 → Option Value) (k : List UInt8) (v : Option Value) : updM f k v k = v := if_pos rfl
theorem buildOne_c (w : World) (S b n lim : Nat) (f : List UInt8 → Option Value) (sh : Option Nat) (c : CutS) (np : Bool) (path data : ByteArray) (h : SB w S 1 sh (some b) c np) (hb : RawMap w b n f) (hn : n ≤ 4611686018427387904) (hpa : path.size ≤ 140737488355328) (hda : data.size ≤ 140737488355328)
  (hfo : folderB path = true → data = ⟨#[]⟩) (hlim : lim ≤ w.heap.size) (hS : S < lim) :
  Calls Tryz.prog 74 #[.pointer (some ⟨S, 0, none⟩), .agg #[.string path, .string data]] w fun r w' => OnePost S b n lim f sh c np path data w r w' := by
 have hpm : path.size ≤ maxLen := by unfold maxLen; omega
 have ta : Touch (fun _ => False) w (w.alloc (.cells #[.string path, .string data] 41)) := (Touch.refl _ _).alloc _
 have h1 := h.keep ta (fun e => e)
 have hb1 := hb.keep ta (fun e => e)
 have hne := hb.ne_row h.hp
 have hlt := h.lt
 have hblt := hb.lt
 have bx : (w.alloc (.cells #[.string path, .string data] 41)).heap[w.heap.size]? = some (.cells #[.string path, .string data] 41 (0, 0)) := heap_alloc_new w _
 have x0 := row_cell bx 0
 have x1 := row_cell bx 1
 have sne : ¬ w.heap.size = S := by omega
 have bne : ¬ w.heap.size = b := by omega
 have HF : Hid (∀ W, Calls Tryz.prog 64 #[.string path] W fun e w' => e = .returned (.bool (folderB path)) ∧ W = w') := fun W => isFolder_c W path hpa
 have HT0 : Hid (takeC c 0 = some c) := takeC_zero c
 cases hfd : folderB path with
 | true =>
  rw [hfd] at HF
  have HS : Hid (stepsOf path data = 1) := by unfold Hid stepsOf; rw [hfd]; rfl
  have HD : Hid (data = ⟨#[]⟩) := hfo hfd
  clear hfo
  cases hp : passB c with
  | true =>
   have HT := takeC_step HT0.out hp
   go_enter Tryz.func74, Tryz.ntmps74
   go_wp2_with (first | (go_at_call 64; refine (HF.out _).mono ?_; rintro e w' ⟨rfl, rfl⟩) | (go_at_call 76; refine (do_make _ S b n f sh c np h1 hb1 (by unfold maxLen; omega) hp 0 (Or.inl rfl) path ⟨#[]⟩ hpm).mono ?_; rintro e w2 ⟨rfl, h2, hb2, t2⟩))
   go_ret
   unfold OnePost
   rw [HS.out, HT]
   exact ⟨(ta.wide (fun k e => e.elim)).trans (t2.wide (fun k e => e.elim Or.inl (fun e => Or.inr (Or.inl e)))), rfl, h2, nilS, hb2, by rw [HD.out]; exact World.ownsRow_nil _ _ _ _⟩
  | false =>
   obtain ⟨HT, hc⟩ := takeC_stop (s := 1) HT0.out hp (by omega)
   go_enter Tryz.func74, Tryz.ntmps74
   go_wp2_with (first | (go_at_call 64; refine (HF.out _).mono ?_; rintro e w' ⟨rfl, rfl⟩) | (go_at_call 76; refine (do_no _ S sh (some b) c np h1 hp 0 path ⟨#[]⟩).mono ?_; rintro e w2 ⟨rfl, h2, t2⟩))
   go_ret
   unfold OnePost
   rw [HS.out, HT]
   exact ⟨(ta.wide (fun k e => e.elim)).trans (t2.wide (fun k e => Or.inl e)), rfl, hc ▸ h2, f, (hb1.keep t2 hne).mono (by omega), fun key hk => Or.inl hk⟩
 | false =>
  rw [hfd] at HF
  have HS : Hid (stepsOf path data = 1 + chunks data.size) := by unfold Hid stepsOf; rw [hfd]; rfl
  cases hp : passB c with
  | false =>
   obtain ⟨HT, hc⟩ := takeC_stop (s := 1 + chunks data.size) HT0.out hp (by omega)
   obtain ⟨emp, hemp⟩ : ∃ e : Bool, e = (data != ⟨#[]⟩) := ⟨_, rfl⟩
   go_enter Tryz.func74, Tryz.ntmps74
   go_wp2_with (first | (go_at_call 64; refine (HF.out _).mono ?_; rintro e w' ⟨rfl, rfl⟩) | (go_at_call 76; refine (do_no _ S sh (some b) c np h1 hp 1 path ⟨#[]⟩).mono ?_; rintro e w2 ⟨rfl, h2, t2⟩; have y1 := t2.at x1 sne))
   go_loopw [5, 6] (fun dn rs wr => dn = .bool false ∧ wr = w2) (fun _ _ _ => 0)
   case atStart => exact ⟨rfl, rfl⟩
   case round =>
    obtain ⟨rfl, rfl⟩ := hrel
    go_wp2
    go_ret
    unfold OnePost
    rw [HS.out, HT]
    exact ⟨(ta.wide (fun k e => e.elim)).trans (t2.wide (fun k e => Or.inl e)), rfl, hc ▸ h2, f, (hb1.keep t2 hne).mono (by omega), fun key hk => Or.inl hk⟩
  | true =>
   have HT := takeC_step HT0.out hp
   have HTT : Hid (takeC c 1 = some (passC c)) := HT
   have HCH : Hid (∀ k, 16 * k < data.size → k < chunks data.size) := fun k hk => by unfold chunks; omega
   have HCE : Hid (∀ k, ¬ 16 * k < data.size → k ≤ chunks data.size → k = chunks data.size) := fun k hk h2 => by unfold chunks at h2 ⊢; omega
   clear hfo HT
   go_enter Tryz.func74, Tryz.ntmps74
   go_wp2_with (first | (go_at_call 64; refine (HF.out _).mono ?_; rintro e w' ⟨rfl, rfl⟩) | (go_at_call 76; refine (do_make _ S b n f sh c np h1 hb1 (by unfold maxLen; omega) hp 1 (Or.inr rfl) path ⟨#[]⟩ hpm).mono ?_; rintro e w2 ⟨rfl, h2, hb2, t2⟩; have y9 := (t2.block w.heap.size (by simp) (fun e => e.elim sne bne)).trans bx; have y1 := t2.at x1 (fun e => e.elim sne bne)))
   have T2 : Touch (fun k => k = S ∨ k = b ∨ lim ≤ k) w w2 := (ta.wide (fun k e => e.elim)).trans (t2.wide (fun k e => e.elim Or.inl (fun e => Or.inr (Or.inl e))))
   have o2 : w2.ownsRow lim 5 1 nilS 0 (byteV []) := World.ownsRow_nil _ _ _ _
   have hs2 := t2.size
   rw [World.size_alloc] at hs2
   go_loopw [5, 6] (fun dn rs wr => Touch (fun k => k = S ∨ k = b ∨ lim ≤ k) w wr ∧ w.heap.size < wr.heap.size ∧ wr.heap[w.heap.size]? = some (.cells #[.string path, .string data] 41 (0, 0)) ∧ ((dn = .bool true ∧ ∃ (k len : Nat) (d : CutS) (v : Value) (rest : ByteArray), k ≤ chunks data.size ∧ len = min (16 * k) data.size ∧ rs = .string rest ∧ rest.size = data.size - len ∧ Hid (rest.data.toList = data.data.toList.drop len) ∧ Hid (takeC c (1 + k) = some d) ∧ SB wr S 1 sh (some b) d np ∧ RawMap wr b (n + 1) (updM f path.data.toList (some v)) ∧ wr.ownsRow lim 5 1 v len (byteV (data.data.toList.take len))) ∨ (dn = .bool false ∧ Hid (takeC c (1 + chunks data.size) = none) ∧ SB wr S 1 sh (some b) (some (0, cutF c)) np ∧ ∃ g, RawMap wr b (n + 1) g ∧ Hid (∀ key, g key ≠ none → f key ≠ none ∨ key = path.data.toList)))) (fun dn rs _ => 2 * sizeOfS rs + boolN dn)
   case atStart => exact ⟨T2, by omega, y9, Or.inl ⟨rfl, 0, 0, passC c, nilS, data, Nat.zero_le _, by omega, rfl, by omega, by unfold Hid; simp, HTT, h2, hb2, by simpa using o2⟩⟩
   case round =>
    obtain ⟨TT, hsz, zx, ⟨rfl, k, len, d, v, rest, hk, hlen, rfl, hrs, HR, HTK, hS2, hM, hO⟩ | ⟨rfl, HN, hS2, g, hM, HG⟩⟩ := hrel
    ·have z0 := row_cell zx 0
     have HZX : Hid (wr.heap[w.heap.size]? = some (.cells #[.string path, .string data] 41 (0, 0))) := zx
     have HOB : Hid (∀ q, v.ownBlock = some q → lim ≤ q ∧ ¬ q = w.heap.size) := fun q hq => ⟨(hO.lt q hq).1, fun e => by
      subst e
      obtain ⟨g1, g2, g3⟩ := owns_row hO hq
      rw [zx] at g3
      cases g3⟩
     clear zx
     by_cases hmore : 16 * k < data.size
     ·have hk1 := HCH.out k hmore
      have q1 : ¬ rest = ⟨#[]⟩ := fun e => by rw [e] at hrs; have : (⟨#[]⟩ : ByteArray).size = 0 := rfl; omega
      have hrest : 0 < rest.size := by omega
      have q5 : rest.toList.isEmpty = false := by
       have hl : rest.data.toList.length = rest.size := Array.length_toList
       rw [ByteArray.toList_eq]
       cases hx : rest.data.toList with
       | nil => rw [hx] at hl; simp at hl; omega
       | cons a l => rfl
      have hcnt : ∃ cnt : Nat, (cnt = rest.size ∧ rest.size < 16 ∨ cnt = 16 ∧ 16 ≤ rest.size) := by
       by_cases h16 : rest.size < 16
       ·exact ⟨_, Or.inl ⟨rfl, h16⟩⟩
       ·exact ⟨_, Or.inr ⟨rfl, by omega⟩⟩
      obtain ⟨cnt, hcc⟩ := hcnt
      have hc1 : cnt ≤ rest.size := by omega
      have hc0 : 0 < cnt := by omega
      have hc2 : len + cnt = min (16 * (k + 1)) data.size := by omega
      have e1 : (rest.extract 0 cnt).size = cnt := by rw [ByteArray.size_extract]; omega
      have e2 : (rest.extract cnt rest.size).size = rest.size - cnt := by rw [ByteArray.size_extract]; omega
      have HE1 : Hid (data.data.toList.take len ++ (rest.extract 0 cnt).data.toList = data.data.toList.take (len + cnt)) := by
       unfold Hid
       rw [show (rest.extract 0 cnt).data.toList = rest.data.toList.take cnt by simp [ByteArray.data_extract], HR.out, List.take_add]
      have HE2 : Hid ((rest.extract cnt rest.size).data.toList = data.data.toList.drop (len + cnt)) := by
       unfold Hid
       have hl : rest.data.toList.length = rest.size := Array.length_toList
       have e : (rest.extract cnt rest.size).data.toList = (rest.data.toList.drop cnt).take (rest.size - cnt) := by simp [ByteArray.data_extract]
       rw [e, List.take_of_length_le (by rw [List.length_drop, hl]; exact Nat.le_refl _), HR.out, List.drop_drop]
      have HE1s : Hid ((rest.extract 0 cnt).size = cnt) := e1
      have HE2s : Hid ((rest.extract cnt rest.size).size = rest.size - cnt) := e2
      have hfv : updM f path.data.toList (some v) path.data.toList = some v := updM_same _ _ _
      have HUT : Hid (∀ v', updM (updM f path.data.toList (some v)) path.data.toList (some v') = updM f path.data.toList (some v')) := fun v' => updM_twice _ _ _ _
      have hlm : lim ≤ wr.heap.size := Nat.le_trans hlim TT.size
      have dlen : len + cnt ≤ 140737488355328 := by omega
      have c1 : (cnt : Int) ≤ (rest.size : Int) := by omega
      have c2 : (0 : Int) ≤ (cnt : Int) := by omega
      have hmin : min (rest.size : Int) 16 = (cnt : Int) := by omega
      have HN1 : Hid (len = min (16 * k) data.size ∧ rest.size = data.size - len ∧ len + cnt = min (16 * (k + 1)) data.size ∧ 0 < cnt ∧ cnt ≤ rest.size) := ⟨hlen, hrs, hc2, hc0, hc1⟩
      have HKK : Hid (n ≤ 4611686018427387904 ∧ k + 1 ≤ chunks data.size ∧ chunks data.size ≤ 140737488355328) := ⟨hn, by omega, by unfold chunks; omega⟩
      have HDL : Hid (len + cnt ≤ 140737488355328) := dlen
      clear e1 e2 hcc hlen hrs hc2 hc1 dlen hmore hk1 hk hn
      cases hpd : passB d with
      | true =>
       have HTN : Hid (takeC c (1 + (k + 1)) = some (passC d)) := by unfold Hid; rw [← Nat.add_assoc]; exact takeC_step HTK.out hpd
       go_wp2_with fail
       go_region_with (go_at_call 76; refine (do_write _ S b (n + 1) lim len (updM f path.data.toList (some v)) v (data.data.toList.take len) sh d np hS2.drewS hM.drewM (by have := HKK.out; unfold maxLen; omega) hpd path (rest.extract 0 cnt) hpm hfv hO.drew hlm hS (by rw [HE1s.out]; exact HDL.out)).mono ?_; rintro e w5 ⟨rfl, h5, v', hb5, ho5, t5⟩)
       all_goals
        go_wp2_with fail
        have T5 := TT.drew.trans (t5.wide (fun q e => e.elim Or.inl (fun e => e.elim (fun e => Or.inr (Or.inl e)) (fun e => Or.inr (Or.inr (HOB.out q e).1)))))
        rw [HUT.out] at hb5
        rw [HE1.out, HE1s.out] at ho5
        have hn1 := HN1.out
        refine ⟨⟨T5, Nat.lt_of_lt_of_le hsz t5.size, (t5.block w.heap.size hsz (fun e => e.elim sne (fun e => e.elim bne (fun e => (HOB.out _ e).2 rfl)))).trans HZX.out, Or.inl ⟨rfl, k + 1, len + cnt, passC d, v', _, by have := HKK.out; omega, hn1.2.2.1, rfl, by rw [HE2s.out]; omega, HE2, HTN, h5, hb5, ho5⟩⟩, ?_⟩
        simp only [sizeOfS, boolN]
        rw [HE2s.out]
        omega
      | false =>
       obtain ⟨HTX, hdd⟩ := takeC_stop (s := 1 + chunks data.size) HTK.out hpd (by have := HKK.out; omega)
       go_wp2_with fail
       go_region_with (go_at_call 76; refine (do_no _ S sh (some b) d np hS2.drewS hpd 2 path (rest.extract 0 cnt)).mono ?_; rintro e w5 ⟨rfl, h5, t5⟩)
       all_goals
        go_wp2_with fail
        have T5 := TT.drew.trans (t5.wide (fun q e => Or.inl e))
        have hn1 := HN1.out
        refine ⟨⟨T5, Nat.lt_of_lt_of_le hsz t5.size, (t5.block w.heap.size hsz sne).trans HZX.out, Or.inr ⟨rfl, HTX, hdd ▸ h5, _, (hM.drewM.keep t5 hne).mono (by have := HKK.out; omega), fun key hk => ?_⟩⟩, ?_⟩
        ·by_cases e : key = path.data.toList
         ·exact Or.inr e
         ·unfold updM at hk
          rw [if_neg e] at hk
          exact Or.inl hk
        ·simp only [sizeOfS, boolN]
         rw [HE2s.out]
         omega
     ·have hkc := HCE.out k hmore hk
      have hl2 : len = data.size := by omega
      have hr0 : rest = ⟨#[]⟩ := by
       have hz : rest.size = 0 := by omega
       have : rest.data.size = 0 := hz
       cases rest with
       | mk a => simp at this; rw [this]
      subst hr0
      have HLL : Hid (len = data.size ∧ k = chunks data.size) := ⟨hl2, hkc⟩
      clear hl2 hkc hmore
      go_wp2
      go_ret
      unfold OnePost
      obtain ⟨hl2, hkc⟩ := HLL.out
      rw [hkc] at HTK
      rw [HS.out, HTK.out]
      refine ⟨TT, rfl, hS2, v, hM, ?_⟩
      rw [hl2] at hO
      have hl : data.data.toList.length = data.size := Array.length_toList
      rw [← hl, List.take_length, hl] at hO
      exact hO
    ·go_wp2
     go_ret
     unfold OnePost
     rw [HS.out, HN.out]
     exact ⟨TT, rfl, hS2, g, hM, HG.out⟩
end Go.Proofs.YtmhlkdlcpicekaaGreatDoor
