/- Texts of this seat, joined. -/
import Derived.Test.YtnmkmmgaoplfiaaGreatDoorJ38
import Derived.Test.YtnmkmmgaoplfiaaGreatDoorJ22
import Derived.Test.YtnmkmmgaoplfiaaGreatDoorJ17
import Derived.Test.YtnmkmmgaoplfiaaGreatDoorJ37
import Derived.Test.YtnmkmmgaoplfiaaGreatDoorJ16
import Derived.Test.YtnmkmmgaoplfiaaGreatDoorJ19
import Derived.Lib.Strings
set_option linter.unusedSimpArgs false
set_option linter.unusedVariables false
set_option maxRecDepth 100000
set_option maxHeartbeats 20000000
namespace Go.Proofs.YtnmkmmgaoplfiaaGreatDoor
open Go.RowKit
end Go.Proofs.YtnmkmmgaoplfiaaGreatDoor
namespace Go.Proofs.YtnmkmmgaoplfiaaGreatDoor
open Go.RowKit
theorem BT.owns {b : Nat} {w w' : World} (h : BT b w w') {base : Nat} {e : TypeId} {size : Nat} {v : Value} {n : Nat} {xs : List Value} (ho : w.ownsRow base e size v n xs) (hs : ∀ k, v.ownBlock = some k → k ≠ b) : w'.ownsRow base e size v n xs :=
 h.t.owns ho (fun k hk e => hs k hk e)
theorem RB.zero {w : World} {b : Nat} {s : ByteArray} {p : Nat} (h : RB w b s p) (hp : p ≤ 8 * s.size) : w.cell? ⟨b, 4, none⟩ = some (.int .i64 0) := by
 have := h.c4; rw [if_pos hp] at this; exact this
theorem RB.one {w : World} {b : Nat} {s : ByteArray} {p : Nat} (h : RB w b s p) (hp : 8 * s.size < p) : w.cell? ⟨b, 4, none⟩ = some (.int .i64 1) := by
 have := h.c4; rw [if_neg (by omega)] at this; exact this
end Go.Proofs.YtnmkmmgaoplfiaaGreatDoor
namespace Go.Proofs.YtnmkmmgaoplfiaaGreatDoor
open Go.RowKit
theorem RB.at {w : World} {b : Nat} {s : ByteArray} {p : Nat} (h : RB w b s p) (hp : p ≤ 8 * s.size) : w.cell? ⟨b, 1, none⟩ = some (.int .i64 (p : Int)) := by
 have := h.c1; rw [Nat.min_eq_left hp] at this; exact this
theorem num8 (s : ByteArray) (k : Nat) (hk : k < s.size) : numAt s (8 * k) 8 = s[k].toNat := by
 have b := s[k].toNat_lt
 simp only [numAt, bitOf_in s k _ hk (show 0 < 8 by omega), bitOf_in s k _ hk (show 1 < 8 by omega), bitOf_in s k _ hk (show 2 < 8 by omega), bitOf_in s k _ hk (show 3 < 8 by omega), bitOf_in s k _ hk (show 4 < 8 by omega), bitOf_in s k _ hk (show 5 < 8 by omega), bitOf_in s k _ hk (show 6 < 8 by omega), bitOf_in s k _ hk (show 7 < 8 by omega)]
 generalize s[k].toNat = x at *
 omega
end Go.Proofs.YtnmkmmgaoplfiaaGreatDoor
namespace Go.Proofs.YtnmkmmgaoplfiaaGreatDoor
open Go.RowKit
theorem copyOf_next (out : List UInt8) (place d m : Nat) (hd : 0 < d) (hp : place + d = out.length) (h : place + m < (copyOf out place d m).length) : copyOf out place d m ++ [(copyOf out place d m)[place + m]] = copyOf out place d (m + 1) := by
 have e : (copyOf out place d m)[place + m] = out.getD (place + m % d) 0 := by
  have h1 : (copyOf out place d m)[place + m] = (copyOf out place d m).getD (place + m) 0 := by
   rw [List.getD_eq_getElem?_getD, List.getElem?_eq_getElem h]; rfl
  rw [h1]
  unfold copyOf
  by_cases hm : m < d
  ·rw [Nat.mod_eq_of_lt hm]
   simp [List.getElem?_append_left (show place + m < out.length by omega)]
  ·have e : place + m = out.length + (m - d) := by omega
   rw [e, List.getD_eq_getElem?_getD, List.getElem?_append_right (by omega)]
   simp only [Nat.add_sub_cancel_left, rep, List.getElem?_map, List.getElem?_range (show m - d < m by omega)]
   simp only [Option.map_some, Option.getD_some]
   rw [show (m - d) % d = m % d by rw [Nat.mod_eq_sub_mod (show m ≥ d by omega)]]
 rw [e]
 unfold copyOf rep
 rw [List.range_succ, List.map_append, List.append_assoc]
 rfl
theorem copyOf_zero (out : List UInt8) (place d : Nat) : copyOf out place d 0 = out := by simp [copyOf, rep]
theorem Ref.drew {w : World} {b : Nat} {s : ByteArray} {p : Nat} {out : List UInt8} {M : Int} (h : Ref w b s p out M) : Ref w.drew b s p out M :=
 h.read ⟨h.rb.c0, h.rb.c1, h.rb.c4, h.rb.fr⟩ ((BT.refl b w).drewN 1) (Nat.le_refl _)
end Go.Proofs.YtnmkmmgaoplfiaaGreatDoor
namespace Go.Proofs.YtnmkmmgaoplfiaaGreatDoor
open Go.RowKit
def pickOf (c : Int) (n : Nat) : Nat := ((if c < 0 then -(c + 1) else c) % (n : Int)).toNat
theorem pickOf_lt (c : Int) (n : Nat) (h : 0 < n) : pickOf c n < n := by
 unfold pickOf
 have h1 := Int.emod_lt_of_pos (if c < 0 then -(c + 1) else c) (show (0 : Int) < (n : Int) by omega)
 have h2 := Int.emod_nonneg (if c < 0 then -(c + 1) else c) (show (n : Int) ≠ 0 by omega)
 omega
theorem kpick_c (w : World) (c : Int) (n k : Nat) (N : Int) (hN : N = (n : Int)) (hk : pickOf c n = k) (h1 : 1 ≤ n) (hn : n ≤ 1099511627776) (c0 : -9223372036854775808 ≤ c) (c1 : c ≤ 9223372036854775807) :
  Calls Tryz.prog 19 #[.int .i64 c, .int .i64 N] w fun e w' => e = .returned (.int .i64 (k : Int)) ∧ w = w' := by
 subst hN hk
 have lt := pickOf_lt c n (by omega)
 have n0 : ((n : Int) == 0) = false := by simp; omega
 have n0' : ¬ (n : Int) = 0 := by omega
 by_cases hc : c < 0
 ·obtain ⟨d, hd⟩ : ∃ d : Nat, -(c + 1) = (d : Int) := ⟨(-(c + 1)).toNat, by omega⟩
  have e : (d : Int).tmod (n : Int) = ((pickOf c n : Nat) : Int) := by
   unfold pickOf
   have h2 := Int.emod_nonneg (d : Int) n0'
   rw [if_pos hc, hd, Int.tmod_eq_emod_of_nonneg (by omega)]; omega
  have hd2 : -1 + -c = (d : Int) := by omega
  have hd3 : -c - 1 = (d : Int) := by omega
  have db : d ≤ 9223372036854775807 := by omega
  generalize pickOf c n = k at *
  go_enter Tryz.func19, Tryz.ntmps19
  go_wp2
  go_ret
  exact ⟨rfl, rfl⟩
 ·obtain ⟨d, rfl⟩ : ∃ d : Nat, c = (d : Int) := ⟨c.toNat, by omega⟩
  have e : (d : Int).tmod (n : Int) = ((pickOf (d : Int) n : Nat) : Int) := by
   unfold pickOf
   have h2 := Int.emod_nonneg (d : Int) n0'
   rw [if_neg hc, Int.tmod_eq_emod_of_nonneg (by omega)]; omega
  generalize pickOf (d : Int) n = k at *
  go_enter Tryz.func19, Tryz.ntmps19
  go_wp2
  go_ret
  exact ⟨rfl, rfl⟩
theorem kmost_c (w : World) (S T : ByteArray) (hS : S.size ≤ 9223372036854775807) (hT : T = ⟨(S.data.toList.take 40).toArray⟩) :
  Calls Tryz.prog 21 #[.string S, .int .i64 40] w fun e w' => e = .returned (.string T) ∧ w = w' := by
 have hl : S.data.toList.length = S.size := Array.length_toList
 by_cases h : 40 < S.size
 ·have HE : Hid (S.extract 0 40 = T) := by
   unfold Hid; rw [hT]
   apply ByteArray.ext
   apply Array.toList_inj.1
   rw [Lib.extract_data]; simp
  clear hT
  go_enter Tryz.func21, Tryz.ntmps21
  go_wp2
  go_ret
  refine ⟨?_, rfl⟩
  rw [← HE.out]; rfl
 ·have HE : Hid (S = T) := by
   unfold Hid; rw [hT, List.take_of_length_le (by omega)]
  clear hT
  go_enter Tryz.func21, Tryz.ntmps21
  go_wp2
  go_ret
  refine ⟨?_, rfl⟩
  rw [← HE.out]; rfl
theorem kstr_size (l : List UInt8) : (ByteArray.mk l.toArray).size = l.length := by show l.toArray.size = _; simp
theorem kstr_app (a b : List UInt8) : (ByteArray.mk a.toArray ++ ByteArray.mk b.toArray) = ByteArray.mk (a ++ b).toArray := by
 apply ByteArray.ext; simp
theorem kstr_part (l : List UInt8) (i : Nat) (h : i < l.length) : (ByteArray.mk l.toArray).extract i (i + 1) = ByteArray.mk [l[i]].toArray := by
 apply ByteArray.ext
 apply Array.toList_inj.1
 rw [Lib.extract_data]
 show (l.drop i).take (i + 1 - i) = [l[i]]
 rw [show i + 1 - i = 1 by omega, List.drop_eq_getElem_cons h]
 rfl
theorem kcopied_c (w : World) (out : List UInt8) (S : ByteArray) (far n : Nat) (F N : Int) (hF : F = (far : Int)) (hN : N = (n : Int)) (hS : S = ⟨out.toArray⟩) (h1 : 1 ≤ far) (h2 : far ≤ out.length) (hn : n ≤ 258) (hl : out.length ≤ 1000000) :
  Calls Tryz.prog 43 #[.string S, .int .i64 F, .int .i64 N] w fun e w' => e = .returned (.string ⟨(copyOf out (out.length - far) far n).toArray⟩) ∧ w = w' := by
 subst hF hN hS
 obtain ⟨place, hp⟩ : ∃ place, place = out.length - far := ⟨_, rfl⟩
 rw [← hp]
 have pd : place + far = out.length := by omega
 clear hp
 go_enter Tryz.func43, Tryz.ntmps43
 go_wp2
 go_loop [0, 7] (fun t i => ∃ k : Nat, k ≤ n ∧ i = .int .i64 (k : Int) ∧ t = .string ⟨(copyOf out place far k).toArray⟩) (fun _ i => n - (intOf i).toNat)
 case atStart => exact ⟨0, by omega, rfl, by rw [copyOf_zero]⟩
 case round =>
  obtain ⟨k, hk, rfl, rfl⟩ := hrel
  by_cases hlt : k < n
  ·obtain ⟨cur, hcur⟩ : ∃ cur, cur = copyOf out place far k := ⟨_, rfl⟩
   have cl := copyOf_len out place far k
   have hpl : place + k < (copyOf out place far k).length := by omega
   have nx := copyOf_next out place far k (by omega) pd hpl
   have pt := kstr_part (copyOf out place far k) (place + k) hpl
   have ap := kstr_app (copyOf out place far k) [(copyOf out place far k)[place + k]]
   rw [nx] at ap
   have sz := kstr_size (copyOf out place far k)
   obtain ⟨C, hC⟩ : ∃ C, C = ByteArray.mk (copyOf out place far k).toArray := ⟨_, rfl⟩
   obtain ⟨E, hE⟩ : ∃ E, E = ByteArray.mk [(copyOf out place far k)[place + k]].toArray := ⟨_, rfl⟩
   rw [← hC, ← hE] at ap pt
   rw [← hC] at sz ⊢
   have HAP : Hid (C ++ E = ByteArray.mk (copyOf out place far (k + 1)).toArray) := ap
   obtain ⟨m, hm⟩ : ∃ m, m = place + k := ⟨_, rfl⟩
   rw [← hm] at pt
   have sb : C.size ≤ 1000300 := by omega
   have im : (C.size : Int) - (far : Int) = (m : Int) := by omega
   have im2 : (m : Int) < (C.size : Int) := by omega
   have im3 : (m : Int) + 1 ≤ (C.size : Int) := by omega
   have im4 : m + 1 ≤ C.size := by omega
   have im5 : (0 : Int) ≤ (m : Int) := by omega
   have m0 : m ≤ 1000300 := by omega
   have es : E.size = 1 := by rw [hE]; rfl
   clear ap nx cl hpl hC hE sz hm hcur
   go_wp2
   exact ⟨⟨k + 1, by omega, by go_num, by rw [HAP.out]⟩, by simp [intOf]; omega⟩
  ·obtain rfl : k = n := by omega
   go_wp2
   go_ret
   exact ⟨rfl, rfl⟩
end Go.Proofs.YtnmkmmgaoplfiaaGreatDoor
namespace Go.Proofs.YtnmkmmgaoplfiaaGreatDoor
def At (s : ByteArray) (p : Nat) (xs : List Nat) : Prop := ∀ i, i < xs.length → p + i < 8 * s.size → bitOf s (p + i) = xs.getD i 0
theorem At.left {s : ByteArray} {p : Nat} {xs ys : List Nat} (h : At s p (xs ++ ys)) : At s p xs := fun i hi hs => by
 have := h i (by rw [List.length_append]; omega) hs
 rw [this, List.getD_eq_getElem?_getD, List.getElem?_append_left hi, ← List.getD_eq_getElem?_getD]
theorem At.right {s : ByteArray} {p : Nat} {xs ys : List Nat} (h : At s p (xs ++ ys)) : At s (p + xs.length) ys := fun i hi hs => by
 have := h (xs.length + i) (by rw [List.length_append]; omega) (by omega)
 rw [show p + xs.length + i = p + (xs.length + i) by omega, this, List.getD_eq_getElem?_getD, List.getElem?_append_right (by omega), Nat.add_sub_cancel_left, ← List.getD_eq_getElem?_getD]
theorem getD_range (f : Nat → Nat) (n i : Nat) (h : i < n) : ((List.range n).map f).getD i 0 = f i := by
 rw [List.getD_eq_getElem?_getD, List.getElem?_map, List.getElem?_range h]; rfl
theorem sum_bits (x : Nat) : ∀ n, x % 2 ^ (n + 1) = x % 2 ^ n + x / 2 ^ n % 2 * 2 ^ n := mod_step x
theorem num_at (s : ByteArray) (p x n : Nat) (h : At s p (numBits x n)) (hs : p + n ≤ 8 * s.size) : ∀ k, k ≤ n → numAt s p k = x % 2 ^ k
 | 0, _ => by simp [numAt, Nat.mod_one]
 | k + 1, hk => by
  have ih := num_at s p x n h hs k (by omega)
  have hb := h k (by rw [numBits_len]; omega) (by omega)
  rw [show numAt s p (k + 1) = numAt s p k + bitOf s (p + k) * 2 ^ k from rfl, ih, hb]
  unfold numBits
  rw [getD_range _ _ _ (by omega), sum_bits]
theorem num_of (s : ByteArray) (p x n : Nat) (h : At s p (numBits x n)) (hs : p + n ≤ 8 * s.size) (hx : x < 2 ^ n) : numAt s p n = x := by
 rw [num_at s p x n h hs n (Nat.le_refl _), Nat.mod_eq_of_lt hx]
structure CodeOf (L : List Nat) (c m x : Nat) : Prop where
 lt : c < 2 ^ m
 m1 : 1 ≤ m
 m15 : m ≤ 15
 none : ∀ n, 1 ≤ n → n < m → ¬ (firstOf L n ≤ c / 2 ^ (m - n) ∧ c / 2 ^ (m - n) < firstOf L n + cnt L n)
 this : firstOf L m ≤ c ∧ c < firstOf L m + cnt L m
 num : nth L m (c - firstOf L m) = x
theorem dec_go (L : List Nat) (s : ByteArray) (p c m x : Nat) (h : At s p (codeBits c m)) (hc : CodeOf L c m x) : ∀ d n f, n + (d + 1) = m → d < f →
  decGo L s p f n (c / 2 ^ (m - n)) = if p + m ≤ 8 * s.size then some (x, p + m) else (if p + n < 8 * s.size ∨ True then none else none)
 | d, n, 0, _, hf => by omega
 | d, n, f + 1, hn, hf => by
  simp only [or_true, if_true]
  unfold decGo
  by_cases he : 8 * s.size < p + n + 1
  ·rw [if_pos he, if_neg (by omega)]
  ·rw [if_neg he]
   have hb := h n (by rw [codeBits_len]; omega) (by omega)
   have e : 2 * (c / 2 ^ (m - n)) + bitOf s (p + n) = c / 2 ^ (m - (n + 1)) := by
    rw [hb]
    unfold codeBits
    rw [getD_range _ _ _ (by omega), show m - n = (m - (n + 1)) + 1 by omega, show m - 1 - n = m - (n + 1) by omega, Nat.pow_succ, ← Nat.div_div_eq_div_mul]
    omega
   rw [e]
   by_cases hd : d = 0
   ·subst hd
    have hm : n + 1 = m := by omega
    subst hm
    simp only [Nat.sub_self, Nat.pow_zero, Nat.div_one]
    rw [if_pos hc.this, hc.num, if_pos (by omega)]
    rfl
   ·rw [if_neg (hc.none (n + 1) (by omega) (by omega))]
    obtain ⟨d', rfl⟩ : ∃ d', d = d' + 1 := ⟨d - 1, by omega⟩
    have := dec_go L s p c m x h hc d' (n + 1) f (by omega) (by omega)
    simp only [or_true, if_true] at this
    exact this
theorem dec_of (L : List Nat) (s : ByteArray) (p c m x : Nat) (h : At s p (codeBits c m)) (hc : CodeOf L c m x) : dec L s p = if p + m ≤ 8 * s.size then some (x, p + m) else none := by
 have m1 := hc.m1
 have m15 := hc.m15
 have := dec_go L s p c m x h hc (m - 1) 0 15 (by omega) (by omega)
 simp only [or_true, if_true, Nat.sub_zero, Nat.div_eq_of_lt hc.lt] at this
 exact this
theorem fix_cnt : ∀ n : Fin 10, cnt fixLetters n.val = (if n.val = 7 then 24 else if n.val = 8 then 152 else if n.val = 9 then 112 else 0) := by decide +kernel
theorem fix_first : ∀ n : Fin 10, firstOf fixLetters n.val = (if n.val = 8 then 48 else if n.val = 9 then 400 else 0) := by decide +kernel
theorem fix_nth7 : ∀ r : Fin 24, nth fixLetters 7 r.val = 256 + r.val := by decide +kernel
theorem fix_nth8 : ∀ r : Fin 152, nth fixLetters 8 r.val = if r.val < 144 then r.val else 136 + r.val := by decide +kernel
theorem fix_nth9 : ∀ r : Fin 112, nth fixLetters 9 r.val = 144 + r.val := by decide +kernel
theorem dist_cnt : ∀ n : Fin 6, cnt fixDist n.val = (if n.val = 5 then 32 else 0) := by decide +kernel
theorem dist_first : ∀ n : Fin 6, firstOf fixDist n.val = 0 := by decide +kernel
theorem dist_nth : ∀ r : Fin 32, nth fixDist 5 r.val = r.val := by decide +kernel
theorem dist_code (y : Nat) (h : y < 32) : CodeOf fixDist y 5 y := by
 refine ⟨by omega, by omega, by omega, fun n h1 h2 => ?_, ?_, ?_⟩
 ·have := dist_cnt ⟨n, by omega⟩
  have f := dist_first ⟨n, by omega⟩
  simp only at this f
  rw [this, f, if_neg (by omega)]; omega
 ·have := dist_cnt ⟨5, by omega⟩
  have f := dist_first ⟨5, by omega⟩
  simp only at this f
  rw [this, f]; simp only [if_true]; omega
 ·have f := dist_first ⟨5, by omega⟩
  simp only at f
  rw [f, Nat.sub_zero]; exact dist_nth ⟨y, h⟩
def letC (x : Nat) : Nat := if x < 144 then 48 + x else if x < 256 then 400 + x - 144 else if x < 280 then x - 256 else 192 + x - 280
def letM (x : Nat) : Nat := if x < 144 then 8 else if x < 256 then 9 else if x < 280 then 7 else 8
theorem letterBits_eq (x : Nat) : letterBits x = codeBits (letC x) (letM x) := by
 unfold letterBits letC letM
 by_cases c1 : x < 144
 ·simp only [if_pos c1]
 ·by_cases c2 : x < 256
  ·simp only [if_neg c1, if_pos c2]
  ·by_cases c3 : x < 280
   ·simp only [if_neg c1, if_neg c2, if_pos c3]
   ·simp only [if_neg c1, if_neg c2, if_neg c3]
theorem let_code (x : Nat) (h : x < 288) : CodeOf fixLetters (letC x) (letM x) x := by
 have f7 := fix_first ⟨7, by omega⟩
 have f8 := fix_first ⟨8, by omega⟩
 have f9 := fix_first ⟨9, by omega⟩
 have k7 := fix_cnt ⟨7, by omega⟩
 have k8 := fix_cnt ⟨8, by omega⟩
 have k9 := fix_cnt ⟨9, by omega⟩
 simp at f7 f8 f9 k7 k8 k9
 have low : ∀ n, n < 7 → cnt fixLetters n = 0 := fun n hn => by
  have := fix_cnt ⟨n, by omega⟩
  simp only at this
  rw [this, if_neg (by omega), if_neg (by omega), if_neg (by omega)]
 have none7 : ∀ c m, (∀ n, 1 ≤ n → n < m → n < 7 → ¬ (firstOf fixLetters n ≤ c / 2 ^ (m - n) ∧ c / 2 ^ (m - n) < firstOf fixLetters n + cnt fixLetters n)) := fun c m n _ _ hn => by
  rw [low n hn]; omega
 unfold letC letM
 by_cases c1 : x < 144
 ·rw [if_pos c1, if_pos c1]
  refine ⟨by omega, by omega, by omega, fun n h1 h2 => ?_, by rw [f8, k8]; omega, ?_⟩
  ·by_cases hn : n < 7
   ·exact none7 _ _ n h1 h2 hn
   ·obtain rfl : n = 7 := by omega
    rw [f7, k7]; omega
  ·rw [f8, show 48 + x - 48 = x by omega, fix_nth8 ⟨x, by omega⟩]; simp only; rw [if_pos c1]
 ·rw [if_neg c1, if_neg c1]
  by_cases c2 : x < 256
  ·rw [if_pos c2, if_pos c2]
   refine ⟨by omega, by omega, by omega, fun n h1 h2 => ?_, by rw [f9, k9]; omega, ?_⟩
   ·by_cases hn : n < 7
    ·exact none7 _ _ n h1 h2 hn
    ·rcases (by omega : n = 7 ∨ n = 8) with rfl | rfl
     ·rw [f7, k7]; omega
     ·rw [f8, k8]; omega
   ·rw [f9, show 400 + x - 144 - 400 = x - 144 by omega, fix_nth9 ⟨x - 144, by omega⟩]; simp only; omega
  ·rw [if_neg c2, if_neg c2]
   by_cases c3 : x < 280
   ·rw [if_pos c3, if_pos c3]
    refine ⟨by omega, by omega, by omega, fun n h1 h2 => none7 _ _ n h1 h2 h2, by rw [f7, k7]; omega, ?_⟩
    rw [f7, Nat.sub_zero, fix_nth7 ⟨x - 256, by omega⟩]; simp only; omega
   ·rw [if_neg c3, if_neg c3]
    refine ⟨by omega, by omega, by omega, fun n h1 h2 => ?_, by rw [f8, k8]; omega, ?_⟩
    ·by_cases hn : n < 7
     ·exact none7 _ _ n h1 h2 hn
     ·obtain rfl : n = 7 := by omega
      rw [f7, k7]; omega
    ·rw [f8, show 192 + x - 280 - 48 = x - 136 by omega, fix_nth8 ⟨x - 136, by omega⟩]; simp only; rw [if_neg (by omega)]; omega
theorem dec_letter (s : ByteArray) (p x : Nat) (hx : x < 288) (h : At s p (letterBits x)) : dec fixLetters s p = if p + letM x ≤ 8 * s.size then some (x, p + letM x) else none := by
 rw [letterBits_eq] at h
 exact dec_of fixLetters s p (letC x) (letM x) x h (let_code x hx)
theorem letter_len (x : Nat) : (letterBits x).length = letM x := by rw [letterBits_eq, codeBits_len]
theorem dec_dist (s : ByteArray) (p y : Nat) (hy : y < 32) (h : At s p (codeBits y 5)) : dec fixDist s p = if p + 5 ≤ 8 * s.size then some (y, p + 5) else none :=
 dec_of fixDist s p y 5 y h (dist_code y hy)
end Go.Proofs.YtnmkmmgaoplfiaaGreatDoor
