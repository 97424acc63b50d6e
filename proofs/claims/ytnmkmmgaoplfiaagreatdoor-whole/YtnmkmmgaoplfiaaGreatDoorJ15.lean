/- Texts of this seat, joined. -/
import Derived.Test.YtnmkmmgaoplfiaaGreatDoorJ14
import Derived.Test.YtnmkmmgaoplfiaaGreatDoorJ11
import Derived.Deep.LoopGhost
import Derived.Deep.RegionLaw
set_option linter.unusedSimpArgs false
set_option linter.unusedVariables false
set_option maxRecDepth 100000
set_option maxHeartbeats 20000000
namespace Go.Proofs.YtnmkmmgaoplfiaaGreatDoor
open Go.RowKit
def rep (out : List UInt8) (place d n : Nat) : List UInt8 := (List.range n).map fun i => out.getD (place + i % d) 0
def copyOf (out : List UInt8) (place d n : Nat) : List UInt8 := out ++ rep out place d n
theorem rep_len (out : List UInt8) (place d n : Nat) : (rep out place d n).length = n := by simp [rep]
theorem copyOf_len (out : List UInt8) (place d n : Nat) : (copyOf out place d n).length = out.length + n := by simp [copyOf, rep_len]
theorem copyOf_at (out : List UInt8) (place d m i : Nat) (hd : 0 < d) (hp : place + d = out.length) (hi : i < d + m) (hm : m % d = 0 ∨ i < d) : (copyOf out place d m).getD (place + i) 0 = out.getD (place + i % d) 0 := by
 unfold copyOf
 by_cases h : i < d
 ·rw [Nat.mod_eq_of_lt h]
  simp [List.getElem?_append_left (show place + i < out.length by omega)]
 ·have e : place + i = out.length + (i - d) := by omega
  rw [e, List.getD_eq_getElem?_getD, List.getElem?_append_right (by omega)]
  simp only [Nat.add_sub_cancel_left, rep, List.getElem?_map, List.getElem?_range (show i - d < m by omega)]
  simp only [Option.map_some, Option.getD_some]
  rw [show (i - d) % d = i % d by rw [Nat.mod_eq_sub_mod (show i ≥ d by omega)]]
theorem copyOf_more (out : List UInt8) (place d m c : Nat) (hd : 0 < d) (hp : place + d = out.length) (hc : c ≤ d + m) (hm : m % d = 0) :
  copyOf out place d m ++ (((copyOf out place d m).drop place).take c) = copyOf out place d (m + c) := by
 have e : ((copyOf out place d m).drop place).take c = (List.range c).map (fun i => out.getD (place + (m + i) % d) 0) := by
  apply List.ext_getElem?
  intro j
  by_cases hj : j < c
  ·have h1 := copyOf_at out place d m j hd hp (by omega) (Or.inl hm)
   have hl := copyOf_len out place d m
   rw [List.getElem?_take_of_lt hj, List.getElem?_drop, List.getElem?_map, List.getElem?_range hj]
   rw [List.getD_eq_getElem?_getD, List.getElem?_eq_getElem (by omega)] at h1
   rw [List.getElem?_eq_getElem (by omega)]
   simp only [Option.getD_some, Option.map_some] at h1 ⊢
   rw [h1, Nat.add_mod m j d, hm, Nat.zero_add, Nat.mod_mod]
  ·rw [List.getElem?_eq_none (by simp [copyOf_len]; omega), List.getElem?_eq_none (by simp; omega)]
 rw [e]
 unfold copyOf rep
 rw [List.append_assoc, List.range_add, List.map_append, List.map_map]
 rfl
theorem src_part {W : World} {base g0 cap place c k : Nat} {cur : List UInt8} (ho : W.ownsRow base 5 1 (.slice (some ⟨g0, 0, none⟩) cur.length cap) cur.length (byteV cur)) (hc : place + c ≤ cur.length) : Src Tryz.prog 1 86 (.slice (some ⟨g0, place, none⟩) c k) c (byteV ((cur.drop place).take c)) W := by
 refine Src.ofSlice W Tryz.underlying86 ⟨g0, place, none⟩ c k _ ?_ ?_ ?_
 ·rw [byteV_len, List.length_take, List.length_drop]; omega
 ·intro j u hu
  have hadd : (⟨g0, place, none⟩ : Addr).add j = ⟨g0, place + j, none⟩ := by unfold Addr.add; split <;> simp_all
  have hj : j < c := by
   have := (List.getElem?_eq_some_iff.1 hu).1
   rw [byteV_len, List.length_take] at this; omega
  rw [hadd, ho.cellAt _ (by omega), ← hu]
  simp only [byteV, List.getElem?_map, List.getElem?_take_of_lt hj, List.getElem?_drop]
 ·intro u hu
  obtain ⟨x, _, rfl⟩ := List.mem_map.1 hu
  rfl
theorem copy_ok (b : Nat) (w : World) (s : ByteArray) (p : Nat) (out : List UInt8) (most : Nat) (place d n : Nat) (h : Inf w b s p out most) (hd : 0 < d) (hp : place + d = out.length) (hn : n ≤ 258) (hroom : out.length + n ≤ most) (hfew : out.length + n ≤ 258 * p) (hpp : p ≤ 17179869184) :
  Calls Tryz.prog 136 #[.pointer (some ⟨b, 0, none⟩), .int .i64 (place : Int), .int .i64 (n : Int)] w fun e w' => e = .returned (.int .i64 0) ∧ Inf w' b s p (copyOf out place d n) most ∧ IT b w w' := by
 obtain ⟨ao, cap, h5, ho⟩ := h.gv
 have h6 := h.ms
 have ht := h.top
 go_enter Tryz.func136, Tryz.ntmps136
 go_wp2_with (go_at_call 114; refine (room_c b w ao out.length cap most h.fit ht h5 h6).mono ?_; rintro e w1 ⟨rfl, k, rfl⟩)
 go_loopg [] n (fun g wr => ∃ m, g = n - m ∧ m ≤ n ∧ (m % d = 0 ∨ m = n) ∧ Inf wr b s p (copyOf out place d m) most ∧ IT b w wr)
 case atStart => exact ⟨0, by omega, by omega, Or.inl (Nat.zero_mod d), by simpa [copyOf, rep] using h.drewN k, (IT.refl b w).drewN k⟩
 case round =>
  obtain ⟨m, hgk, hm, hmd, hin, hit⟩ := hrel
  clear h5 h6 ho
  have HG : Hid (gk = n - m) := hgk
  clear hgk
  obtain ⟨ao, cap, h5, ho⟩ := hin.gv
  have hl := copyOf_len out place d m
  obtain ⟨cur, hcur⟩ : ∃ cur, cur = copyOf out place d m := ⟨_, rfl⟩
  rw [← hcur] at hin h5 ho hl
  have HC : Hid (cur = copyOf out place d m) := hcur
  have HL : Hid (cur.length = out.length + m) := hl
  have l1 : cur.length ≤ out.length + m := by omega
  have l2 : out.length + m ≤ cur.length := by omega
  clear hl hcur
  have h6 := hin.ms
  by_cases hlt : m < n
  ·have hm0 : m % d = 0 := by omega
   obtain ⟨g0, cap0, hv, hg0⟩ := owned_some ho (by omega)
   rw [hv] at h5 ho
   cases hv
   have f5 := hin.rd.fr 5
   have q1 : wr.drew.cell? ⟨b, 5, none⟩ = some (.slice (some ⟨g0, 0, none⟩) cur.length cap) := h5
   have hcap : cur.length ≤ cap := by
    rcases ho.2 with ⟨h, _⟩ | ⟨g', cap', cu, h, _, _, h5, _⟩
    ·cases h
    ·cases h; exact h5
   have hlt' := hin.lt
   have hbs : b + 1 ≤ wr.drew.drew.heap.size := hlt'
   obtain ⟨i0, hi, hz0, hz1, hz2⟩ := info_parts Tryz.infoByte
   have c3 : ∀ c, c ≤ 258 → cur.length + c ≤ maxLen := by intro c _; unfold maxLen; omega
   have c4 : ∀ c, c ≤ 258 → (cur.length + c) * 1 ≤ 140737488355328 := by intro c _; omega
   by_cases hc : n - m ≤ d + m
   ·obtain ⟨c, hcc⟩ : ∃ c, c = n - m := ⟨_, rfl⟩
    have e9 : (out.length : Int) + (n : Int) - (cur.length : Int) = (c : Int) := by omega
    have c0 : 0 < c := by omega
    have c1 : c ≤ d + m := by omega
    have c2 : m + c ≤ n := by omega
    have c5 : (m + c) % d = 0 ∨ m + c = n := by right; omega
    have HCC : Hid (c = n - m) := hcc
    clear hcc
    have x1 : IntKind.i64.wrap ((place : Int) + (c : Int)) = (place : Int) + (c : Int) := by simp [IntKind.wrap, IntKind.bits, IntKind.signed]; omega
    have x2 : (0 : Int) ≤ (place : Int) := by omega
    have x3 : (place : Int) ≤ (place : Int) + (c : Int) := by omega
    have x4 : (place : Int) + (c : Int) ≤ (cap : Int) := by omega
    have x5 : ((place : Int) + (c : Int)).toNat = place + c := by omega
    have x6 : ¬ place = cap := by omega
    have x7 : ¬ cap = place := by omega
    have x8 : place < cap := by omega
    have x9 : place + c ≤ cap := by omega
    go_wp2
    go_region
    all_goals go_wp2
    go_region_law (refine step_append_src rfl (.tmp 47) (.tmp 56) 86 86 rfl (b + 1) 5 i0 (.int .u8 0) 1 Tryz.underlying86 hi hz0 hz1 hz2 rfl _ _ _ (by simp [Act.eval, Act.put]) (show wr.drew.drew.ownsRow (b + 1) 5 1 (.slice (some ⟨g0, 0, none⟩) cur.length cap) cur.length (byteV cur) from ho) _ _ _ (by simp [Act.eval, Act.put]) (src_part (place := place) (c := c) (k := cap - place) ho (by omega)) (c3 c (by omega)) (c4 c (by omega)) hbs ?_; intro v' w1 hown' hgrow; obtain ⟨q5, q6⟩ := hin.cell5 h5 ho (((Touch.refl _ wr).drew).drew) hgrow; obtain ⟨g', cap', hv', _⟩ := owned_some hown' (by omega); rw [hv'] at hown' ⊢)
    all_goals
     go_wp2
     go_roundg (n - (m + c))
     case measure => rw [HG.out]; omega
     case rel =>
      have nl : ((cur.drop place).take c).length = c := by rw [List.length_take, List.length_drop]; omega
      have e10 : cur ++ (cur.drop place).take c = copyOf out place d (m + c) := by
       rw [HC.out]; exact copyOf_more out place d m c hd hp c1 hm0
      have gi := hin.given (p := p) (q := p) (new := (cur.drop place).take c) h5 ho (((Touch.refl _ wr).drew).drew) hgrow (by rw [nl]; exact hown') (by rw [nl]; omega) (by rw [nl]; omega)
      rw [e10] at gi
      exact ⟨m + c, rfl, c2, c5, gi.1, hit.trans gi.2⟩
   ·obtain ⟨c, hcc⟩ : ∃ c, c = d + m := ⟨_, rfl⟩
    have e9 : (cur.length : Int) - (place : Int) = (c : Int) := by omega
    have c0 : 0 < c := by omega
    have c1 : c ≤ d + m := by omega
    have c2 : m + c ≤ n := by omega
    have c5 : (m + c) % d = 0 ∨ m + c = n := by left; rw [hcc]; simp [Nat.add_mod, hm0]
    have HCC : Hid (c = d + m) := hcc
    clear hcc
    have x1 : IntKind.i64.wrap ((place : Int) + (c : Int)) = (place : Int) + (c : Int) := by simp [IntKind.wrap, IntKind.bits, IntKind.signed]; omega
    have x2 : (0 : Int) ≤ (place : Int) := by omega
    have x3 : (place : Int) ≤ (place : Int) + (c : Int) := by omega
    have x4 : (place : Int) + (c : Int) ≤ (cap : Int) := by omega
    have x5 : ((place : Int) + (c : Int)).toNat = place + c := by omega
    have x6 : ¬ place = cap := by omega
    have x7 : ¬ cap = place := by omega
    have x8 : place < cap := by omega
    have x9 : place + c ≤ cap := by omega
    go_wp2
    go_region
    all_goals go_wp2
    go_region_law (refine step_append_src rfl (.tmp 47) (.tmp 56) 86 86 rfl (b + 1) 5 i0 (.int .u8 0) 1 Tryz.underlying86 hi hz0 hz1 hz2 rfl _ _ _ (by simp [Act.eval, Act.put]) (show wr.drew.drew.ownsRow (b + 1) 5 1 (.slice (some ⟨g0, 0, none⟩) cur.length cap) cur.length (byteV cur) from ho) _ _ _ (by simp [Act.eval, Act.put]) (src_part (place := place) (c := c) (k := cap - place) ho (by omega)) (c3 c (by omega)) (c4 c (by omega)) hbs ?_; intro v' w1 hown' hgrow; obtain ⟨q5, q6⟩ := hin.cell5 h5 ho (((Touch.refl _ wr).drew).drew) hgrow; obtain ⟨g', cap', hv', _⟩ := owned_some hown' (by omega); rw [hv'] at hown' ⊢)
    all_goals
     go_wp2
     go_roundg (n - (m + c))
     case measure => rw [HG.out]; omega
     case rel =>
      have nl : ((cur.drop place).take c).length = c := by rw [List.length_take, List.length_drop]; omega
      have e10 : cur ++ (cur.drop place).take c = copyOf out place d (m + c) := by
       rw [HC.out]; exact copyOf_more out place d m c hd hp c1 hm0
      have gi := hin.given (p := p) (q := p) (new := (cur.drop place).take c) h5 ho (((Touch.refl _ wr).drew).drew) hgrow (by rw [nl]; exact hown') (by rw [nl]; omega) (by rw [nl]; omega)
      rw [e10] at gi
      exact ⟨m + c, rfl, c2, c5, gi.1, hit.trans gi.2⟩
  ·obtain rfl : m = n := by omega
   go_wp2
   go_ret
   exact ⟨rfl, by rw [← HC.out]; exact hin, hit⟩
theorem room_a (b : Nat) (w : World) (ao : Option Addr) (n cap most A : Nat) (hA : A = most - n) (hn : n ≤ most) (hm : most ≤ 9223372036854775807) (h5 : w.cell? ⟨b, 5, none⟩ = some (.slice ao n cap)) (h6 : w.cell? ⟨b, 6, none⟩ = some (.int .i64 (most : Int))) :
  Calls Tryz.prog 114 #[.pointer (some ⟨b, 0, none⟩)] w fun e w' => e = .returned (.int .i64 (A : Int)) ∧ ∃ k, w' = w.drewN k := by
 subst hA; exact room_c b w ao n cap most hn hm h5 h6
theorem copy_much (b : Nat) (w : World) (s : ByteArray) (p : Nat) (out : List UInt8) (most : Nat) (place d n : Nat) (h : Inf w b s p out most) (hd : 0 < d) (hp : place + d = out.length) (hn : n ≤ 258) (hroom : most < out.length + n) (hfew : out.length + n ≤ 258 * p) (hpp : p ≤ 17179869184) :
  Calls Tryz.prog 136 #[.pointer (some ⟨b, 0, none⟩), .int .i64 (place : Int), .int .i64 (n : Int)] w fun e w' => e = .returned (.int .i64 2) ∧ IT b w w' := by
 obtain ⟨ao, cap, h5, ho⟩ := h.gv
 have h6 := h.ms
 have ht := h.top
 have hft := h.fit
 obtain ⟨A, hA⟩ : ∃ A, A = most - out.length := ⟨_, rfl⟩
 have A1 : A < n := by omega
 have A2 : out.length + A ≤ most := by omega
 have A3 : most ≤ out.length + A := by omega
 have HA : Hid (A = most - out.length) := hA
 clear hA
 go_enter Tryz.func136, Tryz.ntmps136
 go_wp2_with (go_at_call 114; refine (room_a b w ao out.length cap most A HA.out h.fit ht h5 h6).mono ?_; rintro e w1 ⟨rfl, k, rfl⟩)
 go_loopg [] A (fun g wr => ∃ m, g = A - m ∧ m ≤ A ∧ (m % d = 0 ∨ m = A) ∧ Inf wr b s p (copyOf out place d m) most ∧ IT b w wr)
 case atStart => exact ⟨0, by omega, by omega, Or.inl (Nat.zero_mod d), by simpa [copyOf, rep] using h.drewN k, (IT.refl b w).drewN k⟩
 case round =>
  obtain ⟨m, hgk, hm, hmd, hin, hit⟩ := hrel
  clear h5 h6 ho
  have HG : Hid (gk = A - m) := hgk
  clear hgk
  obtain ⟨ao, cap, h5, ho⟩ := hin.gv
  have hl := copyOf_len out place d m
  obtain ⟨cur, hcur⟩ : ∃ cur, cur = copyOf out place d m := ⟨_, rfl⟩
  rw [← hcur] at hin h5 ho hl
  have HC : Hid (cur = copyOf out place d m) := hcur
  have HL : Hid (cur.length = out.length + m) := hl
  have l1 : cur.length ≤ out.length + m := by omega
  have l2 : out.length + m ≤ cur.length := by omega
  clear hl hcur
  have h6 := hin.ms
  by_cases hlt : m < A
  ·have hm0 : m % d = 0 := by omega
   obtain ⟨g0, cap0, hv, hg0⟩ := owned_some ho (by omega)
   rw [hv] at h5 ho
   cases hv
   have f5 := hin.rd.fr 5
   have q1 : wr.drew.cell? ⟨b, 5, none⟩ = some (.slice (some ⟨g0, 0, none⟩) cur.length cap) := h5
   have hcap : cur.length ≤ cap := by
    rcases ho.2 with ⟨h, _⟩ | ⟨g', cap', cu, h, _, _, h5, _⟩
    ·cases h
    ·cases h; exact h5
   have hlt' := hin.lt
   have hbs : b + 1 ≤ wr.drew.drew.heap.size := hlt'
   obtain ⟨i0, hi, hz0, hz1, hz2⟩ := info_parts Tryz.infoByte
   have c3 : ∀ c, c ≤ 258 → cur.length + c ≤ maxLen := by intro c _; unfold maxLen; omega
   have c4 : ∀ c, c ≤ 258 → (cur.length + c) * 1 ≤ 140737488355328 := by intro c _; omega
   by_cases hc : A - m ≤ d + m
   ·obtain ⟨c, hcc⟩ : ∃ c, c = A - m := ⟨_, rfl⟩
    have e9 : (out.length : Int) + (A : Int) - (cur.length : Int) = (c : Int) := by omega
    have c0 : 0 < c := by omega
    have c1 : c ≤ d + m := by omega
    have c2 : m + c ≤ A := by omega
    have c5 : (m + c) % d = 0 ∨ m + c = A := by right; omega
    have HCC : Hid (c = A - m) := hcc
    clear hcc
    have x1 : IntKind.i64.wrap ((place : Int) + (c : Int)) = (place : Int) + (c : Int) := by simp [IntKind.wrap, IntKind.bits, IntKind.signed]; omega
    have x2 : (0 : Int) ≤ (place : Int) := by omega
    have x3 : (place : Int) ≤ (place : Int) + (c : Int) := by omega
    have x4 : (place : Int) + (c : Int) ≤ (cap : Int) := by omega
    have x5 : ((place : Int) + (c : Int)).toNat = place + c := by omega
    have x6 : ¬ place = cap := by omega
    have x7 : ¬ cap = place := by omega
    have x8 : place < cap := by omega
    have x9 : place + c ≤ cap := by omega
    go_wp2
    go_region
    all_goals go_wp2
    go_region_law (refine step_append_src rfl (.tmp 47) (.tmp 56) 86 86 rfl (b + 1) 5 i0 (.int .u8 0) 1 Tryz.underlying86 hi hz0 hz1 hz2 rfl _ _ _ (by simp [Act.eval, Act.put]) (show wr.drew.drew.ownsRow (b + 1) 5 1 (.slice (some ⟨g0, 0, none⟩) cur.length cap) cur.length (byteV cur) from ho) _ _ _ (by simp [Act.eval, Act.put]) (src_part (place := place) (c := c) (k := cap - place) ho (by omega)) (c3 c (by omega)) (c4 c (by omega)) hbs ?_; intro v' w1 hown' hgrow; obtain ⟨q5, q6⟩ := hin.cell5 h5 ho (((Touch.refl _ wr).drew).drew) hgrow; obtain ⟨g', cap', hv', _⟩ := owned_some hown' (by omega); rw [hv'] at hown' ⊢)
    all_goals
     go_wp2
     go_roundg (A - (m + c))
     case measure => rw [HG.out]; omega
     case rel =>
      have nl : ((cur.drop place).take c).length = c := by rw [List.length_take, List.length_drop]; omega
      have e10 : cur ++ (cur.drop place).take c = copyOf out place d (m + c) := by
       rw [HC.out]; exact copyOf_more out place d m c hd hp c1 hm0
      have gi := hin.given (p := p) (q := p) (new := (cur.drop place).take c) h5 ho (((Touch.refl _ wr).drew).drew) hgrow (by rw [nl]; exact hown') (by rw [nl]; omega) (by rw [nl]; omega)
      rw [e10] at gi
      exact ⟨m + c, rfl, c2, c5, gi.1, hit.trans gi.2⟩
   ·obtain ⟨c, hcc⟩ : ∃ c, c = d + m := ⟨_, rfl⟩
    have e9 : (cur.length : Int) - (place : Int) = (c : Int) := by omega
    have c0 : 0 < c := by omega
    have c1 : c ≤ d + m := by omega
    have c2 : m + c ≤ A := by omega
    have c5 : (m + c) % d = 0 ∨ m + c = A := by left; rw [hcc]; simp [Nat.add_mod, hm0]
    have HCC : Hid (c = d + m) := hcc
    clear hcc
    have x1 : IntKind.i64.wrap ((place : Int) + (c : Int)) = (place : Int) + (c : Int) := by simp [IntKind.wrap, IntKind.bits, IntKind.signed]; omega
    have x2 : (0 : Int) ≤ (place : Int) := by omega
    have x3 : (place : Int) ≤ (place : Int) + (c : Int) := by omega
    have x4 : (place : Int) + (c : Int) ≤ (cap : Int) := by omega
    have x5 : ((place : Int) + (c : Int)).toNat = place + c := by omega
    have x6 : ¬ place = cap := by omega
    have x7 : ¬ cap = place := by omega
    have x8 : place < cap := by omega
    have x9 : place + c ≤ cap := by omega
    go_wp2
    go_region
    all_goals go_wp2
    go_region_law (refine step_append_src rfl (.tmp 47) (.tmp 56) 86 86 rfl (b + 1) 5 i0 (.int .u8 0) 1 Tryz.underlying86 hi hz0 hz1 hz2 rfl _ _ _ (by simp [Act.eval, Act.put]) (show wr.drew.drew.ownsRow (b + 1) 5 1 (.slice (some ⟨g0, 0, none⟩) cur.length cap) cur.length (byteV cur) from ho) _ _ _ (by simp [Act.eval, Act.put]) (src_part (place := place) (c := c) (k := cap - place) ho (by omega)) (c3 c (by omega)) (c4 c (by omega)) hbs ?_; intro v' w1 hown' hgrow; obtain ⟨q5, q6⟩ := hin.cell5 h5 ho (((Touch.refl _ wr).drew).drew) hgrow; obtain ⟨g', cap', hv', _⟩ := owned_some hown' (by omega); rw [hv'] at hown' ⊢)
    all_goals
     go_wp2
     go_roundg (A - (m + c))
     case measure => rw [HG.out]; omega
     case rel =>
      have nl : ((cur.drop place).take c).length = c := by rw [List.length_take, List.length_drop]; omega
      have e10 : cur ++ (cur.drop place).take c = copyOf out place d (m + c) := by
       rw [HC.out]; exact copyOf_more out place d m c hd hp c1 hm0
      have gi := hin.given (p := p) (q := p) (new := (cur.drop place).take c) h5 ho (((Touch.refl _ wr).drew).drew) hgrow (by rw [nl]; exact hown') (by rw [nl]; omega) (by rw [nl]; omega)
      rw [e10] at gi
      exact ⟨m + c, rfl, c2, c5, gi.1, hit.trans gi.2⟩
  ·obtain rfl : m = A := by omega
   go_wp2
   go_ret
   exact ⟨rfl, hit⟩
end Go.Proofs.YtnmkmmgaoplfiaaGreatDoor
