/- The document's answer: a length, a distance, and the copy. -/
import Derived.Test.YtobfkhapeejkfaaGreatDoorWCoded
import Derived.Test.YtobfkhapeejkfaaGreatDoorRPlain
namespace Go.Proofs.YtobfkhapeejkfaaGreatDoor
open Go.RowKit
set_option linter.unusedSimpArgs false
set_option linter.unusedVariables false

theorem copyOf_next (out : List UInt8) (place d m : Nat) (hd : 0 < d) (hp : place + d = out.length) (h : place + m < (copyOf out place d m).length) : copyOf out place d m ++ [(copyOf out place d m)[place + m]] = copyOf out place d (m + 1) := by
  have e : (copyOf out place d m)[place + m] = out.getD (place + m % d) 0 := by
    have h1 : (copyOf out place d m)[place + m] = (copyOf out place d m).getD (place + m) 0 := by
      rw [List.getD_eq_getElem?_getD, List.getElem?_eq_getElem h]; rfl
    rw [h1]
    unfold copyOf
    by_cases hm : m < d
    · rw [Nat.mod_eq_of_lt hm]
      simp [List.getElem?_append_left (show place + m < out.length by omega)]
    · have e : place + m = out.length + (m - d) := by omega
      rw [e, List.getD_eq_getElem?_getD, List.getElem?_append_right (by omega)]
      simp only [Nat.add_sub_cancel_left, rep, List.getElem?_map, List.getElem?_range (show m - d < m by omega)]
      simp only [Option.map_some, Option.getD_some]
      rw [show (m - d) % d = m % d by rw [Nat.mod_eq_sub_mod (show m ≥ d by omega)]]
  rw [e]
  unfold copyOf rep
  rw [List.range_succ, List.map_append, List.append_assoc]
  rfl
theorem copyOf_zero (out : List UInt8) (place d : Nat) : copyOf out place d 0 = out := by simp [copyOf, rep]
theorem Ref.drew {w : World} {b : Nat} {s : ByteArray} {p : Nat} {out : List UInt8} {M : Int} (h : Ref w b s p out M) : Ref w.drew b s p out M :=
  h.read ⟨h.rb.c0, h.rb.c1, h.rb.c4, h.rb.fr⟩ ((BT.refl b w).drewN 1) (Nat.le_refl _)
theorem ranged_l2 (s : ByteArray) (p y : Nat) (h : y ≤ 30) : rangedOf s p y 2 = (lsum 2 y + numAt s p (y / 2 - 1), p + (y / 2 - 1)) := by
  have := lsum_2 ⟨y, by omega⟩
  simp only at this
  unfold rangedOf
  by_cases h1 : y < 2 * 2
  · rw [if_pos h1] at this ⊢
    rw [this, show y / 2 - 1 = 0 by omega]; rfl
  · rw [if_neg h1] at this ⊢
    rw [this]
theorem ranged_l4 (s : ByteArray) (p y : Nat) (h : y ≤ 30) : rangedOf s p y 4 = (lsum 4 y + numAt s p (y / 4 - 1), p + (y / 4 - 1)) := by
  have := lsum_4 ⟨y, by omega⟩
  simp only at this
  unfold rangedOf
  by_cases h1 : y < 2 * 4
  · rw [if_pos h1] at this ⊢
    rw [this, show y / 4 - 1 = 0 by omega]; rfl
  · rw [if_neg h1] at this ⊢
    rw [this]
theorem rnext_r (w : World) (b base : Nat) (s : ByteArray) (p : Nat) (L : List Nat) (v : Value) (R : Option (Nat × Nat)) (hR : dec L s p = R) (hL : L.length ≤ 400) (hs : s.size ≤ 2147483648) (h : RB w b s p)
    (ho : w.ownsRow base 333 3 v (codesAt L 16).length (flat3 (codesAt L 16))) (hne : ∀ k, v.ownBlock = some k → k ≠ b) :
    Calls Tryz.prog 233 #[.pointer (some ⟨b, 0, none⟩), v] w (nextPost b s w R) := by
  subst hR; exact rnext_c w b base s p L v hL hs h ho hne
theorem least_4i (w : World) (n A B : Nat) (N : Int) (hN : N = (n : Int)) (hn : n ≤ 30) (HA : Hid (A = 3 + lsum 4 n)) (HB : Hid (B = n / 4 - 1)) :
    Calls Tryz.prog 263 #[.int .i64 N, .int .i64 4, .int .i64 3] w fun e w' => e = .returned (.tuple #[.int .i64 (A : Int), .int .i64 (B : Int)]) ∧ w = w' := by
  subst hN; exact least_4 w n A B hn HA HB

set_option maxRecDepth 100000 in
set_option maxHeartbeats 4000000 in
theorem rcopies_c (b : Nat) (w : World) (s : ByteArray) (q : Nat) (out : List UInt8) (M : Int) (x base : Nat) (v : Value) (D : List Nat) (hs : s.size ≤ 2147483648) (h : Ref w b s q out M) (hx : 257 ≤ x) (hx2 : x ≤ 285)
    (ho : w.ownsRow base 333 3 v (codesAt D 16).length (flat3 (codesAt D 16))) (hne : ∀ k, v.ownBlock = some k → k ≠ b) (hD : D.length ≤ 400) (hfew : out.length + 258 ≤ 258 * q) :
    Calls Tryz.prog 234 #[.pointer (some ⟨b, 0, none⟩), .int .i64 (x : Int), v] w fun e w' => e = .returned (.tuple #[]) ∧ refPost b s M w (copyStep D s q out (max M 0).toNat x) w' := by
  obtain ⟨R, hR⟩ : ∃ R, R = copyStep D s q out (max M 0).toNat x := ⟨_, rfl⟩
  have HR : Hid (R = copyStep D s q out (max M 0).toNat x) := hR
  rw [← hR]
  clear hR
  obtain ⟨most, hmost⟩ : ∃ most, most = (max M 0).toNat := ⟨_, rfl⟩
  rw [← hmost] at HR
  unfold copyStep at HR
  have hh := HR.out
  rw [if_neg (by omega)] at hh
  have HR' : Hid (R = _) := hh
  clear HR hh
  obtain ⟨ao, kc, rfl⟩ := owned_slice ho
  obtain ⟨m, hm⟩ : ∃ m, m = (codesAt D 16).length := ⟨_, rfl⟩
  have HM : Hid (m = (codesAt D 16).length) := hm
  rw [← hm] at ho hne ⊢
  clear hm
  go_enter Tryz.func234, Tryz.ntmps234
  have start : ∃ n q1, lengthOf s q x = (n, q1) ∧ 3 ≤ n ∧ n ≤ 258 ∧ q ≤ q1 := by
    by_cases c2 : x = 285
    · exact ⟨258, q, by unfold lengthOf; rw [if_pos c2], by omega, by omega, Nat.le_refl _⟩
    · have b4 := rangedOf4_bd s q (x - 257) (by omega)
      have l4 := rangedOf_le s q (x - 257) 4
      exact ⟨_, _, by unfold lengthOf; rw [if_neg c2], by omega, by omega, l4⟩
  obtain ⟨n, q1, hL, n3, n258, q01⟩ := start
  have HL : Hid (lengthOf s q x = (n, q1)) := hL
  clear hL
  by_cases c2 : x = 285
  case' pos =>
    have HN : Hid (258 = n ∧ q = q1) := by
      have := HL.out; unfold lengthOf at this; rw [if_pos c2] at this; cases this; exact ⟨rfl, rfl⟩
    have hn : (258 : Int) = (n : Int) := by have := HN.out.1; omega
    go_wp2_with fail
    rw [hn]
    have r1 : RB w b s q1 := by rw [← HN.out.2]; exact h.rb
    have t1 := BT.refl b w
    clear hn
  case' neg =>
    obtain ⟨A, hA⟩ : ∃ A, A = 3 + lsum 4 (x - 257) := ⟨_, rfl⟩
    obtain ⟨B, hB⟩ : ∃ B, B = (x - 257) / 4 - 1 := ⟨_, rfl⟩
    obtain ⟨V, hV⟩ : ∃ V, V = numAt s q B := ⟨_, rfl⟩
    have HN : Hid (A + V = n ∧ q + B = q1) := by
      have := HL.out; unfold lengthOf at this; rw [if_neg c2, ranged_l4 _ _ _ (by omega), ← hB, ← hV] at this; cases this; exact ⟨by omega, rfl⟩
    have B5 : B ≤ 5 := by omega
    have HA : Hid (A = 3 + lsum 4 (x - 257)) := hA
    have HB : Hid (B = (x - 257) / 4 - 1) := hB
    have HV : Hid (V = numAt s q B) := hV
    have AV : A + V ≤ 258 := by have := HN.out; omega
    have hn : (A : Int) + (V : Int) = (n : Int) := by have := HN.out.1; omega
    clear hA hB hV
    go_wp2_with fail
    refine (least_4i w (x - 257) A B _ (by omega) (by omega) HA HB).mono ?_
    rintro e w1 ⟨rfl, rfl⟩
    go_wp2_with fail
    refine (rnumber_i w b s q B V _ rfl HV.out (by omega) hs h.rb).mono ?_
    rintro e w1 ⟨rfl, r1, t1⟩
    rw [HN.out.2] at r1
    go_wp2_with fail
    clear hn
  all_goals
    have o1 := t1.owns ho hne
    rw [HM.out] at o1 hne ⊢
    cases hd : dec D s q1 with
    | none =>
      have HE : Hid (R = .inl 1) := by unfold Hid; rw [HR'.out, HL.out, hd]
      refine (rnext_r _ b base s q1 D _ _ hd hD hs r1 o1 hne).mono ?_
      rintro e w2 ⟨t2, rfl, h4⟩
      clear hd HR'
      go_wp2
      ((try simp only [Exit.inBlock, Exit.then]); refine bodyPost_ret (results_none rfl _ _ _) rfl ?_)
      exact ⟨rfl, IT.ofBT (t1.trans t2), by rw [HE.out]; exact h4⟩
    | some yq =>
      obtain ⟨y, q2⟩ := yq
      have hy := dec_lt hd
      have hh := HR'.out
      rw [HL.out, hd] at hh
      change R = (if 29 < y then _ else _) at hh
      have HR : Hid (R = _) := hh
      clear HR' hh
      refine (rnext_r _ b base s q1 D _ _ hd hD hs r1 o1 hne).mono ?_
      rintro e w2 ⟨t2, rfl, r2⟩
      clear hd
      have T2 := t1.trans t2
      have h4 := r2.zero hy.2.1
      by_cases c3 : 29 < y
      · have HE : Hid (R = .inl 1) := by unfold Hid; rw [HR.out, if_pos c3]
        have h5 : (w2.setCell ⟨b, 4, none⟩ (.int .i64 1)).cell? ⟨b, 4, none⟩ = some (.int .i64 1) := by simp [cell_set_if, h4]
        go_wp2_with (go_at_call 165; refine (fail_c _ b 1 h4 (r2.fr 4)).mono ?_; rintro e w3 ⟨rfl, rfl⟩)
        ((try simp only [Exit.inBlock, Exit.then]); refine bodyPost_ret (results_none rfl _ _ _) rfl ?_)
        exact ⟨rfl, IT.ofBT (T2.set 4 (Or.inr rfl) _), by rw [HE.out]; exact h5⟩
      · have hh := HR.out
        rw [if_neg c3, ranged_l2 s q2 y (by omega)] at hh
        have y29 : y ≤ 29 := by omega
        have y29' : ¬ (29 : Int) < (y : Int) := by omega
        obtain ⟨B2, hB2⟩ : ∃ B2, B2 = y / 2 - 1 := ⟨_, rfl⟩
        obtain ⟨V2, hV2⟩ : ∃ V2, V2 = numAt s q2 B2 := ⟨_, rfl⟩
        obtain ⟨f, hf⟩ : ∃ f, f = lsum 2 y + V2 := ⟨_, rfl⟩
        obtain ⟨A2, hA2⟩ : ∃ A2, A2 = 1 + lsum 2 y := ⟨_, rfl⟩
        have bd2 := rangedOf2_bd s q2 y (by omega)
        rw [ranged_l2 s q2 y (by omega), ← hB2, ← hV2] at bd2
        rw [← hB2, ← hV2, ← hf] at hh
        change lsum 2 y + V2 ≤ 65536 at bd2
        rw [← hf] at bd2
        obtain ⟨d, hd⟩ : ∃ d, d = 1 + f := ⟨_, rfl⟩
        change R = (if 8 * s.size < q2 + B2 ∨ out.length < 1 + f then Sum.inl 1 else if most < out.length + n then Sum.inl 2 else Sum.inr (copyOf out (out.length - (1 + f)) (1 + f) n, q2 + B2)) at hh
        rw [← hd] at hh
        have HR' : Hid (R = _) := hh
        have HA2 : Hid (A2 = 1 + lsum 2 y) := hA2
        have HB2 : Hid (B2 = y / 2 - 1) := hB2
        have HV2 : Hid (V2 = numAt s q2 B2) := hV2
        have hn2 : (A2 : Int) + (V2 : Int) = (d : Int) := by omega
        have d1 : 1 ≤ d := by omega
        have d6 : d ≤ 65537 := by omega
        have B14 : B2 ≤ 14 := by omega
        have AV2 : A2 + V2 ≤ 65537 := by omega
        clear HR hh hB2 hV2 hA2 hf hd bd2 c3
        go_wp2_with fail
        refine (least_2 w2 y A2 B2 (by omega) HA2 HB2).mono ?_
        rintro e w3 ⟨rfl, rfl⟩
        go_wp2_with fail
        refine (rnumber_i w2 b s q2 B2 V2 _ rfl HV2.out (by omega) hs r2).mono ?_
        rintro e w3 ⟨rfl, r3, t3⟩
        have T3 := T2.trans t3
        clear h4 T2 t3 t2 r2 r1 o1
        have ref3 := h.read r3 T3 (by omega)
        obtain ⟨q3, hq3⟩ : ∃ q3, q3 = q2 + B2 := ⟨_, rfl⟩
        rw [← hq3] at r3 ref3 HR'
        have q23 : q2 ≤ q3 := by omega
        clear hq3
        obtain ⟨ao2, cap2, h2, ho2⟩ := ref3.gv
        by_cases c4 : 8 * s.size < q3
        · have HE : Hid (R = .inl 1) := by unfold Hid; rw [HR'.out, if_pos (Or.inl c4)]
          have h4 := r3.one (by omega)
          go_wp2
          go_loopw [13] (fun i wr => ∃ i' : Nat, i = .int .i64 (i' : Int) ∧ wr = w3) (fun _ _ => 0)
          case atStart => exact ⟨0, rfl, rfl⟩
          case round =>
            obtain ⟨i', rfl, rfl⟩ := hrel
            go_wp2
            all_goals
              go_end0
              exact ⟨rfl, IT.ofBT T3, by rw [HE.out]; exact h4⟩
        · have c4' : q3 ≤ 8 * s.size := by omega
          have h4 := r3.zero c4'
          by_cases c5 : out.length < d
          · have HE : Hid (R = .inl 1) := by unfold Hid; rw [HR'.out, if_pos (Or.inr c5)]
            have h5 : (w3.setCell ⟨b, 4, none⟩ (.int .i64 1)).cell? ⟨b, 4, none⟩ = some (.int .i64 1) := by simp [cell_set_if, h4]
            go_wp2_with (go_at_call 165; refine (fail_c _ b 1 h4 (r3.fr 4)).mono ?_; rintro e w4 ⟨rfl, rfl⟩)
            go_loopw [13] (fun i wr => ∃ i' : Nat, i = .int .i64 (i' : Int) ∧ wr = w3.setCell ⟨b, 4, none⟩ (.int .i64 1)) (fun _ _ => 0)
            case atStart => exact ⟨0, rfl, rfl⟩
            case round =>
              obtain ⟨i', rfl, rfl⟩ := hrel
              go_wp2
              all_goals
                go_end0
                exact ⟨rfl, IT.ofBT (T3.set 4 (Or.inr rfl) _), by rw [HE.out]; exact h5⟩
          · have c5' : d ≤ out.length := by omega
            have hh := HR'.out
            rw [if_neg (by omega)] at hh
            have HR : Hid (R = _) := hh
            clear HR' hh
            have c5i : ¬ (out.length : Int) < (d : Int) := by omega
            obtain ⟨place, hplace⟩ : ∃ place, place = out.length - d := ⟨_, rfl⟩
            rw [← hplace] at HR
            have pd : place + d = out.length := by omega
            clear hplace
            go_wp2
            go_loopw [13] (fun i wr => ∃ i' : Nat, i' ≤ n ∧ i = .int .i64 (i' : Int) ∧ IT b w wr ∧ (Ref wr b s q3 (copyOf out place d i') M ∧ i' ≤ most - out.length ∨ ∃ e : Nat, 1 ≤ e ∧ Hid (R = .inl e) ∧ wr.cell? ⟨b, 4, none⟩ = some (.int .i64 (e : Int)))) (fun i _ => n - (intOf i).toNat)
            case atStart => exact ⟨0, by omega, rfl, IT.ofBT T3, Or.inl ⟨by rw [copyOf_zero]; exact ref3, by omega⟩⟩
            case round =>
              clear T3 ref3 h4 r3 h2 ho2
              obtain ⟨i, hin, rfl, hit, hst⟩ := hrel
              rcases hst with ⟨ref, i2⟩ | ⟨e, he, HE, h4⟩
              · obtain ⟨cur, hcur⟩ : ∃ cur, cur = copyOf out place d i := ⟨_, rfl⟩
                have rl := copyOf_len out place d i
                have h4 := ref.rb.zero (by omega)
                by_cases hlt : i < n
                · have hpl : place + i < (copyOf out place d i).length := by omega
                  have nx := copyOf_next out place d i (by omega) pd hpl
                  obtain ⟨c, hc⟩ : ∃ c, c = (copyOf out place d i)[place + i] := ⟨_, rfl⟩
                  rw [← hc] at nx
                  have hc' : cur[place + i]? = some c := by rw [hcur, hc]; exact List.getElem?_eq_getElem hpl
                  rw [← hcur] at ref rl nx
                  obtain ⟨ao3, cap3, h2, ho3⟩ := ref.gv
                  have HX : Hid (cur ++ [c] = copyOf out place d (i + 1)) := nx
                  obtain ⟨g0, cap0, hv, hg0⟩ := owned_some ho3 (by omega)
                  rw [hv] at h2 ho3
                  cases hv
                  have hcell0 : wr.cell? ⟨g0, place + i, none⟩ = some (.int .u8 (c.toNat : Int)) := by
                    rw [ho3.cellAt (place + i) (by omega)]; simp [byteV, hc']
                  have HC : Hid (cur = copyOf out place d i) := hcur
                  obtain ⟨k, hk⟩ : ∃ k, k = place + i := ⟨_, rfl⟩
                  rw [← hk] at hcell0
                  have hcell := hcell0
                  have l1 : cur.length ≤ out.length + i := by omega
                  have l2 : out.length + i ≤ cur.length := by omega
                  have e9 : (cur.length : Int) - (d : Int) = (k : Int) := by omega
                  have e10 : IntKind.i64.wrap (k : Int) = (k : Int) := by simp [IntKind.wrap, IntKind.bits, IntKind.signed]; omega
                  have e11 : (0 : Int) ≤ (k : Int) := by omega
                  have e12 : (k : Int) < (cur.length : Int) := by omega
                  have e13 : k < cur.length := by omega
                  have HRL : Hid (cur.length = out.length + i) := rl
                  clear hc' hc nx hpl hcur hcell0 hk rl
                  by_cases hroom : ((out.length + i : Nat) : Int) < M
                  · go_wp2
                    go_region_law (first | (go_simp; go_at_call 230; refine (give_ok_i b wr.drew s q3 cur M c _ rfl ref.drew (by omega) hs (by omega) (by omega)).mono ?_; rintro e w5 ⟨rfl, ref5, t5⟩; go_wp2_with fail))
                    all_goals
                      go_wp2
                      go_roundw
                      case rel =>
                        rw [HX.out] at ref5
                        exact ⟨i + 1, by omega, by go_num, hit.drew.trans t5, Or.inl ⟨ref5, by omega⟩⟩
                      case measure => simp [intOf]; omega
                  · have HE : Hid (R = .inl 2) := by unfold Hid; rw [HR.out, if_pos (by omega)]
                    go_wp2
                    go_region_law (first | (go_simp; go_at_call 230; refine (give_full b wr.drew s q3 cur M _ ref.drew (by omega) (by omega)).mono ?_; rintro e w5 ⟨rfl, h5, t5⟩; go_wp2_with fail))
                    all_goals
                      go_wp2
                      go_roundw
                      case rel => exact ⟨i + 1, by omega, by go_num, hit.drew.trans t5, Or.inr ⟨2, by omega, HE, h5⟩⟩
                      case measure => simp [intOf]; omega
                · obtain rfl : i = n := by omega
                  have HE : Hid (R = .inr (copyOf out place d i, q3)) := by unfold Hid; rw [HR.out, if_neg (by omega)]
                  go_wp2
                  go_end0
                  exact ⟨rfl, hit, by rw [HE.out]; exact ref⟩
              · have e0 : ((e : Int) == 0) = false := by simp; omega
                go_wp2
                all_goals
                  go_end0
                  exact ⟨rfl, hit, by rw [HE.out]; exact h4⟩
end Go.Proofs.YtobfkhapeejkfaaGreatDoor
