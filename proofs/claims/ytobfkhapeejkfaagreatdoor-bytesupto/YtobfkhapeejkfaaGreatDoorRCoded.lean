/- The document's answer: a block of codes. -/
import Derived.Test.YtobfkhapeejkfaaGreatDoorWBlock
import Derived.Test.YtobfkhapeejkfaaGreatDoorRCopy
namespace Go.Proofs.YtobfkhapeejkfaaGreatDoor
open Go.RowKit
set_option linter.unusedSimpArgs false
set_option linter.unusedVariables false

theorem IT.code {b base n : Nat} {w w' : World} {v : Value} {xs : List Value} (h : IT b w w') (hb : b < base) (ho : w.ownsRow base 333 3 v n xs) : w'.ownsRow base 333 3 v n xs :=
  Touch.owns h ho (fun k hk => IT.not (Typed.owned ho hk) (by have := (ho.lt k hk).1; omega) (by decide))
theorem code_ne {w : World} {b base n : Nat} {v : Value} {xs : List Value} (ho : w.ownsRow base 333 3 v n xs) (hb : b < base) : ∀ k, v.ownBlock = some k → k ≠ b := fun k hk => by have := (ho.lt k hk).1; omega
theorem Ref.keepN {w w' : World} {b : Nat} {s : ByteArray} {p : Nat} {out : List UInt8} {M : Int} (h : Ref w b s p out M) (ht : Touch (fun _ => False) w w') : Ref w' b s p out M := by
  have hb := h.lt
  have c : ∀ o, w'.cell? ⟨b, o, none⟩ = w.cell? ⟨b, o, none⟩ := fun o => ht.cell hb (fun e => e)
  have f : ∀ o, w'.frozen? ⟨b, o, none⟩ = w.frozen? ⟨b, o, none⟩ := fun o => ht.frozen hb (fun e => e)
  exact h.read ⟨(c 0).trans h.rb.c0, (c 1).trans h.rb.c1, (c 4).trans h.rb.c4, fun o => (f o).trans (h.rb.fr o)⟩ ⟨ht.mono (fun _ _ e => e.elim), fun o _ _ => c o, f⟩ (Nat.le_refl _)
theorem IT.ofNone {b : Nat} {x y : World} (h : Touch (fun _ => False) x y) : IT b x y := h.mono (fun _ _ e => e.elim)
theorem rcopies_r (b : Nat) (w : World) (s : ByteArray) (q : Nat) (out : List UInt8) (M : Int) (x base : Nat) (v : Value) (D : List Nat) (R : Sum Nat (List UInt8 × Nat)) (hR : copyStep D s q out (max M 0).toNat x = R) (hs : s.size ≤ 2147483648) (h : Ref w b s q out M) (hx : 257 ≤ x) (hx2 : x ≤ 285)
    (ho : w.ownsRow base 333 3 v (codesAt D 16).length (flat3 (codesAt D 16))) (hne : ∀ k, v.ownBlock = some k → k ≠ b) (hD : D.length ≤ 400) (hfew : out.length + 258 ≤ 258 * q) :
    Calls Tryz.prog 234 #[.pointer (some ⟨b, 0, none⟩), .int .i64 (x : Int), v] w fun e w' => e = .returned (.tuple #[]) ∧ refPost b s M w R w' := by
  subst hR; exact rcopies_c b w s q out M x base v D hs h hx hx2 ho hne hD hfew
theorem codes_i (w : World) (lb lo N cap : Nat) (L : List Nat) (few ok : Bool) (hok : okOf L few = ok) (hlen : L.length = N) (hn : N ≤ 400) (hcells : ∀ j (h : j < L.length), w.cell? ⟨lb, lo + j, none⟩ = some (.int .i64 (L[j] : Nat))) :
    Calls Tryz.prog 232 #[.slice (some ⟨lb, lo, none⟩) N cap, .bool few] w fun e w' => ∃ v, e = .returned (.tuple #[v, .bool ok]) ∧ (ok = true → w'.ownsRow w.heap.size 333 3 v (codesAt L 16).length (flat3 (codesAt L 16))) ∧ Touch (fun _ => False) w w' := by
  subst hok; exact codes_c w lb lo N cap L few hlen hn hcells

set_option maxRecDepth 100000 in
set_option maxHeartbeats 4000000 in
theorem rcoded_c (b : Nat) (w : World) (s : ByteArray) (p : Nat) (out : List UInt8) (M : Int) (lb lo N1 k1 db dof N2 k2 : Nat) (L D : List Nat) (hs : s.size ≤ 2147483648) (h : Ref w b s p out M) (hp : p ≤ 8 * s.size) (hl1 : L.length = N1) (hl2 : D.length = N2) (n1 : N1 ≤ 288) (n2 : N2 ≤ 32)
    (c1 : ∀ j (h : j < L.length), w.cell? ⟨lb, lo + j, none⟩ = some (.int .i64 (L[j] : Nat))) (c2 : ∀ j (h : j < D.length), w.cell? ⟨db, dof + j, none⟩ = some (.int .i64 (D[j] : Nat))) (f : Nat) (hf : 8 * s.size + 1 ≤ p + f) :
    Calls Tryz.prog 163 #[.pointer (some ⟨b, 0, none⟩), .slice (some ⟨lb, lo, none⟩) N1 k1, .slice (some ⟨db, dof, none⟩) N2 k2] w fun e w' => e = .returned (.tuple #[]) ∧ refPost b s M w (if fine L D = true then codedGo L D s (max M 0).toNat f p out else .inl 1) w' := by
  obtain ⟨R, hR⟩ : ∃ R, R = (if fine L D = true then codedGo L D s (max M 0).toNat f p out else .inl 1) := ⟨_, rfl⟩
  have HR0 : Hid (R = (if fine L D = true then codedGo L D s (max M 0).toNat f p out else .inl 1)) := hR
  rw [← hR]
  clear hR
  have hlt := h.lt
  obtain ⟨most, hmost⟩ : ∃ most, most = (max M 0).toNat := ⟨_, rfl⟩
  rw [← hmost] at HR0
  have HF : Hid (fine L D = (okOf L false && okOf D true)) := fine_ok L D
  obtain ⟨ok1, ho1⟩ : ∃ o, okOf L false = o := ⟨_, rfl⟩
  obtain ⟨ok2, ho2⟩ : ∃ o, okOf D true = o := ⟨_, rfl⟩
  have HO1 : Hid (okOf L false = ok1) := ho1
  have HO2 : Hid (okOf D true = ok2) := ho2
  clear ho1 ho2
  go_enter Tryz.func163, Tryz.ntmps163
  go_wp2_with fail
  refine (codes_i w lb lo N1 k1 L false ok1 HO1.out hl1 (by omega) c1).mono ?_
  rintro e w1 ⟨v1, rfl, hv1, t1⟩
  go_wp2_with fail
  refine (codes_i w1 db dof N2 k2 D true ok2 HO2.out hl2 (by omega) (fun j hj => t1.at (c2 j hj) (fun e => e))).mono ?_
  rintro e w2 ⟨v2, rfl, hv2, t2⟩
  have T2 := t1.trans t2
  have ref2 := h.keepN T2
  have h4 := ref2.rb.zero hp
  have f4 := ref2.rb.fr 4
  have sz := t1.size
  by_cases hok : ok1 = true ∧ ok2 = true
  · obtain ⟨rfl, rfl⟩ := hok
    have o1 := t2.owns (hv1 rfl) (fun _ _ e => e)
    have o2 := hv2 rfl
    have HS : Hid (R = codedGo L D s most f p out) := by unfold Hid; rw [HR0.out, if_pos (by rw [HF.out, HO1.out, HO2.out]; rfl)]
    clear hv1 hv2 HR0
    go_wp2
    go_loopg [] f (fun g wr => IT b w2 wr ∧ ((∃ p out, Ref wr b s p out M ∧ p ≤ 8 * s.size ∧ 8 * s.size + 1 ≤ p + g ∧ Hid (R = codedGo L D s most g p out)) ∨ ∃ e : Nat, 1 ≤ e ∧ Hid (R = .inl e) ∧ wr.cell? ⟨b, 4, none⟩ = some (.int .i64 (e : Int))))
    case atStart => exact ⟨IT.refl _ _, Or.inl ⟨p, out, ref2, hp, hf, HS⟩⟩
    case round =>
      clear HS ref2 hp hf h4 f4 h
      obtain ⟨hit, hst⟩ := hrel
      rcases hst with ⟨p, out, ref, hp, hf, HR⟩ | ⟨e, he, HE, h4⟩
      · obtain ⟨g, rfl⟩ : ∃ g, gk = g + 1 := ⟨gk - 1, by omega⟩
        have h4 := ref.rb.zero hp
        have o1' := hit.code hlt o1
        have o2' := hit.code (Nat.lt_of_lt_of_le hlt sz) o2
        have ne1 := code_ne o1' hlt
        have ne2 := code_ne o2' (Nat.lt_of_lt_of_le hlt sz)
        have hfew := ref.few
        cases hd : dec L s p with
        | none =>
          have HE : Hid (R = .inl 1) := by unfold Hid; rw [HR.out, codedGo_none _ _ _ _ _ _ _ hd]
          have HD : Hid (dec L s p = none) := hd
          clear hd
          go_wp2_with (go_at_call 233; refine (rnext_r wr b w.heap.size s p L v1 _ HD.out (by omega) hs ref.rb o1' ne1).mono ?_; rintro e w3 ⟨t3, rfl, h5⟩)
          ((try simp only [Exit.inBlock, Exit.then]); refine bodyPost_ret (results_none rfl _ _ _) rfl ?_)
          exact ⟨rfl, (IT.ofNone T2).trans (hit.trans (IT.ofBT t3)), by rw [HE.out]; exact h5⟩
        | some xq =>
          obtain ⟨x, q⟩ := xq
          have hx := dec_lt hd
          have hh := HR.out
          rw [codedGo_some _ _ _ _ _ _ _ _ _ hd] at hh
          have HS : Hid (R = _) := hh
          have HD : Hid (dec L s p = some (x, q)) := hd
          clear hd HR hh
          by_cases x1 : x = 256
          · have HE : Hid (R = .inr (out, q)) := by unfold Hid; rw [HS.out, if_pos x1]
            go_wp2_with (go_at_call 233; refine (rnext_r wr b w.heap.size s p L v1 _ HD.out (by omega) hs ref.rb o1' ne1).mono ?_; rintro e w3 ⟨t3, rfl, r3⟩)
            ((try simp only [Exit.inBlock, Exit.then]); refine bodyPost_ret (results_none rfl _ _ _) rfl ?_)
            exact ⟨rfl, (IT.ofNone T2).trans (hit.trans (IT.ofBT t3)), by rw [HE.out]; exact ref.read r3 t3 (by omega)⟩
          · have T3 : ∀ w3, BT b wr w3 → IT b w2 w3 := fun w3 t3 => hit.trans (IT.ofBT t3)
            have x0 : ¬ (x : Int) < 0 := by omega
            have x00 : decide ((x : Int) < 0) = false := by simp
            have x5 : ((x : Int) == 256) = false := by simp; omega
            by_cases x2 : x < 256
            · by_cases x3 : most ≤ out.length
              · have HE : Hid (R = .inl 2) := by unfold Hid; rw [HS.out, if_neg x1, if_pos x2, if_pos x3]
                go_wp2_with (first | (go_at_call 233; refine (rnext_r wr b w.heap.size s p L v1 _ HD.out (by omega) hs ref.rb o1' ne1).mono ?_; rintro e w3 ⟨t3, rfl, r3⟩; have ref3 := ref.read r3 t3 (by omega)) | (go_at_call 230; refine (give_full b w3 s q out M _ ref3 (by omega) (by omega)).mono ?_; rintro e w4 ⟨rfl, h5, t5⟩))
                go_roundg g
                case measure => omega
                case rel => exact ⟨(T3 w3 t3).trans t5, Or.inr ⟨2, by omega, HE, h5⟩⟩
              · have HE : Hid (R = codedGo L D s most g q (out ++ [UInt8.ofNat x])) := by unfold Hid; rw [HS.out, if_neg x1, if_pos x2, if_neg x3]
                go_wp2_with (first | (go_at_call 233; refine (rnext_r wr b w.heap.size s p L v1 _ HD.out (by omega) hs ref.rb o1' ne1).mono ?_; rintro e w3 ⟨t3, rfl, r3⟩; have ref3 := ref.read r3 t3 (by omega)) | (go_at_call 230; refine (give_ok_i b w3 s q out M (UInt8.ofNat x) _ (byte_of x x2) ref3 (by omega) hs (by omega) (by omega)).mono ?_; rintro e w4 ⟨rfl, ref5, t5⟩))
                go_roundg g
                case measure => omega
                case rel => exact ⟨(T3 w3 t3).trans t5, Or.inl ⟨q, _, ref5, by omega, by omega, HE⟩⟩
            · by_cases x4 : 285 < x
              · have HE : Hid (R = .inl 1) := by unfold Hid; rw [HS.out, if_neg x1, if_neg x2, show copyStep D s q out most x = .inl 1 by unfold copyStep; rw [if_pos x4]]
                go_wp2_with (first | (go_at_call 233; refine (rnext_r wr b w.heap.size s p L v1 _ HD.out (by omega) hs ref.rb o1' ne1).mono ?_; rintro e w3 ⟨t3, rfl, r3⟩; have ref3 := ref.read r3 t3 (by omega)) | (go_at_call 165; refine (fail_c w3 b 1 (r3.zero (by omega)) (r3.fr 4)).mono ?_; rintro e w4 ⟨rfl, rfl⟩))
                go_roundg g
                case measure => omega
                case rel => exact ⟨hit.trans (IT.ofBT (t3.set 4 (Or.inr rfl) _)), Or.inr ⟨1, by omega, HE, by simp [cell_set_if, r3.zero hx.2.1]⟩⟩
              · cases hC : copyStep D s q out most x with
                | inl k =>
                  have hk := copyStep_inl _ _ _ _ _ _ _ hC
                  have HE : Hid (R = .inl k) := by unfold Hid; rw [HS.out, if_neg x1, if_neg x2, hC]
                  have HC : Hid (copyStep D s q out (max M 0).toNat x = .inl k) := by rw [← hmost]; exact hC
                  clear hC HS
                  go_wp2_with (first | (go_at_call 233; refine (rnext_r wr b w.heap.size s p L v1 _ HD.out (by omega) hs ref.rb o1' ne1).mono ?_; rintro e w3 ⟨t3, rfl, r3⟩; have ref3 := ref.read r3 t3 (by omega)) | (go_at_call 234; refine (rcopies_r b w3 s q out M x w1.heap.size v2 D _ HC.out hs ref3 (by omega) (by omega) (t3.owns o2' ne2) ne2 (by omega) (by omega)).mono ?_; rintro e w4 ⟨rfl, t5, h5⟩))
                  go_roundg g
                  case measure => omega
                  case rel => exact ⟨(T3 w3 t3).trans t5, Or.inr ⟨k, by omega, HE, h5⟩⟩
                | inr oq =>
                  obtain ⟨o, q'⟩ := oq
                  have hle := copyStep_le _ _ _ _ _ _ _ _ hC
                  have HE : Hid (R = codedGo L D s most g q' o) := by unfold Hid; rw [HS.out, if_neg x1, if_neg x2, hC]
                  have HC : Hid (copyStep D s q out (max M 0).toNat x = .inr (o, q')) := by rw [← hmost]; exact hC
                  clear hC HS
                  go_wp2_with (first | (go_at_call 233; refine (rnext_r wr b w.heap.size s p L v1 _ HD.out (by omega) hs ref.rb o1' ne1).mono ?_; rintro e w3 ⟨t3, rfl, r3⟩; have ref3 := ref.read r3 t3 (by omega)) | (go_at_call 234; refine (rcopies_r b w3 s q out M x w1.heap.size v2 D _ HC.out hs ref3 (by omega) (by omega) (t3.owns o2' ne2) ne2 (by omega) (by omega)).mono ?_; rintro e w4 ⟨rfl, t5, ref5⟩))
                  go_roundg g
                  case measure => omega
                  case rel => exact ⟨(T3 w3 t3).trans t5, Or.inl ⟨q', o, ref5, hle.1, by omega, HE⟩⟩
      · have e0 : ((e : Int) == 0) = false := by simp; omega
        go_wp2
        go_end0
        exact ⟨rfl, (IT.ofNone T2).trans hit, by rw [HE.out]; exact h4⟩
  · have HE : Hid (R = .inl 1) := by
      unfold Hid; rw [HR0.out, if_neg]; rw [HF.out, HO1.out, HO2.out]
      intro hc; exact hok (by simpa using hc)
    have h5 : (w2.setCell ⟨b, 4, none⟩ (.int .i64 1)).cell? ⟨b, 4, none⟩ = some (.int .i64 1) := by simp [cell_set_if, h4]
    clear hv1 hv2 HR0
    cases ok1 <;> cases ok2
    all_goals first | (exfalso; exact hok ⟨rfl, rfl⟩) | skip
    all_goals
      go_wp2_with (go_at_call 165; refine (fail_c _ b 1 h4 f4).mono ?_; rintro e w3 ⟨rfl, rfl⟩)
      go_loopw [] (fun wr => wr = w2.setCell ⟨b, 4, none⟩ (.int .i64 1)) (fun _ => 0)
      case atStart => rfl
      case round =>
        obtain rfl := hrel
        go_wp2
        go_end0
        exact ⟨rfl, (IT.ofNone T2).trans (IT.ofBT ((BT.refl b w2).set 4 (Or.inr rfl) _)), by rw [HE.out]; exact h5⟩
end Go.Proofs.YtobfkhapeejkfaaGreatDoor
