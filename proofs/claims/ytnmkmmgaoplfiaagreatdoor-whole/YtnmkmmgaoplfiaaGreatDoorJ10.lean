/- Texts of this seat, joined. -/
import Derived.Test.YtnmkmmgaoplfiaaGreatDoorJ07
import Derived.Test.YtnmkmmgaoplfiaaGreatDoorJ09
set_option linter.unusedSimpArgs false
set_option linter.unusedVariables false
set_option maxRecDepth 100000
set_option maxHeartbeats 20000000
namespace Go.Proofs.YtnmkmmgaoplfiaaGreatDoor
open Go.RowKit Go.Shelf
structure Spn (w w' : World) (lb o : Nat) (e : Ent) (p t : Nat) : Prop where
 lst : ListAt w' lb o e p t
 other : ∀ i, i < o ∨ o + 13 ≤ i → w'.cell? ⟨lb, i, none⟩ = w.cell? ⟨lb, i, none⟩
 frozen : ∀ i, w'.frozen? ⟨lb, i, none⟩ = false
 touch : Touch (fun k => k = lb) w w'
theorem Spn.step {w w' w'' : World} {lb o rb : Nat} {e : Ent} {p t : Nat} (h : Spn w w' lb o e p t) (ht : Touch (fun k => k = rb) w' w'') (hr : w.heap.size ≤ rb) (hl : lb < w.heap.size) : Spn w w'' lb o e p t := by
 have hs := h.touch.size
 have hb := ht.block lb (by omega) (by show ¬ lb = rb; omega)
 exact ⟨h.lst.keep ht (by show ¬ lb = rb; omega), fun i hi => (World.cell?_of_block hb).trans (h.other i hi), fun i => (World.frozen?_of_block hb).trans (h.frozen i), h.touch.onNew ht hr⟩
theorem Spn.place {w w' : World} {lb o : Nat} {e : Ent} {p t : Nat} (h : Spn w w' lb o e p t) (q : Nat) : Spn w (w'.setCell ⟨lb, o + 5, none⟩ (.int .i64 (q : Int))) lb o e q t :=
 ⟨h.lst.setPlace q, fun i hi => by rw [cell_set_ne (by omega)]; exact h.other i hi, fun i => by rw [World.frozen?_setCell]; exact h.frozen i, h.touch.setCell (p := ⟨lb, o + 5, none⟩) rfl _⟩
theorem Spn.stop {w w' : World} {lb o : Nat} {e : Ent} {p t : Nat} (h : Spn w w' lb o e p t) (q : Nat) : Spn w (w'.setCell ⟨lb, o + 12, none⟩ (.int .i64 (q : Int))) lb o e p q :=
 ⟨h.lst.setStop q, fun i hi => by rw [cell_set_ne (by omega)]; exact h.other i hi, fun i => by rw [World.frozen?_setCell]; exact h.frozen i, h.touch.setCell (p := ⟨lb, o + 12, none⟩) rfl _⟩
theorem FR.other {w : World} {b : Nat} {s : ByteArray} {E : Nat} {p : Option Nat} (h : FR w b s E p) {lb o : Nat} (v : Value) (hn : b ≠ lb) : FR (w.setCell ⟨lb, o, none⟩ v) b s E p :=
 h.keep (S := fun k => k = lb) (touch_set w lb o v) hn
theorem findSpan_c (w : World) (lb o : Nat) (e : Ent) (pl st : Nat) (s : ByteArray) (E : Nat) (h : ListAt w lb o e pl st) (hz : ∀ i, w.frozen? ⟨lb, i, none⟩ = false) (ho : EntOk e) (hE : E ≤ s.size) (hs : s.size ≤ 140737488355328) :
  Calls Tryz.prog 51 #[.pointer (some ⟨lb, o, none⟩), .string (s.extract 0 E)] w fun r w' => r = .returned (.bool (spOk E s e)) ∧ Spn w w' lb o e (plOf E (spB E s e)) (plOf E (spT E s e)) := by
 have z0 := size_pre s E hE
 have lt : lb < w.heap.size := World.block_lt_of_cell? w ⟨lb, o + 0, none⟩ (h 0 (by omega))
 have f0 := FR.newE w s 0 E (by omega) hE _ rfl
 have h11 : w.cell? ⟨lb, o + 11, none⟩ = some (.int .i64 (e.ahead : Int)) := h 11 (by omega)
 have hA : e.ahead ≤ 1099511627776 := ho.ahead
 have hP : e.packed ≤ 1099511627776 := ho.packed
 have hF : e.flags < 65536 := ho.flags
 have S0 : Spn w (w.alloc (.cells #[.string (s.extract 0 E), .bool false] 121)) lb o e pl st := by
  have hb := Below.heap_alloc w (.cells #[.string (s.extract 0 E), .bool false] 121) lb lt
  exact ⟨h.keep ((Touch.refl (fun _ => False) w).alloc _) (fun e => e), fun i _ => World.cell?_of_block hb, fun i => (World.frozen?_of_block hb).trans (hz i), (Touch.refl _ w).alloc _⟩
 have nlb : lb ≠ w.heap.size := by omega
 have nlb' : w.heap.size ≠ lb := by omega
 obtain ⟨p0, e0⟩ : ∃ p, p = fldTo E (some 0) e.ahead := ⟨_, rfl⟩
 obtain ⟨p1, e1⟩ : ∃ p, p = spB E s e := ⟨_, rfl⟩
 have e1' : fldTo E p0 (30 + fldNum s E (fldTo E p0 26) 2 + fldNum s E (fldTo E p0 28) 2) = p1 := by rw [e1, e0]; rfl
 have HO : Hid (spOk E s e = ((hdB s E p0 e && (!laterB e || ltB s E (fldTo E p1 e.packed) e)) && (spT E s e).isSome)) := by unfold Hid spOk; rw [e0, e1]
 have HT : Hid (spT E s e = if laterB e then fldTo E (fldTo E p1 e.packed) 16 else fldTo E p1 e.packed) := by unfold Hid spT; rw [e1]
 have HE0 : Hid (p0 = fldTo E (some 0) e.ahead) := e0
 have HE1 : Hid (p1 = spB E s e) := e1
 have HE1' : Hid (fldTo E p0 (30 + fldNum s E (fldTo E p0 26) 2 + fldNum s E (fldTo E p0 28) 2) = p1) := e1'
 have HB1 : Hid (plOf E (spB E s e) = plOf E p1) := by unfold Hid; rw [e1]
 have hEs : E ≤ 140737488355328 := by omega
 clear h hz ho e0 e1 e1'
 go_enter Tryz.func51, Tryz.ntmps51
 go_wp2_with fail
 refine (take_c _ _ s E (some 0) e.ahead _ rfl (by omega) hs f0).mono ?_
 rintro r w1 ⟨rfl, f1, t1⟩
 have S1 := S0.step t1 (Nat.le_refl _) lt
 rw [← HE0.out] at f1
 clear t1 f0 S0 h11
 go_wp2_with fail
 refine (takeHeader_c _ lb o w.heap.size e pl st s E p0 S1.lst hF f1 nlb hs).mono ?_
 rintro r w2 ⟨rfl, f2, t2⟩
 have S2 := S1.step t2 (Nat.le_refl _) lt
 rw [HE1'.out] at f2
 clear t2 f1 S1
 have r2 := f2.rest
 have q2 : plOf E p1 ≤ E := by unfold plOf; cases hh : p1 with | none => exact Nat.le_refl _ | some q => exact f2.le q hh
 have a2 := plOf_rest s E p1 hE f2.le
 have a2' : (plOf E p1 : Int) ≤ 140737488355328 := by omega
 have c5 : w2.cell? ⟨lb, o + 5, none⟩ = some (.int .i64 (pl : Int)) := S2.lst 5 (by omega)
 have c3 : w2.cell? ⟨lb, o + 3, none⟩ = some (.int .i64 (e.packed : Int)) := S2.lst 3 (by omega)
 have z5 := S2.frozen (o + 5)
 have S3 := S2.place (plOf E p1)
 have f3 := f2.other (lb := lb) (o := o + 5) (.int .i64 (plOf E p1 : Int)) nlb'
 clear S2 f2
 go_wp2_with fail
 refine (take_c _ _ s E p1 e.packed _ rfl (by omega) hs f3).mono ?_
 rintro r w4 ⟨rfl, f4, t4⟩
 have S4 := S3.step t4 (Nat.le_refl _) lt
 clear t4 f3 S3 r2 a2 a2' c5 c3 z5
 obtain ⟨p2, e2⟩ : ∃ p, p = fldTo E p1 e.packed := ⟨_, rfl⟩
 rw [← e2] at f4 HO HT
 clear e2
 go_wp2_with fail
 refine (isLater_c _ lb o e _ st S4.lst hF).mono ?_
 rintro r w' ⟨rfl, rfl⟩
 cases hl : laterB e with
 | false =>
  rw [hl] at HO HT
  have HT' : Hid (spT E s e = p2) := HT
  have HO' : Hid (spOk E s e = (hdB s E p0 e && p2.isSome)) := by unfold Hid; rw [HO.out, HT'.out]; simp
  have r4 := f4.rest
  have b4 := f4.short
  have q4 : plOf E p2 ≤ E := by unfold plOf; cases hh : p2 with | none => exact Nat.le_refl _ | some q => exact f4.le q hh
  have a4 := plOf_rest s E p2 hE f4.le
  have a4' : (plOf E p2 : Int) ≤ 140737488355328 := by omega
  have c12 : w4.cell? ⟨lb, o + 12, none⟩ = some (.int .i64 (st : Int)) := S4.lst 12 (by omega)
  have z12 := S4.frozen (o + 12)
  have S5 := S4.stop (plOf E p2)
  have FIN : Hid (∀ v : Bool, v = spOk E s e → Ending.returned (.bool v) = Ending.returned (.bool (spOk E s e)) ∧ Spn w (w4.setCell ⟨lb, o + 12, none⟩ (.int .i64 (plOf E p2 : Int))) lb o e (plOf E (spB E s e)) (plOf E (spT E s e))) := by
   intro v hv
   rw [HT'.out, HB1.out]
   exact ⟨by rw [hv], S5⟩
  clear S4 S5 HO HT HT' f4
  cases hh : hdB s E p0 e with
  | false =>
   rw [hh] at HO'
   go_wp2
   go_ret
   exact FIN.out false (by rw [HO'.out]; rfl)
  | true =>
   rw [hh] at HO'
   go_wp2
   go_ret
   exact FIN.out _ (by rw [HO'.out]; cases p2 <;> rfl)
 | true =>
  rw [hl] at HO HT
  go_wp2_with fail
  refine (takeLater_c _ lb o w.heap.size e _ st s E p2 S4.lst f4 nlb hs).mono ?_
  rintro r w5 ⟨rfl, f5, t5⟩
  have S5 := S4.step t5 (Nat.le_refl _) lt
  obtain ⟨p3, e3⟩ : ∃ p, p = fldTo E p2 16 := ⟨_, rfl⟩
  have HT' : Hid (spT E s e = p3) := by unfold Hid; rw [HT.out, e3]; rfl
  rw [← e3] at f5
  have HO' : Hid (spOk E s e = ((hdB s E p0 e && ltB s E p2 e) && p3.isSome)) := by unfold Hid; rw [HO.out, HT'.out]; simp
  have r4 := f5.rest
  have b4 := f5.short
  have q4 : plOf E p3 ≤ E := by unfold plOf; cases hh : p3 with | none => exact Nat.le_refl _ | some q => exact f5.le q hh
  have a4 := plOf_rest s E p3 hE f5.le
  have a4' : (plOf E p3 : Int) ≤ 140737488355328 := by omega
  have c12 : w5.cell? ⟨lb, o + 12, none⟩ = some (.int .i64 (st : Int)) := S5.lst 12 (by omega)
  have z12 := S5.frozen (o + 12)
  have S6 := S5.stop (plOf E p3)
  have FIN : Hid (∀ v : Bool, v = spOk E s e → Ending.returned (.bool v) = Ending.returned (.bool (spOk E s e)) ∧ Spn w (w5.setCell ⟨lb, o + 12, none⟩ (.int .i64 (plOf E p3 : Int))) lb o e (plOf E (spB E s e)) (plOf E (spT E s e))) := by
   intro v hv
   rw [HT'.out, HB1.out]
   exact ⟨by rw [hv], S6⟩
  clear S4 S5 S6 HO HT HT' f4 f5 e3 t5
  cases hh : hdB s E p0 e with
  | false =>
   rw [hh] at HO'
   cases h5 : ltB s E p2 e with
   | false =>
    go_wp2
    go_ret
    exact FIN.out false (by rw [HO'.out]; rfl)
   | true =>
    go_wp2
    go_ret
    exact FIN.out false (by rw [HO'.out]; rfl)
  | true =>
   rw [hh] at HO'
   cases h5 : ltB s E p2 e with
   | false =>
    rw [h5] at HO'
    go_wp2
    go_ret
    exact FIN.out false (by rw [HO'.out]; rfl)
   | true =>
    rw [h5] at HO'
    go_wp2
    go_ret
    exact FIN.out _ (by rw [HO'.out]; cases p3 <;> rfl)
end Go.Proofs.YtnmkmmgaoplfiaaGreatDoor
namespace Go.Proofs.YtnmkmmgaoplfiaaGreatDoor
open Go.RowKit Go.Shelf
def spun (E : Nat) (s : ByteArray) (x : Spanned) : Spanned := ⟨x.ent, plOf E (spB E s x.ent), plOf E (spT E s x.ent)⟩
def SpunTo (w : World) (g : Nat) (E : Nat) (s : ByteArray) (L : List Spanned) (k : Nat) : Prop :=
 ∀ i (h : i < L.length), ListAt w g (i * 13) L[i].ent (if i < k then plOf E (spB E s L[i].ent) else L[i].place) (if i < k then plOf E (spT E s L[i].ent) else L[i].stop)
theorem SpunTo.start {w : World} {g : Nat} {E : Nat} {s : ByteArray} {L : List Spanned} (h : LstAt w g L) : SpunTo w g E s L 0 := fun i hi => by
 simpa using h.cells i hi
theorem SpunTo.step {w w' : World} {g : Nat} {E : Nat} {s : ByteArray} {L : List Spanned} {k : Nat} (h : SpunTo w g E s L k) (hk : k < L.length) (hs : Spn w w' g (k * 13) L[k].ent (plOf E (spB E s L[k].ent)) (plOf E (spT E s L[k].ent))) : SpunTo w' g E s L (k + 1) := fun i hi => by
 by_cases e : i = k
 ·subst e
  rw [if_pos (by omega), if_pos (by omega)]; exact hs.lst
 ·have h1 := h i hi
  rw [show (if i < k + 1 then plOf E (spB E s L[i].ent) else L[i].place) = if i < k then plOf E (spB E s L[i].ent) else L[i].place by by_cases hh : i < k <;> simp [hh] <;> omega]
  rw [show (if i < k + 1 then plOf E (spT E s L[i].ent) else L[i].stop) = if i < k then plOf E (spT E s L[i].ent) else L[i].stop by by_cases hh : i < k <;> simp [hh] <;> omega]
  intro j hj
  rw [hs.other _ (by omega)]; exact h1 j hj
theorem SpunTo.finish {w : World} {g : Nat} {E : Nat} {s : ByteArray} {L : List Spanned} (h : SpunTo w g E s L L.length) (hl : g < w.heap.size) : LstAt w g (L.map (spun E s)) := by
 refine ⟨fun i hi => ?_, hl⟩
 have hi' : i < L.length := by simpa using hi
 have h1 := h i hi'
 rw [if_pos hi', if_pos hi'] at h1
 simpa [spun] using h1
theorem findSpans_c (w : World) (a : Option Addr) (g cap : Nat) (L : List Spanned) (s : ByteArray) (E : Nat) (ha : 0 < L.length → a = some ⟨g, 0, none⟩) (hl : 0 < L.length → LstAt w g L ∧ ∀ i, w.frozen? ⟨g, i, none⟩ = false) (hn : L.length ≤ 10000000000) (hok : ∀ x ∈ L, EntOk x.ent) (hE : E ≤ s.size) (hs : s.size ≤ 140737488355328) :
  Calls Tryz.prog 29 #[.slice a L.length cap, .string (s.extract 0 E)] w fun r w' => r = .returned (.bool (L.all fun x => spOk E s x.ent)) ∧ ((L.all fun x => spOk E s x.ent) = true → 0 < L.length → LstAt w' g (L.map (spun E s))) ∧ Touch (fun k => k = g) w w' := by
 obtain ⟨n, hN⟩ : ∃ n, n = L.length := ⟨_, rfl⟩
 rw [← hN]
 have ha' : Hid (0 < L.length → a = some ⟨g, 0, none⟩) := ha
 have hl' : Hid (0 < L.length → LstAt w g L ∧ ∀ i, w.frozen? ⟨g, i, none⟩ = false) := hl
 have hN' : Hid (n = L.length) := hN
 have hn' : n ≤ 10000000000 := by omega
 have HS : Hid (0 < L.length → g < w.heap.size) := fun h => (hl h).1.lt
 obtain ⟨R, hR⟩ : ∃ R, R = L.all fun x => spOk E s x.ent := ⟨_, rfl⟩
 have FIN : Hid (∀ (v : Bool) (w' : World), v = R → (R = true → 0 < L.length → LstAt w' g (L.map (spun E s))) → Touch (fun k => k = g) w w' → Ending.returned (.bool v) = Ending.returned (.bool (L.all fun x => spOk E s x.ent)) ∧ ((L.all fun x => spOk E s x.ent) = true → 0 < n → LstAt w' g (L.map (spun E s))) ∧ Touch (fun k => k = g) w w') := by
  intro v w' h1 h2 h3
  rw [← hR, hN]; exact ⟨by rw [h1], h2, h3⟩
 have HR : Hid (R = (L.drop 0).all fun x => spOk E s x.ent) := hR
 clear ha hl hN hn hR
 go_enter Tryz.func29, Tryz.ntmps29
 go_wp2
 go_loopw [8] (fun i wr => ∃ k : Nat, k ≤ n ∧ i = .int .i64 (k : Int) ∧ (0 < n → SpunTo wr g E s L k ∧ ∀ i, wr.frozen? ⟨g, i, none⟩ = false) ∧ Hid (R = (L.drop k).all fun x => spOk E s x.ent) ∧ Touch (fun k => k = g) w wr) (fun i wr => n - (intOf i).toNat)
 case atStart => exact ⟨0, Nat.zero_le _, rfl, (fun h => by have := hN'.out; have h' := hl'.out (by omega); exact ⟨SpunTo.start h'.1, h'.2⟩), HR, Touch.refl _ _⟩
 case round =>
  obtain ⟨k, hk, rfl, hsp, HK, ht⟩ := hrel
  by_cases hlt : k < n
  ·have hlt' : k < L.length := by have := hN'.out; omega
   obtain rfl := ha'.out (by omega)
   obtain ⟨hS, hZ⟩ := hsp (by omega)
   have h1 := hS k hlt'
   rw [if_neg (by omega), if_neg (by omega)] at h1
   have hz := hok L[k] (List.getElem_mem hlt')
   have HX : Hid (R = (spOk E s L[k].ent && (L.drop (k + 1)).all fun x => spOk E s x.ent)) := by
    unfold Hid; rw [HK.out, List.drop_eq_getElem_cons hlt']; rfl
   have HST : Hid (∀ w', Spn wr w' g (k * 13) L[k].ent (plOf E (spB E s L[k].ent)) (plOf E (spT E s L[k].ent)) → SpunTo w' g E s L (k + 1)) := fun w' h => hS.step hlt' h
   revert h1 hz HX HST
   generalize L[k] = x
   intro h1 hz HX HST
   clear hsp hS HK
   go_wp2_with fail
   refine (findSpan_c _ g (k * 13) x.ent x.place x.stop s E h1 hZ hz hE hs).mono ?_
   rintro r w1 ⟨rfl, S1⟩
   have T1 := ht.trans S1.touch
   cases ho : spOk E s x.ent with
   | false =>
    rw [ho] at HX
    go_wp2
    go_ret
    exact FIN.out false _ (by rw [HX.out]; rfl) (fun h => by rw [HX.out] at h; cases h) T1
   | true =>
    rw [ho] at HX
    have h2 := HST.out w1 S1
    have h3 := S1.frozen
    clear S1
    go_wp2
    exact ⟨⟨k + 1, by omega, by go_num, fun _ => ⟨h2, h3⟩, by unfold Hid; rw [HX.out]; rfl, T1⟩, by simp [intOf]; omega⟩
  ·obtain rfl : k = n := by omega
   go_wp2
   go_ret
   refine FIN.out true _ (by rw [HK.out, List.drop_of_length_le (by have := hN'.out; omega)]; rfl) (fun _ h0 => ?_) ht
   have h1 := (hsp (by have := hN'.out; omega)).1
   rw [hN'.out] at h1
   exact h1.finish (by have h2 := HS.out h0; have := ht.size; omega)
end Go.Proofs.YtnmkmmgaoplfiaaGreatDoor
