/- Texts of this seat, joined. -/
import Derived.Test.YtmhlkdlcpicekaaGreatDoorJ18
import Derived.Test.YtmhlkdlcpicekaaGreatDoorJ14
set_option linter.unusedSimpArgs false
set_option linter.unusedVariables false
set_option maxRecDepth 100000
set_option maxHeartbeats 20000000
namespace Go.Proofs.YtmhlkdlcpicekaaGreatDoor
open Go.RowKit Go.Shelf Go.Maps
def twiceGo : List Spanned → (List UInt8 → Nat) → Bool
 | [], _ => false
 | x :: l, U => match claimOf U x.ent.name with
  | none => true
  | some V => twiceGo l V
theorem anyTwice_c (w : World) (a : Option Addr) (g cap : Nat) (L : List Spanned) (ha : 0 < L.length → a = some ⟨g, 0, none⟩) (hl : 0 < L.length → LstAt w g L) (hn : L.length ≤ 10000000000) (hok : ∀ x ∈ L, x.ent.name.size ≤ 60) :
  Calls Tryz.prog 47 #[.slice a L.length cap] w fun r w' => r = .returned (.bool (twiceGo L (fun _ => 0))) ∧ Touch (fun _ => False) w w' := by
 obtain ⟨n, hN⟩ : ∃ n, n = L.length := ⟨_, rfl⟩
 rw [← hN]
 have ha' : Hid (0 < L.length → a = some ⟨g, 0, none⟩) := ha
 have hl' : Hid (0 < L.length → LstAt w g L) := hl
 have hN' : Hid (n = L.length) := hN
 have hn' : n ≤ 10000000000 := by omega
 have hmm := @run_makeMap Tryz.prog
 have T0 : Touch (fun _ => False) w (w.alloc (.map #[] 0)) := (Touch.refl _ w).alloc _
 have M0 := MapIs.new w
 clear ha hl hN hn
 go_enter Tryz.func47, Tryz.ntmps47
 go_wp2
 go_loopw [9] (fun i wr => ∃ k : Nat, k ≤ n ∧ i = .int .i64 (k : Int) ∧ (∃ V, MapIs wr w.heap.size (61 * k) V ∧ Hid (twiceGo L (fun _ => 0) = twiceGo (L.drop k) V)) ∧ Touch (fun _ => False) w wr) (fun i wr => n - (intOf i).toNat)
 case atStart => exact ⟨0, Nat.zero_le _, rfl, ⟨_, M0, rfl⟩, T0⟩
 case round =>
  obtain ⟨k, hk, rfl, ⟨V, hV, HV⟩, ht⟩ := hrel
  by_cases hlt : k < n
  ·have hlt' : k < L.length := by have := hN'.out; omega
   obtain rfl := ha'.out (by omega)
   have hL := (hl'.out (by omega)).keep ht (fun e => e)
   have hC := hL.cells k hlt'
   have HX : Hid (twiceGo L (fun _ => 0) = match claimOf V L[k].ent.name with | none => true | some V' => twiceGo (L.drop (k + 1)) V') := by
    unfold Hid; rw [HV.out, List.drop_eq_getElem_cons hlt']; rfl
   have hz := hok L[k] (List.getElem_mem hlt')
   revert hC HX hz
   generalize L[k] = x
   intro hC HX hz
   have c0 := hC 0 (by omega)
   have c1 := hC 1 (by omega)
   have c2 := hC 2 (by omega)
   have c3 := hC 3 (by omega)
   have c4 := hC 4 (by omega)
   have c5 := hC 5 (by omega)
   have c6 := hC 6 (by omega)
   have c7 := hC 7 (by omega)
   have c8 := hC 8 (by omega)
   have c9 := hC 9 (by omega)
   have c10 := hC 10 (by omega)
   have c11 := hC 11 (by omega)
   have c12 := hC 12 (by omega)
   simp only [listL, List.getElem?_cons_zero, List.getElem?_cons_succ, Nat.add_zero] at c0 c1 c2 c3 c4 c5 c6 c7 c8 c9 c10 c11 c12
   have hw := ht.size
   have hV1 := hV.keep ((Touch.refl (fun _ => False) wr).alloc (Obj.cells #[.string x.ent.name, .int .i64 (x.ent.method : Int), .int .u32 (x.ent.sum : Int), .int .i64 (x.ent.packed : Int), .int .i64 (x.ent.size : Int), .int .i64 (x.place : Int), .int .i64 (x.ent.maker : Int), .int .i64 (x.ent.flags : Int), .int .i64 (x.ent.disk : Int), .int .i64 (x.ent.outer : Int), .string x.ent.three, .int .i64 (x.ent.ahead : Int), .int .i64 (x.stop : Int)] 179)) (fun e => e)
   clear hC hlt' hL
   go_wp2_with fail
   refine (claim_c _ w.heap.size (61 * k) V x.ent.name hz (by omega) hV1).mono ?_
   rintro r w1 ⟨rfl, hc, t1⟩
   have T1 := (ht.alloc _).onNew t1 (Nat.le_refl _)
   clear t1 c0 c1 c2 c3 c4 c5 c6 c7 c8 c9 c10 c11 c12 hV1
   cases hR : claimOf V x.ent.name with
   | none =>
    rw [hR] at HX
    go_wp2
    go_ret
    exact ⟨by rw [HX.out]; rfl, T1⟩
   | some V' =>
    rw [hR] at HX
    have hV' := hc V' hR
    clear hc
    go_wp2
    exact ⟨⟨k + 1, by omega, by go_num, ⟨V', by rw [show 61 * (k + 1) = 61 * k + 61 by omega]; exact hV', HX⟩, T1⟩, by simp [intOf]; omega⟩
  ·obtain rfl : k = n := by omega
   go_wp2
   go_ret
   exact ⟨by rw [HV.out, List.drop_of_length_le (by have := hN'.out; omega)]; rfl, ht⟩
end Go.Proofs.YtmhlkdlcpicekaaGreatDoor
namespace Go.Proofs.YtmhlkdlcpicekaaGreatDoor
open Go.RowKit
/-! ### Names -/
def leadR (p : List UInt8) (i n : Nat) (x : List UInt8) : Prop := ∃ j, i ≤ j ∧ j < i + n ∧ p[j]? = some 47 ∧ x = p.take j
theorem take_ne (p : List UInt8) (i j : Nat) (h : i < j) (hj : p[j]? = some 47) : p.take j ≠ p.take i := by
 intro e
 have hl := (List.getElem?_eq_some_iff.1 hj).1
 have := congrArg List.length e
 simp only [List.length_take] at this; omega
theorem leadTo_none (p : List UInt8) : ∀ (f i : Nat) (U : List UInt8 → Nat), leadTo p f i U = none ↔ ∃ x, leadR p i f x ∧ U x = 3
 | 0, i, U => by
  simp only [leadTo, leadR]
  constructor
  ·intro h; cases h
  ·rintro ⟨x, ⟨j, h1, h2, _⟩, _⟩; omega
 | f + 1, i, U => by
  unfold leadTo
  by_cases h47 : p[i]? = some 47
  ·rw [if_pos h47]
   by_cases h3 : U (p.take i) = 3
   ·rw [if_pos h3]
    exact ⟨fun _ => ⟨p.take i, ⟨i, Nat.le_refl _, by omega, h47, rfl⟩, h3⟩, fun _ => rfl⟩
   ·rw [if_neg h3, leadTo_none p f (i + 1)]
    constructor
    ·rintro ⟨x, ⟨j, h1, h2, h4, rfl⟩, hx⟩
     unfold updU at hx
     rw [if_neg (take_ne p i j (by omega) h4)] at hx
     exact ⟨_, ⟨j, by omega, by omega, h4, rfl⟩, hx⟩
    ·rintro ⟨x, ⟨j, h1, h2, h4, rfl⟩, hx⟩
     have hne : i ≠ j := fun e => by rw [← e] at hx; exact h3 hx
     refine ⟨_, ⟨j, by omega, by omega, h4, rfl⟩, ?_⟩
     unfold updU
     rw [if_neg (take_ne p i j (by omega) h4)]; exact hx
  ·rw [if_neg h47, leadTo_none p f (i + 1)]
   constructor
   ·rintro ⟨x, ⟨j, h1, h2, h4, rfl⟩, hx⟩
    exact ⟨_, ⟨j, by omega, by omega, h4, rfl⟩, hx⟩
   ·rintro ⟨x, ⟨j, h1, h2, h4, rfl⟩, hx⟩
    have hne : i ≠ j := fun e => by rw [← e] at h4; exact h47 h4
    exact ⟨_, ⟨j, by omega, by omega, h4, rfl⟩, hx⟩
open Classical in
theorem leadTo_some (p : List UInt8) : ∀ (f i : Nat) (U V : List UInt8 → Nat), leadTo p f i U = some V → ∀ x, V x = if leadR p i f x then max (U x) 1 else U x
 | 0, i, U, V, h, x => by
  cases h
  rw [if_neg]
  rintro ⟨j, h1, h2, _⟩; omega
 | f + 1, i, U, V, h, x => by
  unfold leadTo at h
  by_cases h47 : p[i]? = some 47
  ·rw [if_pos h47] at h
   by_cases h3 : U (p.take i) = 3
   ·rw [if_pos h3] at h; cases h
   ·rw [if_neg h3] at h
    rw [leadTo_some p f (i + 1) _ V h x]
    unfold updU
    by_cases hx : x = p.take i
    ·have hr : leadR p i (f + 1) x := ⟨i, Nat.le_refl _, by omega, h47, hx⟩
     rw [if_pos hx, ← hx, if_pos hr]
     split <;> omega
    ·rw [if_neg hx]
     have e : leadR p (i + 1) f x ↔ leadR p i (f + 1) x := by
      constructor
      ·rintro ⟨j, h1, h2, h4, h5⟩; exact ⟨j, by omega, by omega, h4, h5⟩
      ·rintro ⟨j, h1, h2, h4, h5⟩
       have hne : i ≠ j := fun e => by rw [← e] at h5; exact hx h5
       exact ⟨j, by omega, by omega, h4, h5⟩
     by_cases hr : leadR p i (f + 1) x
     ·rw [if_pos hr, if_pos (e.2 hr)]
     ·rw [if_neg hr, if_neg (fun h => hr (e.1 h))]
  ·rw [if_neg h47] at h
   rw [leadTo_some p f (i + 1) _ V h x]
   have e : leadR p (i + 1) f x ↔ leadR p i (f + 1) x := by
    constructor
    ·rintro ⟨j, h1, h2, h4, h5⟩; exact ⟨j, by omega, by omega, h4, h5⟩
    ·rintro ⟨j, h1, h2, h4, h5⟩
     have hne : i ≠ j := fun e => by rw [← e] at h4; exact h47 h4
     exact ⟨j, by omega, by omega, h4, h5⟩
   by_cases hr : leadR p i (f + 1) x
   ·rw [if_pos hr, if_pos (e.2 hr)]
   ·rw [if_neg hr, if_neg (fun h => hr (e.1 h))]
theorem leadR_all (p x : List UInt8) : leadR p 0 p.length x ↔ leadsB x p = true := by
 unfold leadR leadsB
 rw [List.isPrefixOf_iff_prefix]
 constructor
 ·rintro ⟨j, _, h2, h4, rfl⟩
  have hl : j < p.length := by omega
  obtain ⟨hl', he⟩ := List.getElem?_eq_some_iff.1 h4
  have : p.take j ++ [47] = p.take (j + 1) := by rw [List.take_succ_eq_append_getElem hl, he]
  rw [this]; exact List.take_prefix _ _
 ·rintro ⟨t, rfl⟩
  refine ⟨x.length, Nat.zero_le _, by simp, ?_, ?_⟩
  ·simp
  ·simp
theorem leads_self (p : List UInt8) : leadsB p p = false := by
 cases h : leadsB p p with
 | false => rfl
 | true =>
  unfold leadsB at h
  rw [List.isPrefixOf_iff_prefix] at h
  have := h.length_le
  simp at this; omega
structure Rep (S : List ByteArray) (U : List UInt8 → Nat) : Prop where
 three : ∀ x, U x = 3 ↔ ∃ a ∈ S, bareL a = x ∧ folderB a = false
 two : ∀ x, 2 ≤ U x ↔ ∃ a ∈ S, bareL a = x
 one : ∀ x, 1 ≤ U x ↔ ∃ a ∈ S, bareL a = x ∨ leadsB x (bareL a) = true
 most : ∀ x, U x ≤ 3
theorem Rep.nil : Rep [] (fun _ => 0) := ⟨fun x => by simp, fun x => by simp, fun x => by simp, fun x => by simp⟩
theorem claim_none {S : List ByteArray} {U : List UInt8 → Nat} (h : Rep S U) (s : ByteArray) : claimOf U s = none ↔ S.any (fun a => clashB a s) = true := by
 have key : claimOf U s = none ↔ (∃ x, leadsB x (bareL s) = true ∧ U x = 3) ∨ 1 < U (bareL s) ∨ (U (bareL s) = 1 ∧ folderB s = false) := by
  unfold claimOf
  cases hl : leadTo (bareL s) (bareL s).length 0 U with
  | none =>
   have := (leadTo_none _ _ _ _).1 hl
   obtain ⟨x, h1, h2⟩ := this
   exact ⟨fun _ => .inl ⟨x, (leadR_all _ _).1 h1, h2⟩, fun _ => rfl⟩
  | some V =>
   have hV := leadTo_some _ _ _ _ _ hl (bareL s)
   rw [if_neg (by rw [leadR_all, leads_self]; simp)] at hV
   have hn : ¬ ∃ x, leadsB x (bareL s) = true ∧ U x = 3 := by
    rintro ⟨x, h1, h2⟩
    have := (leadTo_none (bareL s) (bareL s).length 0 U).2 ⟨x, (leadR_all _ _).2 h1, h2⟩
    rw [hl] at this; cases this
   simp only [Option.bind_some, hV]
   constructor
   ·intro h
    split at h
    ·rename_i hc; exact .inr hc
    ·cases h
   ·rintro (h | h)
    ·exact absurd h hn
    ·rw [if_pos h]
 rw [key, List.any_eq_true]
 have a2 := h.two (bareL s)
 have a1 := h.one (bareL s)
 constructor
 ·rintro (⟨x, h1, h2⟩ | h1 | ⟨h1, h2⟩)
  ·obtain ⟨a, ha, rfl, hf⟩ := (h.three x).1 h2
   exact ⟨a, ha, by unfold clashB; simp [h1, hf]⟩
  ·obtain ⟨a, ha, hb⟩ := a2.1 h1
   exact ⟨a, ha, by unfold clashB; simp [hb]⟩
  ·obtain ⟨a, ha, hb⟩ := a1.1 (by omega)
   exact ⟨a, ha, by unfold clashB; rcases hb with hb | hb <;> simp [hb, h2]⟩
 ·rintro ⟨a, ha, hc⟩
  unfold clashB at hc
  simp only [Bool.or_eq_true, Bool.and_eq_true, Bool.not_eq_true', decide_eq_true_eq] at hc
  rcases hc with (hc | ⟨hc, hf⟩) | ⟨hc, hf⟩
  ·exact .inr (.inl (a2.2 ⟨a, ha, hc⟩))
  ·exact .inl ⟨bareL a, hc, (h.three _).2 ⟨a, ha, rfl, hf⟩⟩
  ·have := a1.2 ⟨a, ha, .inr hc⟩
   by_cases hg : 1 < U (bareL s)
   ·exact .inr (.inl hg)
   ·exact .inr (.inr ⟨by omega, hf⟩)
theorem claim_some {S : List ByteArray} {U V : List UInt8 → Nat} (h : Rep S U) (s : ByteArray) (hc : claimOf U s = some V) : Rep (S ++ [s]) V := by
 unfold claimOf at hc
 cases hl : leadTo (bareL s) (bareL s).length 0 U with
 | none => rw [hl] at hc; cases hc
 | some V0 =>
  rw [hl] at hc
  simp only [Option.bind_some] at hc
  split at hc
  ·cases hc
  ·rename_i hn
   cases hc
   have hV : ∀ x, (leadsB x (bareL s) = true ∧ V0 x = max (U x) 1) ∨ (leadsB x (bareL s) = false ∧ V0 x = U x) := by
    intro x
    have := leadTo_some _ _ _ _ _ hl x
    cases hx : leadsB x (bareL s) with
    | true => rw [if_pos ((leadR_all _ _).2 hx)] at this; exact .inl ⟨rfl, this⟩
    | false => rw [if_neg (by rw [leadR_all, hx]; simp)] at this; exact .inr ⟨rfl, this⟩
   have h0 : U (bareL s) ≤ 1 := by
    rcases hV (bareL s) with ⟨h1, _⟩ | ⟨_, h1⟩
    ·rw [leads_self] at h1; cases h1
    ·rw [h1] at hn
     apply Classical.byContradiction; intro h2; exact hn (.inl (by omega))
   have hno : ¬ ∃ a ∈ S, bareL a = bareL s := fun e => by have := (h.two _).2 e; omega
   refine ⟨fun x => ?_, fun x => ?_, fun x => ?_, fun x => ?_⟩ <;> unfold updU
   ·by_cases hx : x = bareL s
    ·rw [if_pos hx]
     cases hf : folderB s with
     | true =>
      simp only [if_true]
      constructor
      ·intro e; omega
      ·rintro ⟨a, ha, hb, hg⟩
       rw [List.mem_append] at ha
       rcases ha with ha | ha
       ·exact absurd ⟨a, ha, hb.trans hx⟩ hno
       ·simp at ha; rw [ha, hf] at hg; cases hg
     | false =>
      simp only [Bool.false_eq_true, if_false]
      exact ⟨fun _ => ⟨s, by simp, hx.symm, hf⟩, fun _ => trivial⟩
    ·rw [if_neg hx]
     have e : V0 x = 3 ↔ U x = 3 := by rcases hV x with ⟨_, h1⟩ | ⟨_, h1⟩ <;> rw [h1] <;> omega
     rw [e, h.three x]
     constructor
     ·rintro ⟨a, ha, hb⟩; exact ⟨a, List.mem_append_left _ ha, hb⟩
     ·rintro ⟨a, ha, hb, hg⟩
      rw [List.mem_append] at ha
      rcases ha with ha | ha
      ·exact ⟨a, ha, hb, hg⟩
      ·simp at ha; rw [ha] at hb; exact absurd hb.symm hx
   ·by_cases hx : x = bareL s
    ·rw [if_pos hx]
     exact ⟨fun _ => ⟨s, by simp, hx.symm⟩, fun _ => by split <;> omega⟩
    ·rw [if_neg hx]
     have e : 2 ≤ V0 x ↔ 2 ≤ U x := by rcases hV x with ⟨_, h1⟩ | ⟨_, h1⟩ <;> rw [h1] <;> omega
     rw [e, h.two x]
     constructor
     ·rintro ⟨a, ha, hb⟩; exact ⟨a, List.mem_append_left _ ha, hb⟩
     ·rintro ⟨a, ha, hb⟩
      rw [List.mem_append] at ha
      rcases ha with ha | ha
      ·exact ⟨a, ha, hb⟩
      ·simp at ha; rw [ha] at hb; exact absurd hb.symm hx
   ·by_cases hx : x = bareL s
    ·rw [if_pos hx]
     exact ⟨fun _ => ⟨s, by simp, .inl hx.symm⟩, fun _ => by split <;> omega⟩
    ·rw [if_neg hx]
     have e : 1 ≤ V0 x ↔ leadsB x (bareL s) = true ∨ 1 ≤ U x := by
      rcases hV x with ⟨h2, h1⟩ | ⟨h2, h1⟩
      ·rw [h1, h2]; simp; omega
      ·rw [h1, h2]; simp
     rw [e, h.one x]
     constructor
     ·rintro (h1 | ⟨a, ha, hb⟩)
      ·exact ⟨s, by simp, .inr h1⟩
      ·exact ⟨a, List.mem_append_left _ ha, hb⟩
     ·rintro ⟨a, ha, hb⟩
      rw [List.mem_append] at ha
      rcases ha with ha | ha
      ·exact .inr ⟨a, ha, hb⟩
      ·simp at ha; rw [ha] at hb
       rcases hb with hb | hb
       ·exact absurd hb.symm hx
       ·exact .inl hb
   ·split
    ·split <;> omega
    ·have := h.most x
     rcases hV x with ⟨_, h1⟩ | ⟨_, h1⟩ <;> rw [h1] <;> omega
theorem twiceGo_eq : ∀ (L : List Spanned) (S : List ByteArray) (U : List UInt8 → Nat), Rep S U → twiceGo L U = ((L.any fun x => S.any fun a => clashB a x.ent.name) || anyPair (fun a b => clashB a.name b.name) (L.map (·.ent)))
 | [], S, U, _ => rfl
 | x :: l, S, U, h => by
  unfold twiceGo
  cases hc : claimOf U x.ent.name with
  | none =>
   have := (claim_none h x.ent.name).1 hc
   simp [this]
  | some V =>
   have hf : (S.any fun a => clashB a x.ent.name) = false := by
    cases e : (S.any fun a => clashB a x.ent.name) with
    | false => rfl
    | true => rw [(claim_none h x.ent.name).2 e] at hc; cases hc
   simp only []
   rw [twiceGo_eq l (S ++ [x.ent.name]) V (claim_some h _ hc)]
   simp only [List.any_cons, hf, Bool.false_or, List.map_cons, anyPair, List.any_map]
   rw [← Bool.or_assoc]
   congr 1
   simp only [List.any_append, List.any_cons, List.any_nil, Bool.or_false]
   clear hc hf h
   induction l with
   | nil => rfl
   | cons y l ih =>
    simp only [List.any_cons, ih, Function.comp]
    cases (S.any fun a => clashB a y.ent.name) <;> cases clashB x.ent.name y.ent.name <;> simp
theorem twice_eq (L : List Spanned) : twiceGo L (fun _ => 0) = anyPair (fun a b => clashB a.name b.name) (L.map (·.ent)) := by
 rw [twiceGo_eq L [] _ Rep.nil]; simp
/-! ### Sums -/
theorem sumTo_all (L : List Spanned) (sz : Ent → Nat) : sumTo L sz L.length = ((L.map (·.ent)).map sz).sum := by
 unfold sumTo; rw [List.take_length, List.map_map]; rfl
/-! ### Spans -/
theorem spansOf_eq (s : ByteArray) (E : Nat) (hE : E ≤ s.size) : ∀ L : List Spanned, spansOf s E (L.map (·.ent)) = if (L.all fun x => spOk E s x.ent) then some (L.map (spun E s)) else none
 | [] => rfl
 | x :: l => by
  simp only [List.map_cons, spansOf, spanAt_eq s E x.ent hE, spansOf_eq s E hE l, List.all_cons]
  cases spOk E s x.ent <;> cases (l.all fun x => spOk E s x.ent) <;> rfl
theorem over_eq : ∀ L : List Spanned, anyPair meetB (L.map spanOf) = anyPair overB L
 | [] => rfl
 | x :: l => by
  simp only [List.map_cons, anyPair, over_eq l, List.any_map]
  rfl
end Go.Proofs.YtmhlkdlcpicekaaGreatDoor
