/- Texts of this seat, joined. -/
import Derived.Test.YtnmkmmgaoplfiaaGreatDoorJ06
import Derived.Test.YtnmkmmgaoplfiaaGreatDoorJ12
set_option linter.unusedSimpArgs false
set_option linter.unusedVariables false
set_option maxRecDepth 100000
set_option maxHeartbeats 20000000
namespace Go.Proofs.YtnmkmmgaoplfiaaGreatDoor
open Go.RowKit
/-! ### Names -/
def leadR (p : List UInt8) (i n : Nat) (x : List UInt8) : Prop := ∃ j, i ≤ j ∧ j < i + n ∧ p[j]? = some 47 ∧ x = p.take j
theorem take_ne (p : List UInt8) (i j : Nat) (h : i < j) (hj : p[j]? = some 47) : p.take j ≠ p.take i := by
 intro e
 have hl := (List.getElem?_eq_some_iff.1 hj).1
 have := congrArg List.length e
 simp only [List.length_take] at this; omega
theorem leadTo_none (p : List UInt8) : ∀ (f i : Nat) (U : List UInt8 → Nat), leadTo p f i U = none ↔ ∃ x, leadR p i f x ∧ U x = 3
 | 0, i, U => by
  simp only [leadTo, leadR]
  constructor
  ·intro h; cases h
  ·rintro ⟨x, ⟨j, h1, h2, _⟩, _⟩; omega
 | f + 1, i, U => by
  unfold leadTo
  by_cases h47 : p[i]? = some 47
  ·rw [if_pos h47]
   by_cases h3 : U (p.take i) = 3
   ·rw [if_pos h3]
    exact ⟨fun _ => ⟨p.take i, ⟨i, Nat.le_refl _, by omega, h47, rfl⟩, h3⟩, fun _ => rfl⟩
   ·rw [if_neg h3, leadTo_none p f (i + 1)]
    constructor
    ·rintro ⟨x, ⟨j, h1, h2, h4, rfl⟩, hx⟩
     unfold updU at hx
     rw [if_neg (take_ne p i j (by omega) h4)] at hx
     exact ⟨_, ⟨j, by omega, by omega, h4, rfl⟩, hx⟩
    ·rintro ⟨x, ⟨j, h1, h2, h4, rfl⟩, hx⟩
     have hne : i ≠ j := fun e => by rw [← e] at hx; exact h3 hx
     refine ⟨_, ⟨j, by omega, by omega, h4, rfl⟩, ?_⟩
     unfold updU
     rw [if_neg (take_ne p i j (by omega) h4)]; exact hx
  ·rw [if_neg h47, leadTo_none p f (i + 1)]
   constructor
   ·rintro ⟨x, ⟨j, h1, h2, h4, rfl⟩, hx⟩
    exact ⟨_, ⟨j, by omega, by omega, h4, rfl⟩, hx⟩
   ·rintro ⟨x, ⟨j, h1, h2, h4, rfl⟩, hx⟩
    have hne : i ≠ j := fun e => by rw [← e] at h4; exact h47 h4
    exact ⟨_, ⟨j, by omega, by omega, h4, rfl⟩, hx⟩
open Classical in
theorem leadTo_some (p : List UInt8) : ∀ (f i : Nat) (U V : List UInt8 → Nat), leadTo p f i U = some V → ∀ x, V x = if leadR p i f x then max (U x) 1 else U x
 | 0, i, U, V, h, x => by
  cases h
  rw [if_neg]
  rintro ⟨j, h1, h2, _⟩; omega
 | f + 1, i, U, V, h, x => by
  unfold leadTo at h
  by_cases h47 : p[i]? = some 47
  ·rw [if_pos h47] at h
   by_cases h3 : U (p.take i) = 3
   ·rw [if_pos h3] at h; cases h
   ·rw [if_neg h3] at h
    rw [leadTo_some p f (i + 1) _ V h x]
    unfold updU
    by_cases hx : x = p.take i
    ·have hr : leadR p i (f + 1) x := ⟨i, Nat.le_refl _, by omega, h47, hx⟩
     rw [if_pos hx, ← hx, if_pos hr]
     split <;> omega
    ·rw [if_neg hx]
     have e : leadR p (i + 1) f x ↔ leadR p i (f + 1) x := by
      constructor
      ·rintro ⟨j, h1, h2, h4, h5⟩; exact ⟨j, by omega, by omega, h4, h5⟩
      ·rintro ⟨j, h1, h2, h4, h5⟩
       have hne : i ≠ j := fun e => by rw [← e] at h5; exact hx h5
       exact ⟨j, by omega, by omega, h4, h5⟩
     by_cases hr : leadR p i (f + 1) x
     ·rw [if_pos hr, if_pos (e.2 hr)]
     ·rw [if_neg hr, if_neg (fun h => hr (e.1 h))]
  ·rw [if_neg h47] at h
   rw [leadTo_some p f (i + 1) _ V h x]
   have e : leadR p (i + 1) f x ↔ leadR p i (f + 1) x := by
    constructor
    ·rintro ⟨j, h1, h2, h4, h5⟩; exact ⟨j, by omega, by omega, h4, h5⟩
    ·rintro ⟨j, h1, h2, h4, h5⟩
     have hne : i ≠ j := fun e => by rw [← e] at h4; exact h47 h4
     exact ⟨j, by omega, by omega, h4, h5⟩
   by_cases hr : leadR p i (f + 1) x
   ·rw [if_pos hr, if_pos (e.2 hr)]
   ·rw [if_neg hr, if_neg (fun h => hr (e.1 h))]
theorem leadR_all (p x : List UInt8) : leadR p 0 p.length x ↔ leadsB x p = true := by
 unfold leadR leadsB
 rw [List.isPrefixOf_iff_prefix]
 constructor
 ·rintro ⟨j, _, h2, h4, rfl⟩
  have hl : j < p.length := by omega
  obtain ⟨hl', he⟩ := List.getElem?_eq_some_iff.1 h4
  have : p.take j ++ [47] = p.take (j + 1) := by rw [List.take_succ_eq_append_getElem hl, he]
  rw [this]; exact List.take_prefix _ _
 ·rintro ⟨t, rfl⟩
  refine ⟨x.length, Nat.zero_le _, by simp, ?_, ?_⟩
  ·simp
  ·simp
theorem leads_self (p : List UInt8) : leadsB p p = false := by
 cases h : leadsB p p with
 | false => rfl
 | true =>
  unfold leadsB at h
  rw [List.isPrefixOf_iff_prefix] at h
  have := h.length_le
  simp at this; omega
structure Rep (S : List ByteArray) (U : List UInt8 → Nat) : Prop where
 three : ∀ x, U x = 3 ↔ ∃ a ∈ S, bareL a = x ∧ folderB a = false
 two : ∀ x, 2 ≤ U x ↔ ∃ a ∈ S, bareL a = x
 one : ∀ x, 1 ≤ U x ↔ ∃ a ∈ S, bareL a = x ∨ leadsB x (bareL a) = true
 most : ∀ x, U x ≤ 3
theorem Rep.nil : Rep [] (fun _ => 0) := ⟨fun x => by simp, fun x => by simp, fun x => by simp, fun x => by simp⟩
theorem claim_none {S : List ByteArray} {U : List UInt8 → Nat} (h : Rep S U) (s : ByteArray) : claimOf U s = none ↔ S.any (fun a => clashB a s) = true := by
 have key : claimOf U s = none ↔ (∃ x, leadsB x (bareL s) = true ∧ U x = 3) ∨ 1 < U (bareL s) ∨ (U (bareL s) = 1 ∧ folderB s = false) := by
  unfold claimOf
  cases hl : leadTo (bareL s) (bareL s).length 0 U with
  | none =>
   have := (leadTo_none _ _ _ _).1 hl
   obtain ⟨x, h1, h2⟩ := this
   exact ⟨fun _ => .inl ⟨x, (leadR_all _ _).1 h1, h2⟩, fun _ => rfl⟩
  | some V =>
   have hV := leadTo_some _ _ _ _ _ hl (bareL s)
   rw [if_neg (by rw [leadR_all, leads_self]; simp)] at hV
   have hn : ¬ ∃ x, leadsB x (bareL s) = true ∧ U x = 3 := by
    rintro ⟨x, h1, h2⟩
    have := (leadTo_none (bareL s) (bareL s).length 0 U).2 ⟨x, (leadR_all _ _).2 h1, h2⟩
    rw [hl] at this; cases this
   simp only [Option.bind_some, hV]
   constructor
   ·intro h
    split at h
    ·rename_i hc; exact .inr hc
    ·cases h
   ·rintro (h | h)
    ·exact absurd h hn
    ·rw [if_pos h]
 rw [key, List.any_eq_true]
 have a2 := h.two (bareL s)
 have a1 := h.one (bareL s)
 constructor
 ·rintro (⟨x, h1, h2⟩ | h1 | ⟨h1, h2⟩)
  ·obtain ⟨a, ha, rfl, hf⟩ := (h.three x).1 h2
   exact ⟨a, ha, by unfold clashB; simp [h1, hf]⟩
  ·obtain ⟨a, ha, hb⟩ := a2.1 h1
   exact ⟨a, ha, by unfold clashB; simp [hb]⟩
  ·obtain ⟨a, ha, hb⟩ := a1.1 (by omega)
   exact ⟨a, ha, by unfold clashB; rcases hb with hb | hb <;> simp [hb, h2]⟩
 ·rintro ⟨a, ha, hc⟩
  unfold clashB at hc
  simp only [Bool.or_eq_true, Bool.and_eq_true, Bool.not_eq_true', decide_eq_true_eq] at hc
  rcases hc with (hc | ⟨hc, hf⟩) | ⟨hc, hf⟩
  ·exact .inr (.inl (a2.2 ⟨a, ha, hc⟩))
  ·exact .inl ⟨bareL a, hc, (h.three _).2 ⟨a, ha, rfl, hf⟩⟩
  ·have := a1.2 ⟨a, ha, .inr hc⟩
   by_cases hg : 1 < U (bareL s)
   ·exact .inr (.inl hg)
   ·exact .inr (.inr ⟨by omega, hf⟩)
theorem claim_some {S : List ByteArray} {U V : List UInt8 → Nat} (h : Rep S U) (s : ByteArray) (hc : claimOf U s = some V) : Rep (S ++ [s]) V := by
 unfold claimOf at hc
 cases hl : leadTo (bareL s) (bareL s).length 0 U with
 | none => rw [hl] at hc; cases hc
 | some V0 =>
  rw [hl] at hc
  simp only [Option.bind_some] at hc
  split at hc
  ·cases hc
  ·rename_i hn
   cases hc
   have hV : ∀ x, (leadsB x (bareL s) = true ∧ V0 x = max (U x) 1) ∨ (leadsB x (bareL s) = false ∧ V0 x = U x) := by
    intro x
    have := leadTo_some _ _ _ _ _ hl x
    cases hx : leadsB x (bareL s) with
    | true => rw [if_pos ((leadR_all _ _).2 hx)] at this; exact .inl ⟨rfl, this⟩
    | false => rw [if_neg (by rw [leadR_all, hx]; simp)] at this; exact .inr ⟨rfl, this⟩
   have h0 : U (bareL s) ≤ 1 := by
    rcases hV (bareL s) with ⟨h1, _⟩ | ⟨_, h1⟩
    ·rw [leads_self] at h1; cases h1
    ·rw [h1] at hn
     apply Classical.byContradiction; intro h2; exact hn (.inl (by omega))
   have hno : ¬ ∃ a ∈ S, bareL a = bareL s := fun e => by have := (h.two _).2 e; omega
   refine ⟨fun x => ?_, fun x => ?_, fun x => ?_, fun x => ?_⟩ <;> unfold updU
   ·by_cases hx : x = bareL s
    ·rw [if_pos hx]
     cases hf : folderB s with
     | true =>
      simp only [if_true]
      constructor
      ·intro e; omega
      ·rintro ⟨a, ha, hb, hg⟩
       rw [List.mem_append] at ha
       rcases ha with ha | ha
       ·exact absurd ⟨a, ha, hb.trans hx⟩ hno
       ·simp at ha; rw [ha, hf] at hg; cases hg
     | false =>
      simp only [Bool.false_eq_true, if_false]
      exact ⟨fun _ => ⟨s, by simp, hx.symm, hf⟩, fun _ => trivial⟩
    ·rw [if_neg hx]
     have e : V0 x = 3 ↔ U x = 3 := by rcases hV x with ⟨_, h1⟩ | ⟨_, h1⟩ <;> rw [h1] <;> omega
     rw [e, h.three x]
     constructor
     ·rintro ⟨a, ha, hb⟩; exact ⟨a, List.mem_append_left _ ha, hb⟩
     ·rintro ⟨a, ha, hb, hg⟩
      rw [List.mem_append] at ha
      rcases ha with ha | ha
      ·exact ⟨a, ha, hb, hg⟩
      ·simp at ha; rw [ha] at hb; exact absurd hb.symm hx
   ·by_cases hx : x = bareL s
    ·rw [if_pos hx]
     exact ⟨fun _ => ⟨s, by simp, hx.symm⟩, fun _ => by split <;> omega⟩
    ·rw [if_neg hx]
     have e : 2 ≤ V0 x ↔ 2 ≤ U x := by rcases hV x with ⟨_, h1⟩ | ⟨_, h1⟩ <;> rw [h1] <;> omega
     rw [e, h.two x]
     constructor
     ·rintro ⟨a, ha, hb⟩; exact ⟨a, List.mem_append_left _ ha, hb⟩
     ·rintro ⟨a, ha, hb⟩
      rw [List.mem_append] at ha
      rcases ha with ha | ha
      ·exact ⟨a, ha, hb⟩
      ·simp at ha; rw [ha] at hb; exact absurd hb.symm hx
   ·by_cases hx : x = bareL s
    ·rw [if_pos hx]
     exact ⟨fun _ => ⟨s, by simp, .inl hx.symm⟩, fun _ => by split <;> omega⟩
    ·rw [if_neg hx]
     have e : 1 ≤ V0 x ↔ leadsB x (bareL s) = true ∨ 1 ≤ U x := by
      rcases hV x with ⟨h2, h1⟩ | ⟨h2, h1⟩
      ·rw [h1, h2]; simp; omega
      ·rw [h1, h2]; simp
     rw [e, h.one x]
     constructor
     ·rintro (h1 | ⟨a, ha, hb⟩)
      ·exact ⟨s, by simp, .inr h1⟩
      ·exact ⟨a, List.mem_append_left _ ha, hb⟩
     ·rintro ⟨a, ha, hb⟩
      rw [List.mem_append] at ha
      rcases ha with ha | ha
      ·exact .inr ⟨a, ha, hb⟩
      ·simp at ha; rw [ha] at hb
       rcases hb with hb | hb
       ·exact absurd hb.symm hx
       ·exact .inl hb
   ·split
    ·split <;> omega
    ·have := h.most x
     rcases hV x with ⟨_, h1⟩ | ⟨_, h1⟩ <;> rw [h1] <;> omega
theorem twiceGo_eq : ∀ (L : List Spanned) (S : List ByteArray) (U : List UInt8 → Nat), Rep S U → twiceGo L U = ((L.any fun x => S.any fun a => clashB a x.ent.name) || anyPair (fun a b => clashB a.name b.name) (L.map (·.ent)))
 | [], S, U, _ => rfl
 | x :: l, S, U, h => by
  unfold twiceGo
  cases hc : claimOf U x.ent.name with
  | none =>
   have := (claim_none h x.ent.name).1 hc
   simp [this]
  | some V =>
   have hf : (S.any fun a => clashB a x.ent.name) = false := by
    cases e : (S.any fun a => clashB a x.ent.name) with
    | false => rfl
    | true => rw [(claim_none h x.ent.name).2 e] at hc; cases hc
   simp only []
   rw [twiceGo_eq l (S ++ [x.ent.name]) V (claim_some h _ hc)]
   simp only [List.any_cons, hf, Bool.false_or, List.map_cons, anyPair, List.any_map]
   rw [← Bool.or_assoc]
   congr 1
   simp only [List.any_append, List.any_cons, List.any_nil, Bool.or_false]
   clear hc hf h
   induction l with
   | nil => rfl
   | cons y l ih =>
    simp only [List.any_cons, ih, Function.comp]
    cases (S.any fun a => clashB a y.ent.name) <;> cases clashB x.ent.name y.ent.name <;> simp
theorem twice_eq (L : List Spanned) : twiceGo L (fun _ => 0) = anyPair (fun a b => clashB a.name b.name) (L.map (·.ent)) := by
 rw [twiceGo_eq L [] _ Rep.nil]; simp
/-! ### Sums -/
theorem sumTo_all (L : List Spanned) (sz : Ent → Nat) : sumTo L sz L.length = ((L.map (·.ent)).map sz).sum := by
 unfold sumTo; rw [List.take_length, List.map_map]; rfl
/-! ### Spans -/
theorem spansOf_eq (s : ByteArray) (E : Nat) (hE : E ≤ s.size) : ∀ L : List Spanned, spansOf s E (L.map (·.ent)) = if (L.all fun x => spOk E s x.ent) then some (L.map (spun E s)) else none
 | [] => rfl
 | x :: l => by
  simp only [List.map_cons, spansOf, spanAt_eq s E x.ent hE, spansOf_eq s E hE l, List.all_cons]
  cases spOk E s x.ent <;> cases (l.all fun x => spOk E s x.ent) <;> rfl
theorem over_eq : ∀ L : List Spanned, anyPair meetB (L.map spanOf) = anyPair overB L
 | [] => rfl
 | x :: l => by
  simp only [List.map_cons, anyPair, over_eq l, List.any_map]
  rfl
end Go.Proofs.YtnmkmmgaoplfiaaGreatDoor
namespace Go.Proofs.YtnmkmmgaoplfiaaGreatDoor
open Go.RowKit Go.Shelf Go.Lib
theorem Tryz.infoEntry : (Tryz.prog.info? 44).map (fun i => (i.zero, i.size, i.bytes)) = some (some (.agg #[.string ⟨#[]⟩, .int .i64 0, .int .u32 0, .int .i64 0, .int .i64 0, .int .i64 0]), 6, 56) := by kernel_rfl
def entL (x : Spanned) : List Value := [.string x.ent.name, .int .i64 (x.ent.method : Int), .int .u32 (x.ent.sum : Int), .int .i64 (x.ent.packed : Int), .int .i64 (x.ent.size : Int), .int .i64 (x.place : Int)]
def entV (l : List Spanned) : List Value := l.flatMap entL
theorem entV_snoc (l : List Spanned) (x : Spanned) : entV (l ++ [x]) = entV l ++ entL x := by simp [entV]
theorem clone_c (w : World) (s : ByteArray) (hs : s.size ≤ 281474976710656) : Calls Tryz.prog 55 #[.string s] w fun e w' => e = .returned (.string s) ∧ Touch (fun _ => False) w w' := by
 have hc := fun W => Any.stringslite_Clone Tryz.laysM316 s W hs
 change ∀ W, Calls Tryz.prog 77 _ _ _ at hc
 have HC : Hid (∀ W, Calls Tryz.prog 77 #[.string s] W fun e w' => e = .returned (.string s) ∧ Touch (fun _ => False) W w') := fun W => (hc W).mono fun e w' h => ⟨h.1, Touch.ofBelow h.2 _⟩
 clear hc
 go_enter Tryz.func55, Tryz.ntmps55
 go_wp2_with fail
 refine (HC.out _).mono ?_
 rintro e w' ⟨rfl, t⟩
 go_wp2
 go_ret
 exact ⟨rfl, t⟩
theorem cell_six_new (w : World) (u0 u1 u2 u3 u4 u5 : Value) (t : TypeId) : ∀ (j : Nat) (x : Value), [u0, u1, u2, u3, u4, u5][j]? = some x → (w.alloc (.cells #[u0, u1, u2, u3, u4, u5] t)).cell? ((⟨w.heap.size, 0, none⟩ : Addr).add j) = some x := by
 intro j x h
 have hb := heap_alloc_new w (.cells #[u0, u1, u2, u3, u4, u5] t)
 have hj : j < 6 := by
  have := (List.getElem?_eq_some_iff.1 h).1
  simpa using this
 have e : ∀ i, i < 6 → (w.alloc (.cells #[u0, u1, u2, u3, u4, u5] t)).cell? ⟨w.heap.size, i, none⟩ = [u0, u1, u2, u3, u4, u5][i]? := by
  intro i hi
  rw [row_cell hb i]
  rcases (by omega : i = 0 ∨ i = 1 ∨ i = 2 ∨ i = 3 ∨ i = 4 ∨ i = 5) with rfl | rfl | rfl | rfl | rfl | rfl <;> rfl
 rcases (by omega : j = 0 ∨ j = 1 ∨ j = 2 ∨ j = 3 ∨ j = 4 ∨ j = 5) with rfl | rfl | rfl | rfl | rfl | rfl
 ·exact (e 0 (by omega)).trans h
 ·exact (e 1 (by omega)).trans h
 ·exact (e 2 (by omega)).trans h
 ·exact (e 3 (by omega)).trans h
 ·exact (e 4 (by omega)).trans h
 ·exact (e 5 (by omega)).trans h
theorem entriesOf_c (w : World) (a : Option Addr) (g cap : Nat) (L : List Spanned) (ha : 0 < L.length → a = some ⟨g, 0, none⟩) (hl : 0 < L.length → LstAt w g L) (hn : L.length ≤ 1000000000) (hok : ∀ x ∈ L, x.ent.name.size ≤ 65536) :
  Calls Tryz.prog 32 #[.slice a L.length cap] w fun r w' => ∃ v, r = .returned v ∧ v ≠ .slice none 0 0 ∧ w'.ownsRow w.heap.size 44 6 v L.length (entV L) ∧ Touch (fun _ => False) w w' := by
 obtain ⟨i0, hi, hz0, hz1, hz2⟩ := info_parts Tryz.infoEntry
 obtain ⟨n, hN⟩ : ∃ n, n = L.length := ⟨_, rfl⟩
 rw [← hN]
 have ha' : Hid (0 < L.length → a = some ⟨g, 0, none⟩) := ha
 have hl' : Hid (0 < L.length → LstAt w g L) := hl
 have hN' : Hid (n = L.length) := hN
 have hn' : n ≤ 1000000000 := by omega
 have hby : i0.bytes * n ≤ 281474976710656 := by rw [hz2]; omega
 have hnm : n ≤ maxLen := by unfold maxLen; omega
 clear ha hl hN hn
 go_enter Tryz.func32, Tryz.ntmps32
 go_wp2_with (at_make; refine wpList_make_own _ rfl _ _ 31 rfl w.heap.size 44 i0 (.agg #[.string ⟨#[]⟩, .int .i64 0, .int .u32 0, .int .i64 0, .int .i64 0, .int .i64 0]) 6 Tryz.underlying31 hi hz0 hz1 .i64 .i64 _ n rfl rfl rfl hby hnm (Nat.le_refl _) ?_; intro w0 ho0 hg0)
 have T0 : Touch (fun _ => False) w w0 := (Touch.refl (fun _ => False) w).grownNew hg0 (fun k e => by cases e)
 clear hg0
 go_loopw [3, 11] (fun v i wr => ∃ k : Nat, k ≤ n ∧ i = .int .i64 (k : Int) ∧ wr.ownsRow w.heap.size 44 6 v k (entV (L.take k)) ∧ v ≠ .slice none 0 0 ∧ Touch (fun _ => False) w wr) (fun v i wr => n - (intOf i).toNat)
 case atStart => exact ⟨0, Nat.zero_le _, rfl, ho0, by simp, T0⟩
 case round =>
  obtain ⟨k, hk, rfl, ho, hnn, ht⟩ := hrel
  have hsz := ht.size
  by_cases hlt : k < n
  ·have hlt' : k < L.length := by have := hN'.out; omega
   obtain rfl := ha'.out (by omega)
   have hL := (hl'.out (by omega)).keep ht (fun e => e)
   have hC := hL.cells k hlt'
   have HX : Hid (L.take (k + 1) = L.take k ++ [L[k]]) := by
    unfold Hid; rw [List.take_succ_eq_append_getElem hlt']
   have hns := hok L[k] (List.getElem_mem hlt')
   revert hC HX hns
   generalize L[k] = x
   intro hC HX hns
   have c0 := hC 0 (by omega)
   have c1 := hC 1 (by omega)
   have c2 := hC 2 (by omega)
   have c3 := hC 3 (by omega)
   have c4 := hC 4 (by omega)
   have c5 := hC 5 (by omega)
   have c6 := hC 6 (by omega)
   have c7 := hC 7 (by omega)
   have c8 := hC 8 (by omega)
   have c9 := hC 9 (by omega)
   have c10 := hC 10 (by omega)
   have c11 := hC 11 (by omega)
   have c12 := hC 12 (by omega)
   simp only [listL, List.getElem?_cons_zero, List.getElem?_cons_succ, Nat.add_zero] at c0 c1 c2 c3 c4 c5 c6 c7 c8 c9 c10 c11 c12
   clear hC hlt' hL
   have b1 : k + 1 ≤ maxLen := by unfold maxLen; omega
   have b2 : (k + 1) * 56 ≤ 140737488355328 := by omega
   go_wp2_with fail
   refine (clone_c _ x.ent.name (by omega)).mono ?_
   rintro e w1 ⟨rfl, t1⟩
   have T1 := (ht.alloc _).trans t1
   have bb := (t1.block wr.heap.size (by simp) (fun e => e)).trans (heap_alloc_new wr _)
   have ho1 := t1.owns (ho.alloc _) (fun k _ h => h)
   have hw1 : wr.heap.size < w1.heap.size := by have := t1.size; simp at this; omega
   clear c0 c1 c2 c3 c4 c5 c6 c7 c8 c9 c10 c11 c12 t1
   have g0 : w1.cell? ⟨wr.heap.size, 0, none⟩ = some (.string x.ent.name) := by rw [row_cell bb 0]; rfl
   have g1 : w1.cell? ⟨wr.heap.size, 1, none⟩ = some (.int .i64 (x.ent.method : Int)) := by rw [row_cell bb 1]; rfl
   have g2 : w1.cell? ⟨wr.heap.size, 2, none⟩ = some (.int .u32 (x.ent.sum : Int)) := by rw [row_cell bb 2]; rfl
   have g3 : w1.cell? ⟨wr.heap.size, 3, none⟩ = some (.int .i64 (x.ent.packed : Int)) := by rw [row_cell bb 3]; rfl
   have g4 : w1.cell? ⟨wr.heap.size, 4, none⟩ = some (.int .i64 (x.ent.size : Int)) := by rw [row_cell bb 4]; rfl
   have g5 : w1.cell? ⟨wr.heap.size, 5, none⟩ = some (.int .i64 (x.place : Int)) := by rw [row_cell bb 5]; rfl
   have fz : ∀ o, w1.frozen? ⟨wr.heap.size, o, none⟩ = false := fun o => frozen_row bb o
   have es := setCell_self w1 wr.heap.size 0 _ g0
   have HQ : Hid (∀ (j : Nat) (y : Value), (entL x)[j]? = some y → (w1.alloc (Obj.cells #[.string x.ent.name, .int .i64 (x.ent.method : Int), .int .u32 (x.ent.sum : Int), .int .i64 (x.ent.packed : Int), .int .i64 (x.ent.size : Int), .int .i64 (x.place : Int)] 44)).cell? ((⟨w1.heap.size, 0, none⟩ : Addr).add j) = some y) := cell_six_new w1 _ _ _ _ _ _ _
   have hsz1 : w.heap.size ≤ w1.heap.size := T1.size
   clear bb
   go_wp2_with (at_builtin; refine wpList_append_own _ rfl _ _ 31 rfl w.heap.size 44 i0 (.agg #[.string ⟨#[]⟩, .int .i64 0, .int .u32 0, .int .i64 0, .int .i64 0, .int .i64 0]) 6 56 Tryz.underlying31 hi hz0 hz1 hz2 rfl (by decide) _ _ _ rfl (ho1.alloc _) ⟨w1.heap.size, 0, none⟩ 1 1 (entL x) rfl rfl HQ.out (by simp [entL, Value.oneCell']) b1 b2 (by simp; omega) ?_; intro v' w2 hown' hgrow hnil)
   refine ⟨⟨k + 1, by omega, by go_num, ?_, ?_, ?_⟩, by simp [intOf]; omega⟩
   ·rw [HX.out, entV_snoc]; exact hown'
   ·intro e; have := (hnil.1 e).2; omega
   ·exact (T1.alloc _).grownNew hgrow (fun j hj => (ho.lt j hj).1)
  ·obtain rfl : k = n := by omega
   rw [List.take_of_length_le (by have := hN'.out; omega)] at ho
   go_wp2
   go_ret
   exact ⟨_, rfl, hnn, ho, ht⟩
end Go.Proofs.YtnmkmmgaoplfiaaGreatDoor
