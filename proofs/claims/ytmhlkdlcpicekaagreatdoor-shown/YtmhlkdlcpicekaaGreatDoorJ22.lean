/- Texts of this seat, joined. -/
import Derived.Test.YtmhlkdlcpicekaaGreatDoorJ20
import Derived.Test.YtmhlkdlcpicekaaGreatDoorJ21
set_option linter.unusedSimpArgs false
set_option linter.unusedVariables false
set_option maxRecDepth 100000
set_option maxHeartbeats 20000000
namespace Go.Proofs.YtmhlkdlcpicekaaGreatDoor
open Go.RowKit
theorem numIn2 (s : ByteArray) (a : Nat) : numIn s a 2 < 65536 := numIn_le s a 2
theorem numIn4 (s : ByteArray) (a : Nat) : numIn s a 4 < 4294967296 := numIn_le s a 4
theorem meant_le (s : ByteArray) (stop c v z c' : Nat) (h : meant s stop c v = some (z, c')) (hv : v < 4294967296) : z ≤ 1099511627776 := by
 unfold meant at h
 split at h
 ·split at h
  ·rename_i hh
   simp only [Option.some.injEq, Prod.mk.injEq] at h
   rw [← h.1]; exact hh.2
  ·exact absurd h (by simp)
 ·simp only [Option.some.injEq, Prod.mk.injEq] at h
  rw [← h.1]; omega
theorem entAt_ok (s : ByteArray) (E p : Nat) (e : Ent) (q : Nat) (h : entAt s E p = some (e, q)) : p + 46 ≤ q ∧ q ≤ E ∧ EntOk e := by
 unfold entAt at h
 simp only at h
 split at h
 ·rename_i hc
  cases hw : wideGo s (p + 46 + numIn s (p + 28) 2 + numIn s (p + 30) 2) (numIn s (p + 30) 2 + 1) (p + 46 + numIn s (p + 28) 2) none with
  | none => rw [hw] at h; cases h
  | some found =>
   rw [hw] at h
   simp only [Option.bind_some] at h
   cases hm : meantAll s (found.getD (0, 0)).1 (found.getD (0, 0)).2 (numIn s (p + 24) 4) (numIn s (p + 20) 4) (numIn s (p + 42) 4) with
   | none => rw [hm] at h; cases h
   | some m =>
    rw [hm] at h
    simp only [Option.bind_some, Option.some.injEq, Prod.mk.injEq] at h
    obtain ⟨rfl, rfl⟩ := h
    obtain ⟨z, k, a⟩ := m
    unfold meantAll at hm
    cases h1 : meant s (found.getD (0, 0)).2 (found.getD (0, 0)).1 (numIn s (p + 24) 4) with
    | none => rw [h1] at hm; cases hm
    | some z1 =>
     rw [h1] at hm
     simp only [Option.bind_some] at hm
     cases h2 : meant s (found.getD (0, 0)).2 z1.2 (numIn s (p + 20) 4) with
     | none => rw [h2] at hm; cases hm
     | some k1 =>
      rw [h2] at hm
      simp only [Option.bind_some] at hm
      cases h3 : meant s (found.getD (0, 0)).2 k1.2 (numIn s (p + 42) 4) with
      | none => rw [h3] at hm; cases hm
      | some a1 =>
       rw [h3] at hm
       simp only [Option.bind_some, Option.some.injEq, Prod.mk.injEq] at hm
       obtain ⟨rfl, rfl, rfl⟩ := hm
       have m1 := meant_le _ _ _ _ z1.1 z1.2 h1 (numIn4 _ _)
       have m2 := meant_le _ _ _ _ k1.1 k1.2 h2 (numIn4 _ _)
       have m3 := meant_le _ _ _ _ a1.1 a1.2 h3 (numIn4 _ _)
       refine ⟨by omega, by omega, numIn2 _ _, numIn4 _ _, m2, m1, m3, numIn2 _ _, numIn2 _ _, numIn4 _ _, ?_⟩
       have := numIn2 s (p + 28)
       show (s.extract (p + 46) (p + 46 + numIn s (p + 28) 2)).size < 65536
       rw [ByteArray.size_extract]; omega
 ·cases h
theorem entsGo_ok (s : ByteArray) (E : Nat) : ∀ (f p : Nat) (acc l : List Ent), entsGo s E f p acc = .ok l → l.length = acc.length + f ∧ l.length * 46 ≤ acc.length * 46 + (E - p) ∧ ∀ e ∈ l, e ∈ acc ∨ (EntOk e ∧ faultOf e = 0)
 | 0, p, acc, l, h => by
  unfold entsGo at h
  split at h
  ·cases h; exact ⟨rfl, by omega, fun e he => .inl he⟩
  ·cases h
 | f + 1, p, acc, l, h => by
  unfold entsGo at h
  split at h
  ·cases h
  ·rename_i e q he
   obtain ⟨h1, h2, h3⟩ := entAt_ok s E p e q he
   split at h
   ·rename_i hf
    obtain ⟨i1, i2, i3⟩ := entsGo_ok s E f q _ l h
    simp only [List.length_append, List.length_singleton] at i1 i2
    refine ⟨by omega, by omega, fun x hx => ?_⟩
    rcases i3 x hx with hx | hx
    ·rw [List.mem_append] at hx
     rcases hx with hx | hx
     ·exact .inl hx
     ·simp at hx; rw [hx]; exact .inr ⟨h3, hf⟩
    ·exact .inr hx
   ·cases h
theorem entsGo_err (s : ByteArray) (E : Nat) : ∀ (f p : Nat) (acc : List Ent) (k : Nat), entsGo s E f p acc = .error k → 0 < k
 | 0, p, acc, k, h => by
  unfold entsGo at h
  split at h
  ·cases h
  ·cases h; omega
 | f + 1, p, acc, k, h => by
  unfold entsGo at h
  split at h
  ·cases h; omega
  ·split at h
   ·exact entsGo_err s E f _ _ k h
   ·rename_i hf; cases h; omega
theorem faultOf_name (e : Ent) (h : faultOf e = 0) : nameOk e.name = true := by
 unfold faultOf at h
 split at h
 ·cases h
 ·split at h
  ·cases h
  ·split at h
   ·cases h
   ·rename_i hn; simpa using hn
theorem nameOk_size (s : ByteArray) (h : nameOk s = true) : s.size ≤ 60 ∧ NoNul s.data.toList := by
 unfold nameOk at h
 simp only [Bool.and_eq_true, decide_eq_true_eq, List.all_eq_true] at h
 obtain ⟨⟨h1, h2⟩, _⟩ := h
 refine ⟨h1, fun c hc => ?_⟩
 have := h2 c (by rw [ByteArray.toList_eq]; exact hc)
 intro e
 rw [e] at this
 exact absurd this (by decide)
theorem spansOf_ok (s : ByteArray) (P : Nat) : ∀ (l : List Ent) (r : List Spanned), spansOf s P l = some r → r.map (·.ent) = l ∧ ∀ x ∈ r, x.ent ∈ l ∧ spanAt s P x.ent = some (x.place, x.stop)
 | [], r, h => by cases h; exact ⟨rfl, fun x hx => by cases hx⟩
 | e :: l, r, h => by
  unfold spansOf at h
  cases h1 : spanAt s P e with
  | none => rw [h1] at h; cases h
  | some p =>
   rw [h1] at h
   simp only [Option.bind_some] at h
   cases h2 : spansOf s P l with
   | none => rw [h2] at h; cases h
   | some r1 =>
    rw [h2] at h
    cases h
    obtain ⟨i1, i2⟩ := spansOf_ok s P l r1 h2
    refine ⟨by simp [i1], fun x hx => ?_⟩
    rw [List.mem_cons] at hx
    rcases hx with rfl | hx
    ·exact ⟨List.mem_cons_self .., h1⟩
    ·exact ⟨List.mem_cons_of_mem _ (i2 x hx).1, (i2 x hx).2⟩
theorem spanAt_ok (s : ByteArray) (P : Nat) (e : Ent) (b t : Nat) (h : spanAt s P e = some (b, t)) : e.ahead + 30 ≤ b ∧ b + e.packed ≤ t ∧ t ≤ P := by
 unfold spanAt at h
 simp only at h
 obtain ⟨m, hm⟩ : ∃ m, m = (if laterB e = true then 16 else 0) := ⟨_, rfl⟩
 rw [← hm] at h
 by_cases hc : e.ahead + 30 ≤ P ∧ e.ahead + 30 + numIn s (e.ahead + 26) 2 + numIn s (e.ahead + 28) 2 + e.packed + m ≤ P ∧ markB s e.ahead 3 4 = true ∧ numIn s (e.ahead + 6) 2 = e.flags ∧ numIn s (e.ahead + 8) 2 = e.method ∧ s.extract (e.ahead + 30) (e.ahead + 30 + numIn s (e.ahead + 26) 2) = e.name
   ∧ (s.extract (e.ahead + 14) (e.ahead + 26) = e.three ∨ (laterB e = true ∧ s.extract (e.ahead + 14) (e.ahead + 26) = ⟨#[0, 0, 0, 0, 0, 0, 0, 0, 0, 0, 0, 0]⟩))
   ∧ (laterB e = true → markB s (e.ahead + 30 + numIn s (e.ahead + 26) 2 + numIn s (e.ahead + 28) 2 + e.packed) 7 8 = true ∧ numIn s (e.ahead + 30 + numIn s (e.ahead + 26) 2 + numIn s (e.ahead + 28) 2 + e.packed + 4) 4 = e.sum ∧ numIn s (e.ahead + 30 + numIn s (e.ahead + 26) 2 + numIn s (e.ahead + 28) 2 + e.packed + 8) 4 = e.packed % 4294967296 ∧ numIn s (e.ahead + 30 + numIn s (e.ahead + 26) 2 + numIn s (e.ahead + 28) 2 + e.packed + 12) 4 = e.size % 4294967296)
 ·rw [if_pos hc] at h
  simp only [Option.some.injEq, Prod.mk.injEq] at h
  obtain ⟨rfl, rfl⟩ := h
  exact ⟨by omega, by omega, hc.2.1⟩
 ·rw [if_neg hc] at h
  exact absurd h (by simp)
theorem dirOf_ok (s : ByteArray) (d : Dir) (h : dirOf s = .ok d) : d.stop ≤ s.size ∧ d.count ≤ 9223372036854775807 ∧ d.size ≤ 9223372036854775807 ∧ d.place ≤ 9223372036854775807 := by
 unfold dirOf at h
 cases hp : endFrom s 101 0 with
 | none => rw [hp] at h; cases h
 | some p =>
  rw [hp] at h
  have hle := endFrom_le s 101 0 p hp
  simp only at h
  split at h
  ·split at h
   ·split at h
    ·simp only [Except.ok.injEq] at h; subst h; exact ⟨by show p - 76 ≤ s.size; omega, numIn_lt _ _ _, numIn_lt _ _ _, numIn_lt _ _ _⟩
    ·exact absurd h (by simp)
   ·exact absurd h (by simp)
  ·split at h
   ·simp only [Except.ok.injEq] at h; subst h; exact ⟨by show p ≤ s.size; omega, numIn_lt _ _ _, numIn_lt _ _ _, numIn_lt _ _ _⟩
   ·exact absurd h (by simp)
theorem dirOf_err (s : ByteArray) (k : Nat) (h : dirOf s = .error k) : 0 < k := by
 unfold dirOf at h
 cases hp : endFrom s 101 0 with
 | none => rw [hp] at h; simp only [Except.error.injEq] at h; omega
 | some p =>
  rw [hp] at h
  simp only at h
  split at h
  ·split at h
   ·split at h
    ·exact absurd h (by simp)
    ·simp only [Except.error.injEq] at h; omega
   ·simp only [Except.error.injEq] at h; omega
  ·split at h
   ·exact absurd h (by simp)
   ·simp only [Except.error.injEq] at h; omega
theorem listOf_ok (s : ByteArray) (qe qn qb : Int) (L : List Spanned) (h : listOf s qe qn qb = .ok L) (hs : s.size ≤ 2147483648) : L.length ≤ 1000000000 ∧ (∀ x ∈ L, FileOk s x) ∧ ∀ x ∈ L, NoNul x.ent.name.data.toList ∧ x.ent.name.size ≤ 60 := by
 unfold listOf at h
 cases hd : dirOf s with
 | error k => rw [hd] at h; cases h
 | ok d =>
  rw [hd] at h
  simp only at h
  split at h
  ·cases h
  ·split at h
   ·cases h
   ·rename_i hl
    cases he : entsGo s d.stop d.count d.place [] with
    | error k => rw [he] at h; cases h
    | ok l =>
     rw [he] at h
     simp only at h
     split at h
     ·cases h
     ·split at h
      ·cases h
      ·cases hsp : spansOf s d.place l with
       | none => rw [hsp] at h; cases h
       | some r =>
        rw [hsp] at h
        simp only at h
        split at h
        ·cases h
        ·split at h
         ·cases h
         ·cases h
          obtain ⟨a1, a2, a3, a4⟩ := dirOf_ok s d hd
          obtain ⟨b1, b2, b3⟩ := entsGo_ok s _ _ _ _ _ he
          obtain ⟨c1, c2⟩ := spansOf_ok s _ _ _ hsp
          have hlen : L.length = l.length := by rw [← c1]; simp
          simp only [List.length_nil] at b2
          have hl' : d.place ≤ d.stop := by
           apply Classical.byContradiction; intro hh; exact hl (fun e => hh e.1)
          have hnm : ∀ x ∈ L, EntOk x.ent ∧ x.ent.name.size ≤ 60 ∧ NoNul x.ent.name.data.toList := by
           intro x hx
           rcases b3 x.ent (c2 x hx).1 with h0 | ⟨h0, h1⟩
           ·cases h0
           ·exact ⟨h0, nameOk_size _ (faultOf_name _ h1)⟩
          refine ⟨by omega, fun x hx => ?_, fun x hx => ⟨(hnm x hx).2.2, (hnm x hx).2.1⟩⟩
          obtain ⟨s1, s2, s3⟩ := spanAt_ok s _ _ _ _ (c2 x hx).2
          exact ⟨(hnm x hx).1.size, by omega, (hnm x hx).2.1⟩
end Go.Proofs.YtmhlkdlcpicekaaGreatDoor
namespace Go.Proofs.YtmhlkdlcpicekaaGreatDoor
open Go.RowKit Go.Shelf Go.Lib
def refL (e : Ent) (four : Nat × Nat × Nat) (place from_ to_ : Nat) : List Value := [.string e.name, .int .i64 (e.method : Int), .int .i64 (e.sum : Int), .int .i64 (e.packed : Int), .int .i64 (e.size : Int), .int .i64 (place : Int), .int .i64 (e.flags : Int), .int .i64 (e.ahead : Int), .int .i64 (four.1 : Int), .int .i64 (four.2.1 : Int), .int .i64 (four.2.2 : Int), .int .i64 (from_ : Int), .int .i64 (to_ : Int)]
end Go.Proofs.YtmhlkdlcpicekaaGreatDoor
