/- Texts of this seat, joined. -/
import Derived.Test.YtnmkmmgaoplfiaaGreatDoorJ33
import Derived.Test.YtnmkmmgaoplfiaaGreatDoorJ34
set_option linter.unusedSimpArgs false
set_option linter.unusedVariables false
set_option maxHeartbeats 20000000
namespace Go.Proofs.YtnmkmmgaoplfiaaGreatDoor
open Go.RowKit
def Stands (s : ByteArray) (a : Nat) (l : List UInt8) : Prop := ∃ p q, s.data.toList = p ++ (l ++ q) ∧ p.length = a
theorem Stands.left {s : ByteArray} {a : Nat} {l m : List UInt8} (h : Stands s a (l ++ m)) : Stands s a l := by
 obtain ⟨p, q, h1, h2⟩ := h
 exact ⟨p, m ++ q, by rw [h1, List.append_assoc], h2⟩
theorem Stands.right {s : ByteArray} {a : Nat} {l m : List UInt8} (h : Stands s a (l ++ m)) : Stands s (a + l.length) m := by
 obtain ⟨p, q, h1, h2⟩ := h
 exact ⟨p ++ l, q, by rw [h1]; simp [List.append_assoc], by rw [List.length_append, h2]⟩
theorem Stands.size {s : ByteArray} {a : Nat} {l : List UInt8} (h : Stands s a l) : a + l.length ≤ s.size := by
 obtain ⟨p, q, h1, h2⟩ := h
 have e : s.data.toList.length = s.size := Array.length_toList
 rw [h1, List.length_append, List.length_append] at e
 omega
theorem Stands.get {s : ByteArray} {a : Nat} {l : List UInt8} (h : Stands s a l) (i : Nat) (hi : i < l.length) : byteAt s (a + i) = l[i].toNat := by
 have hz := h.size
 obtain ⟨p, q, h1, h2⟩ := h
 unfold byteAt
 rw [dif_pos (by omega)]
 have e : s[a + i]'(by omega) = s.data.toList[a + i]'(by rw [Array.length_toList]; exact (by omega : a + i < s.size)) := rfl
 rw [e]
 have e2 : s.data.toList[a + i]? = l[i]? := by
  rw [h1, List.getElem?_append_right (by omega), List.getElem?_append_left (by omega)]
  congr 1; omega
 rw [List.getElem?_eq_getElem (by rw [Array.length_toList]; exact (by omega : a + i < s.size)), List.getElem?_eq_getElem hi] at e2
 rw [Option.some.inj e2]
theorem Stands.first {s : ByteArray} {a : Nat} {c : UInt8} {l : List UInt8} (h : Stands s a (c :: l)) : byteAt s a = c.toNat := by
 have := h.get 0 (by simp)
 simpa using this
theorem Stands.next {s : ByteArray} {a : Nat} {c : UInt8} {l : List UInt8} (h : Stands s a (c :: l)) : Stands s (a + 1) l := by
 have : Stands s a ([c] ++ l) := h
 exact this.right
theorem lowL_cons (x n : Nat) : lowL x (n + 1) = UInt8.ofNat (x % 256) :: lowL (x / 256) n := by
 unfold lowL
 rw [List.range_succ_eq_map, List.map_cons, List.map_map]
 congr 1
 ·simp
 ·refine List.map_congr_left fun i _ => ?_
  simp only [Function.comp, Nat.succ_eq_add_one]
  rw [Nat.pow_succ, Nat.mul_comm, ← Nat.div_div_eq_div_mul]
theorem leAt_low (s : ByteArray) : ∀ (n a x : Nat), Stands s a (lowL x n) → leAt s a n = x % 256 ^ n
 | 0, a, x, _ => by simp [leAt, Nat.mod_one]
 | n + 1, a, x, h => by
  rw [lowL_cons] at h
  have h1 := h.first
  have h2 := leAt_low s n (a + 1) (x / 256) h.next
  simp only [leAt]
  rw [h1, h2, Nat.pow_succ]
  have e : (UInt8.ofNat (x % 256)).toNat = x % 256 := by
   rw [UInt8.toNat_ofNat']
   omega
  rw [e, Nat.mul_comm (256 ^ n) 256, Nat.mod_mul]
theorem numIn_low {s : ByteArray} {n a x : Nat} (h : Stands s a (lowL x n)) (hx : x < 256 ^ n) (hn : x < 9223372036854775808) : numIn s a n = x := by
 unfold numIn
 rw [leAt_low s n a x h, Nat.mod_eq_of_lt hx]
 omega
theorem Stands.extract {s : ByteArray} {a : Nat} {l : List UInt8} (h : Stands s a l) : s.extract a (a + l.length) = ⟨l.toArray⟩ := by
 obtain ⟨p, q, h1, h2⟩ := h
 apply ByteArray.ext
 apply Array.toList_inj.1
 rw [ByteArray.data_extract, Array.toList_extract, h1]
 subst h2
 simp [List.extract_eq_take_drop]
theorem Stands.mark {s : ByteArray} {a : Nat} {x y : UInt8} (h : Stands s a [80, 75, x, y]) : markB s a x y = true := by
 have e := h.extract
 unfold markB
 rw [show a + 4 = a + [80, 75, x, y].length from rfl, e]
 simp [ByteArray.toList_eq]
structure Made where
 name : List UInt8
 method : Nat
 data : List UInt8
 text : List UInt8
 sum : Nat
def threeB (m : Made) : List UInt8 := lowL m.sum 4 ++ (lowL m.data.length 4 ++ lowL m.text.length 4)
def headB (f : Nat) (m : Made) : List UInt8 := lowL 20 2 ++ (lowL f 2 ++ (lowL m.method 2 ++ ([0, 0, 0, 0] ++ (threeB m ++ lowL m.name.length 2))))
def dirB (f : Nat) (m : Made) (at_ : Nat) : List UInt8 := [80, 75, 1, 2] ++ (lowL 20 2 ++ (headB f m ++ (lowL 0 2 ++ (lowL 0 2 ++ (lowL 0 2 ++ (lowL 0 2 ++ (lowL 0 4 ++ (lowL at_ 4 ++ m.name))))))))
def fileB (f : Nat) (m : Made) : List UInt8 := [80, 75, 3, 4] ++ (headB f m ++ (lowL 0 2 ++ (m.name ++ (m.data ++ (if f = 8 then [80, 75, 7, 8] ++ threeB m else [])))))
structure Fits (f : Nat) (m : Made) : Prop where
 flag : f = 0 ∨ f = 8
 nm : m.name.length ≤ 60
 mth : m.method = 0 ∨ m.method = 8
 dat : m.data.length < 65536
 txt : m.text.length < 65536
 sm : m.sum < 4294967296
def entMade (f : Nat) (m : Made) (at_ : Nat) : Ent := ⟨⟨m.name.toArray⟩, m.method, m.sum, m.data.length, m.text.length, at_, 20, f, 0, 0, ⟨(threeB m).toArray⟩⟩
theorem three_len (m : Made) : (threeB m).length = 12 := by simp [threeB, lowL_len]
theorem head_len (f : Nat) (m : Made) : (headB f m).length = 24 := by simp [headB, lowL_len, three_len]
theorem entAt_made {s : ByteArray} {E a f at_ : Nat} {m : Made} (hf : Fits f m) (ha : at_ < 4294967295) (h : Stands s a (dirB f m at_)) (hE : a + 46 + m.name.length ≤ E) :
  entAt s E a = some (entMade f m at_, a + 46 + m.name.length) := by
 unfold dirB at h
 have g1 := h.left.mark
 have h := h.right
 rw [show [(80 : UInt8), 75, 1, 2].length = 4 from rfl] at h
 have g2 := numIn_low h.left (by omega) (by omega)
 have h := h.right
 rw [lowL_len] at h
 have k := h.left
 have h := h.right
 rw [head_len] at h
 have g3 := numIn_low h.left (by omega) (by omega)
 have h := h.right
 rw [lowL_len] at h
 have g4 := numIn_low h.left (by omega) (by omega)
 have h := h.right
 rw [lowL_len] at h
 have g5 := numIn_low h.left (by omega) (by omega)
 have h := h.right
 rw [lowL_len] at h
 have h := h.right
 rw [lowL_len] at h
 have g6 := numIn_low h.left (by omega) (by omega)
 have h := h.right
 rw [lowL_len] at h
 have g7 := numIn_low h.left (by omega) (by omega)
 have h := h.right
 rw [lowL_len] at h
 have g8 := h.extract
 unfold headB at k
 have k := k.right
 rw [lowL_len] at k
 have k1 := numIn_low k.left (by have := hf.flag; omega) (by have := hf.flag; omega)
 have k := k.right
 rw [lowL_len] at k
 have k2 := numIn_low k.left (by have := hf.mth; omega) (by have := hf.mth; omega)
 have k := k.right
 rw [lowL_len] at k
 have k := k.right
 rw [show [(0 : UInt8), 0, 0, 0].length = 4 from rfl] at k
 have k3 := k.left.extract
 have t := k.left
 have k := k.right
 rw [three_len] at k k3
 have k4 := numIn_low k (by have := hf.nm; omega) (by have := hf.nm; omega)
 unfold threeB at t
 have t1 := numIn_low t.left (by have := hf.sm; omega) (by have := hf.sm; omega)
 have t := t.right
 rw [lowL_len] at t
 have t2 := numIn_low t.left (by have := hf.dat; omega) (by have := hf.dat; omega)
 have t := t.right
 rw [lowL_len] at t
 have t3 := numIn_low t (by have := hf.txt; omega) (by have := hf.txt; omega)
 simp only [Nat.add_assoc, Nat.reduceAdd] at g1 g2 g3 g4 g5 g6 g7 g8 k1 k2 k3 k4 t1 t2 t3
 have w : wideGo s (a + (46 + (m.name.length + 0))) (0 + 1) (a + (46 + m.name.length)) none = some none := by
  unfold wideGo
  rw [if_neg (by omega)]
 have q : ∀ c, meantAll s c 0 m.text.length m.data.length at_ = some (m.text.length, m.data.length, at_) := by
  intro c
  have := hf.dat
  have := hf.txt
  unfold meantAll meant
  rw [if_neg (by omega)]
  simp only [Option.bind_some]
  rw [if_neg (by omega)]
  simp only [Option.bind_some]
  rw [if_neg (by omega)]
  simp only [Option.bind_some]
 unfold entAt
 simp only [Nat.add_assoc, g1, g2, g3, g4, g5, g6, g7, g8, k1, k2, k3, k4, t1, t2, t3]
 rw [if_pos ⟨by omega, by omega, trivial⟩, w]
 simp only [Option.bind_some, Option.getD_none, q]
 simp only [Nat.add_zero]
 rfl
theorem fileB_len (f : Nat) (m : Made) : (fileB f m).length = 30 + m.name.length + m.data.length + (if f = 8 then 16 else 0) := by
 unfold fileB
 by_cases h : f = 8
 ·rw [if_pos h, if_pos h]; simp only [List.length_append, head_len, lowL_len, three_len, List.length_cons, List.length_nil]; omega
 ·rw [if_neg h, if_neg h]; simp only [List.length_append, head_len, lowL_len, List.length_cons, List.length_nil]; omega
theorem laterB_made (f : Nat) (m : Made) (at_ : Nat) (h : f = 0 ∨ f = 8) : laterB (entMade f m at_) = decide (f = 8) := by
 rcases h with rfl | rfl <;> simp [laterB, entMade]
theorem spanAt_made {s : ByteArray} {P f at_ : Nat} {m : Made} (hf : Fits f m) (h : Stands s at_ (fileB f m)) (hP : at_ + (fileB f m).length ≤ P) :
  spanAt s P (entMade f m at_) = some (at_ + 30 + m.name.length, at_ + (fileB f m).length) := by
 rw [fileB_len] at hP ⊢
 unfold fileB at h
 have g1 := h.left.mark
 have h := h.right
 rw [show [(80 : UInt8), 75, 3, 4].length = 4 from rfl] at h
 have k := h.left
 have h := h.right
 rw [head_len] at h
 have g2 := numIn_low h.left (by omega) (by omega)
 have h := h.right
 rw [lowL_len] at h
 have g3 := h.left.extract
 have h := h.right.right
 unfold headB at k
 have k := k.right
 rw [lowL_len] at k
 have k1 := numIn_low k.left (by have := hf.flag; omega) (by have := hf.flag; omega)
 have k := k.right
 rw [lowL_len] at k
 have k2 := numIn_low k.left (by have := hf.mth; omega) (by have := hf.mth; omega)
 have k := k.right
 rw [lowL_len] at k
 have k := k.right
 rw [show [(0 : UInt8), 0, 0, 0].length = 4 from rfl] at k
 have k3 := k.left.extract
 have k := k.right
 rw [three_len] at k k3
 have k4 := numIn_low k (by have := hf.nm; omega) (by have := hf.nm; omega)
 simp only [Nat.add_assoc, Nat.reduceAdd] at g1 g2 g3 k1 k2 k3 k4 h
 have z : f = 8 → markB s (at_ + (30 + (m.name.length + m.data.length))) 7 8 = true ∧ numIn s (at_ + (30 + (m.name.length + (m.data.length + 4)))) 4 = m.sum ∧ numIn s (at_ + (30 + (m.name.length + (m.data.length + 8)))) 4 = m.data.length % 4294967296 ∧ numIn s (at_ + (30 + (m.name.length + (m.data.length + 12)))) 4 = m.text.length % 4294967296 := by
  intro e
  rw [if_pos e] at h
  have z1 := h.left.mark
  have t := h.right
  rw [show [(80 : UInt8), 75, 7, 8].length = 4 from rfl] at t
  unfold threeB at t
  have t1 := numIn_low t.left (by have := hf.sm; omega) (by have := hf.sm; omega)
  have t := t.right
  rw [lowL_len] at t
  have t2 := numIn_low t.left (by have := hf.dat; omega) (by have := hf.dat; omega)
  have t := t.right
  rw [lowL_len] at t
  have t3 := numIn_low t (by have := hf.txt; omega) (by have := hf.txt; omega)
  simp only [Nat.add_assoc, Nat.reduceAdd] at z1 t1 t2 t3
  rw [Nat.mod_eq_of_lt (by have := hf.dat; omega), Nat.mod_eq_of_lt (by have := hf.txt; omega)]
  exact ⟨z1, t1, t2, t3⟩
 unfold spanAt
 rw [laterB_made f m at_ hf.flag]
 simp only [entMade, Nat.add_assoc, Nat.zero_add, g1, g2, g3, k1, k2, k3, k4, decide_eq_true_eq]
 rw [if_pos ⟨by omega, by omega, trivial, trivial, trivial, trivial, Or.inl trivial, z⟩]
 rw [Nat.add_zero]
def fileAll (f : Nat) : List Made → List UInt8
 | [] => []
 | m :: l => fileB f m ++ fileAll f l
def dirAll (f : Nat) : List Made → Nat → List UInt8
 | [], _ => []
 | m :: l, a => dirB f m a ++ dirAll f l (a + (fileB f m).length)
def entsMade (f : Nat) : List Made → Nat → List Ent
 | [], _ => []
 | m :: l, a => entMade f m a :: entsMade f l (a + (fileB f m).length)
def spansMade (f : Nat) : List Made → Nat → List Spanned
 | [], _ => []
 | m :: l, a => ⟨entMade f m a, a + 30 + m.name.length, a + (fileB f m).length⟩ :: spansMade f l (a + (fileB f m).length)
theorem dirB_len (f : Nat) (m : Made) (a : Nat) : (dirB f m a).length = 46 + m.name.length := by
 unfold dirB
 simp only [List.length_append, head_len, lowL_len, List.length_cons, List.length_nil]
 omega
theorem entsGo_made {s : ByteArray} {E f : Nat} : ∀ (l : List Made) (a p : Nat) (acc : List Ent), (∀ m ∈ l, Fits f m ∧ ∀ x, faultOf (entMade f m x) = 0) → Stands s p (dirAll f l a) → p + (dirAll f l a).length = E → a + (fileAll f l).length < 4294967295 →
  entsGo s E l.length p acc = .ok (acc ++ entsMade f l a)
 | [], a, p, acc, _, _, hE, _ => by
  have : p = E := by simpa [dirAll] using hE
  simp [entsGo, entsMade, this]
 | m :: l, a, p, acc, hm, h, hE, ha => by
  unfold dirAll at h hE
  unfold fileAll at ha
  rw [List.length_append] at hE ha
  have hm1 := hm m (by simp)
  have e := entAt_made (E := E) hm1.1 (by omega) h.left (by rw [dirB_len] at hE; omega)
  have h2 := h.right
  rw [dirB_len] at hE h2
  rw [List.length_cons]
  unfold entsGo
  rw [e]
  simp only
  rw [if_pos (hm1.2 a)]
  have ih := entsGo_made (s := s) (E := E) (f := f) l (a + (fileB f m).length) (p + (46 + m.name.length)) (acc ++ [entMade f m a]) (fun x hx => hm x (by simp [hx])) h2 (by omega) (by omega)
  rw [show p + 46 + m.name.length = p + (46 + m.name.length) by omega, ih]
  simp [entsMade]
theorem spansOf_made {s : ByteArray} {P f : Nat} : ∀ (l : List Made) (a : Nat), (∀ m ∈ l, Fits f m) → Stands s a (fileAll f l) → a + (fileAll f l).length ≤ P → spansOf s P (entsMade f l a) = some (spansMade f l a)
 | [], a, _, _, _ => rfl
 | m :: l, a, hm, h, hP => by
  unfold fileAll at h hP
  rw [List.length_append] at hP
  have e := spanAt_made (P := P) (hm m (by simp)) h.left (by omega)
  have ih := spansOf_made (s := s) (P := P) (f := f) l (a + (fileB f m).length) (fun x hx => hm x (by simp [hx])) h.right (by omega)
  unfold entsMade spansMade spansOf
  rw [e, ih]
  rfl
theorem spansMade_ge {f : Nat} : ∀ (l : List Made) (a : Nat) (x : Spanned), x ∈ spansMade f l a → a ≤ x.ent.ahead
 | [], a, x, h => by cases h
 | m :: l, a, x, h => by
  unfold spansMade at h
  rcases List.mem_cons.1 h with rfl | h
  ·exact Nat.le_refl _
  ·have := spansMade_ge l _ x h
   omega
theorem over_made {f : Nat} : ∀ (l : List Made) (a : Nat), anyPair overB (spansMade f l a) = false
 | [], a => rfl
 | m :: l, a => by
  unfold spansMade anyPair
  rw [over_made l, Bool.or_false, List.any_eq_false]
  intro x hx
  have := spansMade_ge l _ x hx
  simp only [overB, Bool.and_eq_true, decide_eq_true_eq]
  omega
def endB (n z p : Nat) : List UInt8 := [80, 75, 5, 6] ++ (lowL 0 4 ++ (lowL n 2 ++ (lowL n 2 ++ (lowL z 4 ++ (lowL p 4 ++ lowL 0 2)))))
theorem endB_len (n z p : Nat) : (endB n z p).length = 22 := by simp [endB, lowL_len]
theorem low_zero : lowL 0 4 = lowL 0 2 ++ lowL 0 2 := by decide
theorem dirOf_made {s : ByteArray} {n z p : Nat} (h : Stands s (s.size - 22) (endB n z p)) (h22 : 22 ≤ s.size) (hn : n < 65535) (hz : z < 4294967295) (hp : p < 4294967295) : dirOf s = .ok ⟨n, z, p, s.size - 22⟩ := by
 unfold endB at h
 have g1 := h.left.mark
 have h := h.right
 rw [show [(80 : UInt8), 75, 5, 6].length = 4 from rfl] at h
 have k := h.left
 rw [low_zero] at k
 have g2 := numIn_low k.left (by omega) (by omega)
 have k := k.right
 rw [lowL_len] at k
 have g3 := numIn_low k (by omega) (by omega)
 have h := h.right
 rw [lowL_len] at h
 have g4 := numIn_low h.left (by omega) (by omega)
 have h := h.right
 rw [lowL_len] at h
 have g5 := numIn_low h.left (by omega) (by omega)
 have h := h.right
 rw [lowL_len] at h
 have g6 := numIn_low h.left (by omega) (by omega)
 have h := h.right
 rw [lowL_len] at h
 have g7 := numIn_low h.left (by omega) (by omega)
 have h := h.right
 rw [lowL_len] at h
 have g8 := numIn_low h (by omega) (by omega)
 simp only [Nat.add_assoc, Nat.reduceAdd] at g1 g2 g3 g4 g5 g6 g7 g8
 have e : endFrom s 101 0 = some (s.size - 22) := by
  rw [endFrom_here s 100 0 (by omega) (by unfold endOk; rw [Nat.sub_zero, g1, g8]; rfl), Nat.sub_zero]
 unfold dirOf
 rw [e]
 simp only
 have e1 : elseB s (s.size - 22) = false := by
  unfold elseB
  rw [g5, g6, g7]
  simp only [Bool.or_eq_false_iff, decide_eq_false_iff_not]
  omega
 have e2 : endOne s (s.size - 22) = true := by
  unfold endOne oneB
  rw [g2, g3, g4, g5]
  simp
 rw [e1, e2, g5, g6, g7]
 rfl
def madeB (f : Nat) (l : List Made) : List UInt8 := fileAll f l ++ (dirAll f l 0 ++ endB l.length (dirAll f l 0).length (fileAll f l).length)
theorem entsMade_names (f : Nat) : ∀ (l : List Made) (a : Nat), (entsMade f l a).map (·.name) = l.map fun m => ⟨m.name.toArray⟩
 | [], _ => rfl
 | m :: l, a => by unfold entsMade; rw [List.map_cons, List.map_cons, entsMade_names f l]; rfl
theorem namesSum_made (f : Nat) : ∀ (l : List Made) (a : Nat), namesSum (entsMade f l a) = (l.map fun m => m.name.length).sum
 | [], _ => rfl
 | m :: l, a => by
  have ih := namesSum_made f l (a + (fileB f m).length)
  unfold namesSum at ih ⊢
  unfold entsMade
  rw [List.map_cons, List.map_cons, List.sum_cons, List.sum_cons, ih]
  rfl
theorem sizesSum_made (f : Nat) : ∀ (l : List Made) (a : Nat), sizesSum (entsMade f l a) = (l.map fun m => m.text.length).sum
 | [], _ => rfl
 | m :: l, a => by
  have ih := sizesSum_made f l (a + (fileB f m).length)
  unfold sizesSum at ih ⊢
  unfold entsMade
  rw [List.map_cons, List.map_cons, List.sum_cons, List.sum_cons, ih]
  rfl
theorem anyPair_map {α β : Type} (g : α → β) (r : β → β → Bool) : ∀ l : List α, anyPair (fun a b => r (g a) (g b)) l = anyPair r (l.map g)
 | [] => rfl
 | a :: l => by
  show (l.any (fun b => r (g a) (g b)) || anyPair (fun a b => r (g a) (g b)) l) = ((l.map g).any (r (g a)) || anyPair r (l.map g))
  rw [anyPair_map g r l, List.any_map]
  rfl
theorem listOf_made {f : Nat} {l : List Made} {qe qn qb : Int} (hm : ∀ m ∈ l, Fits f m ∧ ∀ x, faultOf (entMade f m x) = 0) (hl : l.length < 65535) (hz : (madeB f l).length < 4294967295)
  (hc : anyPair clashB (l.map fun m => (⟨m.name.toArray⟩ : ByteArray)) = false) :
  listOf ⟨(madeB f l).toArray⟩ qe qn qb = if qe < (l.length : Int) then .error 13 else if qn < (((l.map fun m => m.name.length).sum : Nat) : Int) then .error 13 else if qb < (((l.map fun m => m.text.length).sum : Nat) : Int) then .error 13 else .ok (spansMade f l 0) := by
 have hs : (ByteArray.mk (madeB f l).toArray).size = (fileAll f l).length + ((dirAll f l 0).length + 22) := by
  show (madeB f l).toArray.size = _
  rw [List.size_toArray]
  unfold madeB
  rw [List.length_append, List.length_append, endB_len]
 have hz2 : (fileAll f l).length + ((dirAll f l 0).length + 22) < 4294967295 := by
  have : (madeB f l).length = (fileAll f l).length + ((dirAll f l 0).length + 22) := by
   unfold madeB
   rw [List.length_append, List.length_append, endB_len]
  omega
 have h0 : Stands ⟨(madeB f l).toArray⟩ 0 (madeB f l) := ⟨[], [], by simp, rfl⟩
 unfold madeB at h0
 rw [show fileAll f l ++ (dirAll f l 0 ++ endB l.length (dirAll f l 0).length (fileAll f l).length) = madeB f l from rfl] at h0
 have h1 : Stands ⟨(madeB f l).toArray⟩ 0 (fileAll f l) := Stands.left (m := dirAll f l 0 ++ endB l.length (dirAll f l 0).length (fileAll f l).length) h0
 have h2 : Stands ⟨(madeB f l).toArray⟩ (0 + (fileAll f l).length) (dirAll f l 0 ++ endB l.length (dirAll f l 0).length (fileAll f l).length) := Stands.right (l := fileAll f l) h0
 have h3 := h2.left
 have h4 := h2.right
 have hE : 0 + (fileAll f l).length + (dirAll f l 0).length = (ByteArray.mk (madeB f l).toArray).size - 22 := by rw [hs]; omega
 rw [hE] at h4
 have d := dirOf_made h4 (by rw [hs]; omega) hl (by omega) (by omega)
 rw [Nat.zero_add] at h3 hE
 have e := entsGo_made (E := (ByteArray.mk (madeB f l).toArray).size - 22) l 0 (fileAll f l).length [] hm h3 hE (by omega)
 rw [List.nil_append] at e
 have sp := spansOf_made (P := (fileAll f l).length) l 0 (fun m h => (hm m h).1) h1 (by omega)
 unfold listOf
 rw [d]
 simp only
 by_cases c1 : qe < (l.length : Int)
 ·rw [if_pos c1, if_pos c1]
 ·rw [if_neg c1, if_neg c1, if_neg (by rw [hs]; omega), e]
  simp only
  have ec : anyPair (fun a b : Ent => clashB a.name b.name) (entsMade f l 0) = false := by
   rw [anyPair_map (fun e : Ent => e.name) clashB (entsMade f l 0), entsMade_names, hc]
  rw [namesSum_made, sizesSum_made, ec, sp]
  simp only [over_made]
  rfl
end Go.Proofs.YtnmkmmgaoplfiaaGreatDoor
namespace Go.Proofs.YtnmkmmgaoplfiaaGreatDoor
open Go.RowKit
structure Gives (m : Made) : Prop where
 how : (m.method = 0 ∧ m.data = m.text) ∨ (m.method = 8 ∧ ∃ q, inflateOf ⟨m.data.toArray⟩ (m.text.length : Int) = .inr (m.text, q) ∧ (q + 7) / 8 = m.data.length)
 sum : sumOf ⟨m.text.toArray⟩ = m.sum
theorem given_made {f : Nat} {m : Made} {at_ : Nat} (h : Gives m) : givenOf ⟨m.data.toArray⟩ (entMade f m at_) = .inr m.text := by
 unfold givenOf
 rcases h.how with ⟨h0, hd⟩ | ⟨h8, q, hi, hq⟩
 ·rw [if_pos (show (entMade f m at_).method = 0 from h0)]
  show Sum.inr m.data = _
  rw [hd]
 ·rw [if_neg (show ¬ (entMade f m at_).method = 0 by show ¬ m.method = 0; omega)]
  unfold wholeOf
  rw [show (entMade f m at_).size = m.text.length from rfl, hi]
  simp only
  rw [if_neg (by omega), if_neg (by rw [hq]; show ¬ m.data.length ≠ m.data.toArray.size; rw [List.size_toArray]; omega)]
theorem dataOfE_made {s : ByteArray} {f at_ z : Nat} {m : Made} (h : Stands s at_ (fileB f m)) (hg : Gives m) : dataOfE s ⟨entMade f m at_, at_ + 30 + m.name.length, z⟩ = .inr m.text := by
 unfold fileB at h
 have h := h.right
 rw [show [(80 : UInt8), 75, 3, 4].length = 4 from rfl] at h
 have h := h.right
 rw [head_len] at h
 have h := h.right
 rw [lowL_len] at h
 have h := h.right.left.extract
 unfold dataOfE
 have e : givenOf (s.extract (at_ + 30 + m.name.length) (at_ + 30 + m.name.length + (entMade f m at_).packed)) (entMade f m at_) = .inr m.text := by
  show givenOf (s.extract (at_ + 30 + m.name.length) (at_ + 30 + m.name.length + m.data.length)) (entMade f m at_) = _
  rw [show at_ + 30 + m.name.length = at_ + 4 + 24 + 2 + m.name.length by omega, h, given_made hg]
 simp only [e]
 rw [if_pos (show sumOf ⟨m.text.toArray⟩ = (entMade f m at_).sum from hg.sum)]
theorem filesGo_made {s : ByteArray} {f : Nat} : ∀ (l : List Made) (a : Nat) (acc : List Fil), (∀ m ∈ l, folderB ⟨m.name.toArray⟩ = false → Gives m) → Stands s a (fileAll f l) →
  filesGo s (spansMade f l a) acc = .inr (acc ++ (l.filter fun m => !folderB ⟨m.name.toArray⟩).map fun m => (⟨m.name.toArray⟩, m.text))
 | [], a, acc, _, _ => by simp [spansMade, filesGo]
 | m :: l, a, acc, hm, h => by
  unfold fileAll at h
  have ih := fun acc => filesGo_made (s := s) (f := f) l (a + (fileB f m).length) acc (fun x hx => hm x (by simp [hx])) h.right
  unfold spansMade filesGo
  have e : (Spanned.mk (entMade f m a) (a + 30 + m.name.length) (a + (fileB f m).length)).ent.name = ⟨m.name.toArray⟩ := rfl
  rw [e]
  cases hf : folderB ⟨m.name.toArray⟩ with
  | true =>
   rw [if_pos rfl, ih, List.filter_cons_of_neg (by simp [hf])]
  | false =>
   rw [if_neg (by simp), dataOfE_made h.left (hm m (by simp) hf)]
   simp only
   rw [ih, List.filter_cons_of_pos (by simp [hf]), List.map_cons, List.append_assoc]
   rfl
theorem spansMade_has {f : Nat} : ∀ (l : List Made) (a : Nat) (m : Made), m ∈ l → ∃ x ∈ spansMade f l a, x.ent.name = ⟨m.name.toArray⟩
 | [], _, _, h => by cases h
 | y :: l, a, m, h => by
  unfold spansMade
  rcases List.mem_cons.1 h with rfl | h
  ·exact ⟨_, List.mem_cons_self, rfl⟩
  ·obtain ⟨x, hx, e⟩ := spansMade_has (f := f) l (a + (fileB f y).length) m h
   exact ⟨x, List.mem_cons_of_mem _ hx, e⟩
theorem made_told {f : Nat} {l : List Made} {d : List Fil} (hperm : d.Perm ((l.filter fun m => !folderB ⟨m.name.toArray⟩).map (fun m => ((⟨m.name.toArray⟩ : ByteArray), m.text)) ++ (foldAll (spansMade f l 0) []).map folOf))
  (hfo : ∀ m ∈ l, folderB ⟨m.name.toArray⟩ = true → m.text = []) : ∀ m ∈ l, ((⟨m.name.toArray⟩ : ByteArray), m.text) ∈ d := by
 intro m hm
 rw [hperm.mem_iff, List.mem_append]
 cases hf : folderB ⟨m.name.toArray⟩ with
 | false => exact Or.inl (List.mem_map.2 ⟨m, List.mem_filter.2 ⟨hm, by simp [hf]⟩, rfl⟩)
 | true =>
  refine Or.inr (List.mem_map.2 ⟨m.name, ?_, ?_⟩)
  ·obtain ⟨x, hx, e⟩ := spansMade_has (f := f) l 0 m hm
   have hl : m.name.getLast? = some 47 := by
    unfold folderB at hf
    rw [ByteArray.toList_eq] at hf
    exact of_decide_eq_true hf
   have hn : 0 < m.name.length := by
    cases hm0 : m.name with
    | nil => rw [hm0] at hl; cases hl
    | cons c t => simp
   rw [List.getLast?_eq_getElem?] at hl
   have := foldAll_has (spansMade f l 0) [] x (m.name.length - 1) hx (by rw [e]; exact hl)
   rw [e] at this
   have e2 : (ByteArray.mk m.name.toArray).data.toList = m.name := rfl
   rw [e2, show m.name.length - 1 + 1 = m.name.length by omega, List.take_length] at this
   exact this
  ·rw [hfo m hm hf]; rfl
theorem faultOf_made {f : Nat} {m : Made} (hf : Fits f m) (hn : nameOk ⟨m.name.toArray⟩ = true) (hfo : folderB ⟨m.name.toArray⟩ = true → m.data = [] ∧ m.text = []) (h0 : m.method = 0 → m.data = m.text) (x : Nat) : faultOf (entMade f m x) = 0 := by
 have ho : oddF f = false := by rcases hf.flag with rfl | rfl <;> decide
 have hm := hf.mth
 unfold faultOf
 rw [if_neg (show ¬ (entMade f m x).disk ≠ 0 from fun h => h rfl)]
 have e1 : (oddF (entMade f m x).flags || (decide ((entMade f m x).method ≠ 0) && decide ((entMade f m x).method ≠ 8)) || linkB (entMade f m x)) = false := by
  show (oddF f || (decide (m.method ≠ 0) && decide (m.method ≠ 8)) || (decide (20 / 256 = 3) && decide (0 / 268435456 = 10))) = false
  rw [ho]
  rcases hm with h | h <;> rw [h] <;> simp
 rw [e1, if_neg (by simp), if_neg (show ¬ nameOk (entMade f m x).name = false from fun h => by rw [show (entMade f m x).name = ⟨m.name.toArray⟩ from rfl, hn] at h; cases h)]
 refine if_neg ?_
 show ¬ ((folderB ⟨m.name.toArray⟩ && (decide (m.text.length ≠ 0) || decide (m.data.length ≠ 0))) || (decide (m.method = 0) && decide (m.text.length ≠ m.data.length))) = true
 simp only [Bool.or_eq_true, Bool.and_eq_true, decide_eq_true_eq]
 rintro (⟨h1, h2⟩ | ⟨h1, h2⟩)
 ·obtain ⟨a, b⟩ := hfo h1
  rw [a, b] at h2
  simp at h2
 ·exact h2 (by rw [h0 h1])
def foldN : List (List UInt8) → List (List UInt8) → List (List UInt8)
 | [], acc => acc
 | n :: l, acc => foldN l (foldIn n n.length 0 acc)
theorem foldAll_made {f : Nat} : ∀ (l : List Made) (a : Nat) (acc : List (List UInt8)), foldAll (spansMade f l a) acc = foldN (l.map (·.name)) acc
 | [], _, _ => rfl
 | m :: l, a, acc => by
  unfold spansMade foldAll
  rw [foldAll_made l]
  rfl
theorem told_len {f : Nat} {l : List Made} {d : List Fil} (hperm : d.Perm ((l.filter fun m => !folderB ⟨m.name.toArray⟩).map (fun m => ((⟨m.name.toArray⟩ : ByteArray), m.text)) ++ (foldAll (spansMade f l 0) []).map folOf)) :
  d.length = (foldN (l.map (·.name)) []).length + (l.filter fun m => !folderB ⟨m.name.toArray⟩).length := by
 rw [hperm.length_eq, List.length_append, List.length_map, List.length_map, foldAll_made]
 omega
theorem inflateVal_inr {r : Sum Nat (List UInt8 × Nat)} {t : List UInt8} {z : Nat} (h : inflateVal r = .tuple #[.string ⟨t.toArray⟩, .int .i64 (z : Int), .int .i64 0]) (hz : 0 < z) : ∃ q, r = .inr (t, q) ∧ (q + 7) / 8 = z := by
 match r with
 | .inl k =>
  unfold inflateVal at h
  simp only [Value.tuple.injEq, Array.mk.injEq, List.cons.injEq, Value.int.injEq, Value.string.injEq] at h
  omega
 | .inr (o, q) =>
  unfold inflateVal at h
  simp only [Value.tuple.injEq, Array.mk.injEq, List.cons.injEq, Value.int.injEq, Value.string.injEq, ByteArray.mk.injEq, true_and, and_true] at h
  obtain ⟨h1, h2⟩ := h
  refine ⟨q, ?_, by omega⟩
  rw [show o = t by simpa using h1]
theorem gives_of {m : Made} (h8 : m.method = 8) (h : inflateVal (inflateOf ⟨m.data.toArray⟩ (m.text.length : Int)) = .tuple #[.string ⟨m.text.toArray⟩, .int .i64 (m.data.length : Int), .int .i64 0]) (hd : 0 < m.data.length) (hs : sumOf ⟨m.text.toArray⟩ = m.sum) : Gives m := by
 obtain ⟨q, h1, h2⟩ := inflateVal_inr h hd
 exact ⟨Or.inr ⟨h8, q, h1, h2⟩, hs⟩
end Go.Proofs.YtnmkmmgaoplfiaaGreatDoor
namespace Go.Proofs.YtnmkmmgaoplfiaaGreatDoor
open Go.RowKit
def pathL (n : Nat) : List UInt8 :=
 (if n / 4 = 1 ∨ n / 4 = 2 then [120, 47] else if n / 4 = 3 then [120, 47, 121, 47] else if n / 4 = 4 then [33, 47] else []) ++ ([[97], [98, 46, 116, 120, 116], [99, 32, 99], [90]].getD (n % 4) [] ++ (if n / 4 = 2 ∨ n / 4 = 5 then [122] else []))
def foldL (n : Nat) : List UInt8 := [[120, 47], [120, 47, 121, 47], [33, 47], [101, 109, 112, 116, 121, 47]].getD n []
def namesAll : List (List UInt8) := (List.range 24).map pathL ++ (List.range 4).map foldL
def folderLL (s : List UInt8) : Bool := decide (s.getLast? = some 47)
def bareLL (s : List UInt8) : List UInt8 := if folderLL s then s.dropLast else s
def clashLL (a b : List UInt8) : Bool := decide (bareLL a = bareLL b) || (leadsB (bareLL a) (bareLL b) && !folderLL a) || (leadsB (bareLL b) (bareLL a) && !folderLL b)
def nameLL (s : List UInt8) : Bool := decide (s.length ≤ 60) && s.all byteOk && (partsGo (bareLL s) []).all partOk
theorem folderB_list (a : List UInt8) : folderB ⟨a.toArray⟩ = folderLL a := by
 unfold folderB folderLL
 rw [ByteArray.toList_eq]
theorem bareL_list (a : List UInt8) : bareL ⟨a.toArray⟩ = bareLL a := by
 unfold bareL bareLL
 rw [folderB_list, ByteArray.toList_eq]
theorem clashB_list (a b : List UInt8) : clashB ⟨a.toArray⟩ ⟨b.toArray⟩ = clashLL a b := by
 unfold clashB clashLL
 rw [folderB_list, folderB_list, bareL_list, bareL_list]
theorem nameOk_list (a : List UInt8) : nameOk ⟨a.toArray⟩ = nameLL a := by
 unfold nameOk nameLL
 rw [bareL_list, ByteArray.toList_eq]
 rfl
theorem names_ok : namesAll.all nameLL = true := by decide +kernel
theorem names_clash : namesAll.all (fun a => namesAll.all fun b => decide (a = b) || !clashLL a b) = true := by decide +kernel
theorem names_file : (List.range 24).all (fun n => !folderLL (pathL n)) = true := by decide +kernel
theorem clash_none {l : List (List UInt8)} (hd : l.Nodup) (hm : ∀ a ∈ l, a ∈ namesAll) : anyPair clashB (l.map fun a => (⟨a.toArray⟩ : ByteArray)) = false := by
 induction l with
 | nil => rfl
 | cons a l ih =>
  obtain ⟨ha, hd⟩ := List.nodup_cons.1 hd
  rw [List.map_cons]
  unfold anyPair
  rw [ih hd (fun b hb => hm b (by simp [hb])), Bool.or_false, List.any_eq_false]
  intro x hx
  obtain ⟨b, hb, rfl⟩ := List.mem_map.1 hx
  rw [clashB_list]
  have := List.all_eq_true.1 (List.all_eq_true.1 names_clash a (hm a (by simp))) b (hm b (by simp [hb]))
  have hne : a ≠ b := fun e => ha (e ▸ hb)
  simpa [hne] using this
end Go.Proofs.YtnmkmmgaoplfiaaGreatDoor
