/- Pieces, packed and unpacked, in plain functions. -/
import Derived.Test.YtobfkhapeejkfaaGreatDoorKPack
namespace Go.Proofs.YtobfkhapeejkfaaGreatDoor
set_option linter.unusedSimpArgs false
set_option linter.unusedVariables false

/-- What comes out where some bits stand in s as far as it goes, and no more than 'most' may be given. -/
def Comes3 (s : ByteArray) (most len out : Nat) (X ok : Sum Nat (List UInt8 × Nat)) : Prop :=
  (len ≤ 8 * s.size → out ≤ most → X = ok) ∧ (8 * s.size < len → out ≤ most → X = .inl 1) ∧ (len ≤ 8 * s.size → most < out → X = .inl 2)
theorem Comes3.trans {s : ByteArray} {most l1 o1 l2 o2 : Nat} {X Y Z : Sum Nat (List UInt8 × Nat)} (h : Comes3 s most l1 o1 X Y) (k : o1 ≤ most → Comes3 s most l2 o2 Y Z) (hl : l1 ≤ l2) (ho : o1 ≤ o2) : Comes3 s most l2 o2 X Z := by
  refine ⟨fun a b => ?_, fun a b => ?_, fun a b => ?_⟩
  · rw [h.1 (by omega) (by omega)]; exact (k (by omega)).1 a b
  · by_cases c : l1 ≤ 8 * s.size
    · rw [h.1 c (by omega)]; exact (k (by omega)).2.1 a b
    · exact h.2.1 (by omega) (by omega)
  · by_cases c : o1 ≤ most
    · rw [h.1 (by omega) c]; exact (k c).2.2 a b
    · exact h.2.2 (by omega) (by omega)

def copyN (N : Int) : Nat := if pickOf N 9 = 8 then 258 else 3 + pickOf N 9
def copyFar (F : Int) (len : Nat) : Nat := if len < 1 + pickOf F 6 then len else 1 + pickOf F 6
theorem copyN_is (N : Int) : (3 ≤ copyN N ∧ copyN N ≤ 10) ∨ copyN N = 258 := by
  have := pickOf_lt N 9 (by omega)
  unfold copyN; split <;> omega
theorem copyFar_is (F : Int) (len : Nat) (h : 0 < len) : (1 ≤ copyFar F len ∧ copyFar F len ≤ 6) ∧ copyFar F len ≤ len := by
  have := pickOf_lt F 6 (by omega)
  unfold copyFar; split <;> omega
/-- The bits of a FIXED block behind its first three: a text, a copy or none. -/
def fixBits (t : List UInt8) (c : List Nat) : List Nat := textBits t ++ (c ++ letterBits 256)
theorem fix_text (s : ByteArray) (most p : Nat) (out t : List UInt8) (h : At s p (fixBits t [])) (ho : out.length ≤ most) :
    Comes3 s most (p + (fixBits t []).length) (out.length + t.length) (codedGo fixLetters fixDist s most (8 * s.size + 1) p out) (.inr (out ++ t, p + (fixBits t []).length)) := by
  have ge := textBits_ge t
  have le : (fixBits t []).length = (textBits t).length + 7 := by unfold fixBits; rw [List.length_append, List.nil_append, letter_len]; rfl
  unfold fixBits at h
  have a := coded_text s most t p (8 * s.size + 1) out h.left (by omega) ho
  have h2 := h.right
  rw [List.nil_append] at h2
  have b := coded_end s most (p + (textBits t).length) (8 * s.size + 1 - t.length) (out ++ t) h2 (by omega)
  rw [le]
  refine Comes3.trans (l1 := p + (textBits t).length) (o1 := out.length + t.length) a (fun hm => ⟨fun c _ => ?_, fun c _ => b.2 (by omega), fun c d => by omega⟩) (by omega) (Nat.le_refl _)
  rw [b.1 (by omega)]; rfl
theorem fix_copy (s : ByteArray) (most p : Nat) (out t : List UInt8) (n far : Nat) (hn : (3 ≤ n ∧ n ≤ 10) ∨ n = 258) (hfar : 1 ≤ far ∧ far ≤ 6) (hout : far ≤ (out ++ t).length) (h : At s p (fixBits t (copyBits n far))) (ho : out.length ≤ most) :
    Comes3 s most (p + (fixBits t (copyBits n far)).length) (out.length + t.length + n) (codedGo fixLetters fixDist s most (8 * s.size + 1) p out) (.inr (copyOf (out ++ t) ((out ++ t).length - far) far n, p + (fixBits t (copyBits n far)).length)) := by
  have ge := textBits_ge t
  have le : (fixBits t (copyBits n far)).length = (textBits t).length + ((copyBits n far).length + 7) := by unfold fixBits; rw [List.length_append, List.length_append, letter_len]; rfl
  have g1 : 1 ≤ (copyBits n far).length := by
    unfold copyBits; rw [List.length_append]
    have h5 : 5 ≤ (if far < 5 then codeBits (far - 1) 5 else codeBits 4 5 ++ [far - 5]).length := by split <;> simp [codeBits_len]
    omega
  unfold fixBits at h
  have a := coded_text s most t p (8 * s.size + 1) out h.left (by omega) ho
  have h2 := h.right
  rw [le]
  refine Comes3.trans (l1 := p + (textBits t).length) (o1 := out.length + t.length) a (fun hm => ?_) (by omega) (by omega)
  have lo : (out ++ t).length = out.length + t.length := List.length_append
  have b := coded_copy s most (p + (textBits t).length) (8 * s.size + 1 - t.length) n far (out ++ t) hn hfar hout h2.left (by omega) (by omega)
  rw [lo] at b
  refine Comes3.trans (l1 := p + (textBits t).length + (copyBits n far).length) (o1 := out.length + t.length + n) b (fun hm2 => ?_) (by omega) (Nat.le_refl _)
  have c := coded_end s most (p + (textBits t).length + (copyBits n far).length) (8 * s.size + 1 - t.length - 1) (copyOf (out ++ t) ((out ++ t).length - far) far n) h2.right (by omega)
  rw [lo] at c
  refine ⟨fun d _ => ?_, fun d _ => c.2 (by omega), fun d e => by omega⟩
  rw [c.1 (by omega), lo, show p + (textBits t).length + (copyBits n far).length + 7 = p + ((textBits t).length + ((copyBits n far).length + 7)) by omega]

/-- A block behind its first three bits: its number of a kind, its bits, and what was given then. -/
theorem block_comes (s : ByteArray) (most p f kd last len : Nat) (out out' : List UInt8) (hk : kd < 4) (hl : last ≤ 1) (h : At s p ([last] ++ numBits kd 2)) (h3 : p + 3 ≤ len) (hf : 8 * s.size + 1 ≤ p + f) (hg : out.length ≤ out'.length)
    (hb : Comes3 s most len out'.length (blockOf s kd (p + 3) out most) (.inr (out', len))) :
    Comes3 s most len out'.length (blocksGo s most f p out) (if last = 1 then .inr (out', len) else blocksGo s most (f - 1) len out') := by
  cases f with
  | zero => exact ⟨fun a _ => by omega, fun _ _ => rfl, fun a _ => by omega⟩
  | succ g =>
    by_cases c1 : 8 * s.size < p + 3
    · have e : blocksGo s most (g + 1) p out = .inl 1 := by unfold blocksGo; rw [if_pos c1]
      rw [e]
      exact ⟨fun a _ => by omega, fun _ _ => rfl, fun a _ => by omega⟩
    · have b0 := h.left 0 (by simp) (by omega)
      simp at b0
      have b1 := num_of s (p + 1) kd 2 (by simpa using h.right) (by omega) hk
      have e : blocksGo s most (g + 1) p out = match blockOf s kd (p + 3) out most with | .inl e => .inl e | .inr (o, q) => if last = 1 then .inr (o, q) else blocksGo s most g q o := by
        conv => lhs; unfold blocksGo
        rw [if_neg c1, b1, b0]
        rfl
      rw [e, Nat.add_sub_cancel]
      refine ⟨fun a b => ?_, fun a b => ?_, fun a b => ?_⟩
      · rw [hb.1 a b]
      · rw [hb.2.1 a b]
      · rw [hb.2.2 a b]

/-- One piece more. -/
def pieceOut (st : List Nat × List UInt8) (x : Int × Int × Int × List UInt8) : List Nat × List UInt8 :=
  if x.1.tmod 3 = 0 then (st.1 ++ ([0] ++ numBits 0 2) ++ plainBits (st.1.length + 3) x.2.2.2, st.2 ++ x.2.2.2)
  else if x.1.tmod 3 = 1 ∧ 0 < (st.2 ++ x.2.2.2).length then
    (st.1 ++ ([0] ++ numBits 1 2) ++ fixBits x.2.2.2 (copyBits (copyN x.2.1) (copyFar x.2.2.1 (st.2 ++ x.2.2.2).length)), copyOf (st.2 ++ x.2.2.2) ((st.2 ++ x.2.2.2).length - copyFar x.2.2.1 (st.2 ++ x.2.2.2).length) (copyFar x.2.2.1 (st.2 ++ x.2.2.2).length) (copyN x.2.1))
  else (st.1 ++ ([0] ++ numBits 1 2) ++ fixBits x.2.2.2 [], st.2 ++ x.2.2.2)
theorem piece_pre (st : List Nat × List UInt8) (x : Int × Int × Int × List UInt8) : ∃ ys, (pieceOut st x).1 = st.1 ++ ys ∧ 3 ≤ ys.length := by
  unfold pieceOut
  split
  · exact ⟨_, by rw [List.append_assoc], by simp [numBits_len]⟩
  · split
    · exact ⟨_, by rw [List.append_assoc], by simp [numBits_len]⟩
    · exact ⟨_, by rw [List.append_assoc], by simp [numBits_len]⟩
theorem piece_comes (s : ByteArray) (most f : Nat) (st : List Nat × List UInt8) (x : Int × Int × Int × List UInt8) (ht : x.2.2.2.length ≤ 40) (h : At s 0 (pieceOut st x).1) (ho : st.2.length ≤ most) (hf : 8 * s.size + 1 ≤ st.1.length + f) :
    Comes3 s most (pieceOut st x).1.length (pieceOut st x).2.length (blocksGo s most f st.1.length st.2) (blocksGo s most (f - 1) (pieceOut st x).1.length (pieceOut st x).2) := by
  obtain ⟨bs, text⟩ := st
  obtain ⟨K, N, F, t⟩ := x
  unfold pieceOut at h ⊢
  simp only at h ⊢ ho hf ht
  have l3 : ∀ k, ([0] ++ numBits k 2).length = 3 := fun k => by rw [List.length_append, numBits_len]; rfl
  by_cases c0 : K.tmod 3 = 0
  · simp only [if_pos c0] at h ⊢
    have h1 := h.left.right
    have h2 := h.right
    rw [List.length_append, l3] at h2
    rw [Nat.zero_add] at h1 h2
    have pa := plain_at s most (bs.length + 3) text t ht h2 ho
    have le : (bs ++ ([0] ++ numBits 0 2) ++ plainBits (bs.length + 3) t).length = bs.length + 3 + (plainBits (bs.length + 3) t).length := by rw [List.length_append, List.length_append, l3]
    rw [le, List.length_append]
    have := block_comes s most bs.length f 0 0 (bs.length + 3 + (plainBits (bs.length + 3) t).length) text (text ++ t) (by omega) (by omega) h1 (by omega) hf (by rw [List.length_append]; omega) (by rw [List.length_append]; unfold blockOf; rw [if_pos rfl]; exact pa)
    rw [if_neg (by omega), List.length_append] at this
    exact this
  · simp only [if_neg c0] at h ⊢
    have bk : ∀ p out, blockOf s 1 p out most = codedGo fixLetters fixDist s most (8 * s.size + 1) p out := fun p out => by unfold blockOf; rw [if_neg (by omega), if_pos rfl]
    by_cases c1 : K.tmod 3 = 1 ∧ 0 < (text ++ t).length
    · simp only [if_pos c1] at h ⊢
      have h1 := h.left.right
      have h2 := h.right
      rw [List.length_append, l3] at h2
      rw [Nat.zero_add] at h1 h2
      have cf := copyFar_is F (text ++ t).length c1.2
      have pa := fix_copy s most (bs.length + 3) text t (copyN N) (copyFar F (text ++ t).length) (copyN_is N) cf.1 cf.2 h2 ho
      have le : (bs ++ ([0] ++ numBits 1 2) ++ fixBits t (copyBits (copyN N) (copyFar F (text ++ t).length))).length = bs.length + 3 + (fixBits t (copyBits (copyN N) (copyFar F (text ++ t).length))).length := by rw [List.length_append, List.length_append, l3]
      have lc := copyOf_len (text ++ t) ((text ++ t).length - copyFar F (text ++ t).length) (copyFar F (text ++ t).length) (copyN N)
      have lo : (text ++ t).length = text.length + t.length := List.length_append
      rw [le]
      have := block_comes s most bs.length f 1 0 (bs.length + 3 + (fixBits t (copyBits (copyN N) (copyFar F (text ++ t).length))).length) text (copyOf (text ++ t) ((text ++ t).length - copyFar F (text ++ t).length) (copyFar F (text ++ t).length) (copyN N)) (by omega) (by omega) h1 (by omega) hf (by rw [lc]; omega) (by rw [bk, lc, lo]; rw [lo] at pa; exact pa)
      rw [if_neg (by omega)] at this
      exact this
    · simp only [if_neg c1] at h ⊢
      have h1 := h.left.right
      have h2 := h.right
      rw [List.length_append, l3] at h2
      rw [Nat.zero_add] at h1 h2
      have pa := fix_text s most (bs.length + 3) text t h2 ho
      have le : (bs ++ ([0] ++ numBits 1 2) ++ fixBits t []).length = bs.length + 3 + (fixBits t []).length := by rw [List.length_append, List.length_append, l3]
      rw [le, List.length_append]
      have := block_comes s most bs.length f 1 0 (bs.length + 3 + (fixBits t []).length) text (text ++ t) (by omega) (by omega) h1 (by omega) hf (by rw [List.length_append]; omega) (by rw [bk, List.length_append]; exact pa)
      rw [if_neg (by omega), List.length_append] at this
      exact this

theorem piece_text (st : List Nat × List UInt8) (x : Int × Int × Int × List UInt8) : st.2.length ≤ (pieceOut st x).2.length := by
  unfold pieceOut
  split
  · simp
  · split
    · rw [copyOf_len]; simp; omega
    · simp
theorem fold_pre : ∀ (xs : List (Int × Int × Int × List UInt8)) (st : List Nat × List UInt8), ∃ ys, (xs.foldl pieceOut st).1 = st.1 ++ ys
  | [], st => ⟨[], by simp⟩
  | x :: xs, st => by
    obtain ⟨ys, h1, _⟩ := piece_pre st x
    obtain ⟨zs, h2⟩ := fold_pre xs (pieceOut st x)
    exact ⟨ys ++ zs, by rw [List.foldl_cons, h2, h1, List.append_assoc]⟩
theorem fold_text : ∀ (xs : List (Int × Int × Int × List UInt8)) (st : List Nat × List UInt8), st.2.length ≤ (xs.foldl pieceOut st).2.length
  | [], st => Nat.le_refl _
  | x :: xs, st => Nat.le_trans (piece_text st x) (fold_text xs (pieceOut st x))
theorem blocks_over (s : ByteArray) (most p f : Nat) (out : List UInt8) (h : 8 * s.size < p) : blocksGo s most f p out = .inl 1 := by
  cases f with
  | zero => rfl
  | succ g => unfold blocksGo; rw [if_pos (by omega)]
theorem fold_comes (s : ByteArray) (most : Nat) : ∀ (xs : List (Int × Int × Int × List UInt8)) (st : List Nat × List UInt8) (f : Nat), (∀ x ∈ xs, x.2.2.2.length ≤ 40) → At s 0 (xs.foldl pieceOut st).1 → st.2.length ≤ most → 8 * s.size + 1 ≤ st.1.length + f →
    Comes3 s most (xs.foldl pieceOut st).1.length (xs.foldl pieceOut st).2.length (blocksGo s most f st.1.length st.2) (blocksGo s most (f - xs.length) (xs.foldl pieceOut st).1.length (xs.foldl pieceOut st).2)
  | [], st, f, _, _, ho, _ => ⟨fun _ _ => rfl, fun a _ => blocks_over s most _ _ _ a, fun _ b => absurd ho (by simpa using b)⟩
  | x :: xs, st, f, ht, h, ho, hf => by
    obtain ⟨zs, h2⟩ := fold_pre xs (pieceOut st x)
    obtain ⟨ys, h1, h3⟩ := piece_pre st x
    rw [List.foldl_cons] at h ⊢
    have hp := h
    rw [h2] at hp
    have a := piece_comes s most f st x (ht x (List.mem_cons_self ..)) hp.left ho hf
    have l1 : (pieceOut st x).1.length = st.1.length + ys.length := by rw [h1, List.length_append]
    have l2 : (xs.foldl pieceOut (pieceOut st x)).1.length = (pieceOut st x).1.length + zs.length := by rw [h2, List.length_append]
    refine a.trans (fun hm => ?_) (by omega) (fold_text xs (pieceOut st x))
    have ih := fold_comes s most xs (pieceOut st x) (f - 1) (fun y hy => ht y (List.mem_cons_of_mem _ hy)) h hm (by omega)
    rw [List.length_cons, show f - (xs.length + 1) = f - 1 - xs.length by omega]
    exact ih
/-- Pieces, packed: their bits, and the text. -/
def packedOf (xs : List (Int × Int × Int × List UInt8)) : List Nat × List UInt8 := ((xs.foldl pieceOut ([], [])).1 ++ ([1] ++ numBits 1 2) ++ fixBits [] [], (xs.foldl pieceOut ([], [])).2)
theorem packed_comes (s : ByteArray) (most : Nat) (xs : List (Int × Int × Int × List UInt8)) (ht : ∀ x ∈ xs, x.2.2.2.length ≤ 40) (hx : xs.length ≤ 12) (h : At s 0 (packedOf xs).1) :
    Comes3 s most (packedOf xs).1.length (packedOf xs).2.length (blocksGo s most (8 * s.size + 1) 0 []) (.inr ((packedOf xs).2, (packedOf xs).1.length)) := by
  obtain ⟨st, hst⟩ : ∃ st, st = xs.foldl pieceOut ([], []) := ⟨_, rfl⟩
  have l3 : ([1] ++ numBits 1 2).length = 3 := rfl
  unfold packedOf at h ⊢
  rw [← hst] at h ⊢
  simp only at h ⊢
  have a := fold_comes s most xs ([], []) (8 * s.size + 1) ht (by rw [← hst]; exact h.left.left) (Nat.zero_le _) (by simp)
  rw [← hst] at a
  have le : (st.1 ++ ([1] ++ numBits 1 2) ++ fixBits [] []).length = st.1.length + 3 + (fixBits [] []).length := by rw [List.length_append, List.length_append, l3]
  rw [le]
  refine a.trans (fun hm => ?_) (by omega) (Nat.le_refl _)
  have h1 := h.left.right
  have h2 := h.right
  rw [List.length_append, l3] at h2
  rw [Nat.zero_add] at h1 h2
  have pa := fix_text s most (st.1.length + 3) st.2 [] h2 hm
  have bk : ∀ p out, blockOf s 1 p out most = codedGo fixLetters fixDist s most (8 * s.size + 1) p out := fun p out => by unfold blockOf; rw [if_neg (by omega), if_pos rfl]
  have ge : 3 * xs.length ≤ st.1.length := by
    rw [hst]
    have : ∀ (xs : List (Int × Int × Int × List UInt8)) (st : List Nat × List UInt8), st.1.length + 3 * xs.length ≤ (xs.foldl pieceOut st).1.length := by
      intro xs
      induction xs with
      | nil => intro st; simp
      | cons x xs ih =>
        intro st
        obtain ⟨ys, h1, h3⟩ := piece_pre st x
        have := ih (pieceOut st x)
        rw [List.foldl_cons, List.length_cons]
        rw [h1, List.length_append] at this
        omega
    have := this xs ([], [])
    simpa using this
  have := block_comes s most st.1.length (8 * s.size + 1 - xs.length) 1 1 (st.1.length + 3 + (fixBits [] []).length) st.2 st.2 (by omega) (by omega) h1 (by omega) (by omega) (Nat.le_refl _) (by rw [bk]; simpa using pa)
  rw [if_pos rfl] at this
  exact this
end Go.Proofs.YtobfkhapeejkfaaGreatDoor
