/- What was packed is unpacked: the walk of 'Given'. -/
import Derived.Test.YtobfkhapeejkfaaGreatDoorKPacked
import Derived.Test.YtobfkhapeejkfaaGreatDoorWAwake
namespace Go.Proofs.YtobfkhapeejkfaaGreatDoor
open Go.RowKit
set_option linter.unusedSimpArgs false
set_option linter.unusedVariables false

theorem packed_le (xs : List (Int × Int × Int × List UInt8)) : ∀ x ∈ (packedOf xs).1, x ≤ 1 := by
  have fb : ∀ t c, (∀ x ∈ c, x ≤ 1) → ∀ x ∈ fixBits t c, x ≤ 1 := by
    intro t c hc x hx
    unfold fixBits textBits at hx
    simp only [List.mem_append, List.mem_flatMap, letterBits_eq] at hx
    rcases hx with ⟨y, _, hy⟩ | hx | hx
    · exact codeBits_le _ _ x hy
    · exact hc x hx
    · exact codeBits_le _ _ x hx
  have cb : ∀ n far, 1 ≤ far ∧ far ≤ 6 → ∀ x ∈ copyBits n far, x ≤ 1 := by
    intro n far hf x hx
    unfold copyBits at hx
    rcases List.mem_append.1 hx with hx | hx
    · split at hx <;> (rw [letterBits_eq] at hx; exact codeBits_le _ _ x hx)
    · split at hx
      · exact codeBits_le _ _ x hx
      · rcases List.mem_append.1 hx with hx | hx
        · exact codeBits_le _ _ x hx
        · simp at hx; omega
  have hd : ∀ k x, x ∈ [0] ++ numBits k 2 → x ≤ 1 := by
    intro k x hx
    rcases List.mem_append.1 hx with hx | hx
    · simp at hx; omega
    · exact numBits_le _ _ x hx
  have one : ∀ (st : List Nat × List UInt8) y, (∀ x ∈ st.1, x ≤ 1) → ∀ x ∈ (pieceOut st y).1, x ≤ 1 := by
    intro st y h x hx
    unfold pieceOut at hx
    split at hx
    · rcases List.mem_append.1 hx with hx | hx
      · exact (List.mem_append.1 hx).elim (h x) (hd 0 x)
      · unfold plainBits padBits at hx
        rcases List.mem_append.1 hx with hx | hx
        · simp only [List.mem_replicate] at hx; omega
        · exact strBits_le _ x hx
    · split at hx
      · rename_i c1
        rcases List.mem_append.1 hx with hx | hx
        · exact (List.mem_append.1 hx).elim (h x) (hd 1 x)
        · exact fb _ _ (cb _ _ (copyFar_is _ _ c1.2).1) x hx
      · rcases List.mem_append.1 hx with hx | hx
        · exact (List.mem_append.1 hx).elim (h x) (hd 1 x)
        · exact fb _ _ (fun x hx => by cases hx) x hx
  have all : ∀ (xs : List (Int × Int × Int × List UInt8)) (st : List Nat × List UInt8), (∀ x ∈ st.1, x ≤ 1) → ∀ x ∈ (xs.foldl pieceOut st).1, x ≤ 1 := by
    intro xs
    induction xs with
    | nil => intro st h; exact h
    | cons y xs ih => intro st h; exact ih _ (one st y h)
  intro x hx
  unfold packedOf at hx
  rcases List.mem_append.1 hx with hx | hx
  · rcases List.mem_append.1 hx with hx | hx
    · exact all xs _ (fun x hx => by cases hx) x hx
    · rcases List.mem_append.1 hx with hx | hx
      · simp at hx; omega
      · exact numBits_le _ _ x hx
  · exact fb _ _ (fun x hx => by cases hx) x hx

theorem bit_app (a b : ByteArray) (i : Nat) (h : i < 8 * a.size) : bitOf (a ++ b) i = bitOf a i := by
  have h1 : i / 8 < a.size := by omega
  have hs : (a ++ b).size = a.size + b.size := ByteArray.size_append
  unfold bitOf
  rw [dif_pos h1, dif_pos (by omega)]
  congr 3
  exact ByteArray.getElem_append_left h1
theorem bit_cut (a : ByteArray) (j i : Nat) (hj : j ≤ a.size) (h : i < 8 * j) : bitOf (a.extract 0 j) i = bitOf a i := by
  have h1 : i / 8 < j := by omega
  have hs : (a.extract 0 j).size = j := by rw [ByteArray.size_extract]; omega
  unfold bitOf
  rw [dif_pos (by omega), dif_pos (by omega)]
  congr 3
  simp [ByteArray.getElem_extract]

/-- What Inflate answers of what was packed. -/
structure Packs (p : ByteArray) (text : List UInt8) : Prop where
  whole : inflateVal (inflateOf p (text.length : Int)) = .tuple #[.string ⟨text.toArray⟩, .int .i64 (p.size : Int), .int .i64 0]
  more : ∀ b : ByteArray, inflateVal (inflateOf (p ++ b) ((text.length : Int) + 1)) = .tuple #[.string ⟨text.toArray⟩, .int .i64 (p.size : Int), .int .i64 0]
  less : text ≠ [] → inflateVal (inflateOf p ((text.length : Int) - 1)) = .tuple #[.string ⟨#[]⟩, .int .i64 0, .int .i64 2]
  none : text = [] → inflateVal (inflateOf p ((text.length : Int) - 1)) = .tuple #[.string ⟨#[]⟩, .int .i64 (p.size : Int), .int .i64 0]
  cut : ∀ j, j < p.size → inflateVal (inflateOf (p.extract 0 j) (text.length : Int)) = .tuple #[.string ⟨#[]⟩, .int .i64 0, .int .i64 1]
theorem packs (xs : List (Int × Int × Int × List UInt8)) (ht : ∀ x ∈ xs, x.2.2.2.length ≤ 40) (hx : xs.length ≤ 12) : Packs ⟨(bytesOf (packedOf xs).1).toArray⟩ (packedOf xs).2 := by
  have le := packed_le xs
  have bi := bitsIn _ le
  obtain ⟨bits, hbits⟩ : ∃ bits, bits = (packedOf xs).1 := ⟨_, rfl⟩
  obtain ⟨text, htext⟩ : ∃ text, text = (packedOf xs).2 := ⟨_, rfl⟩
  have pc : ∀ s most, At s 0 bits → Comes3 s most bits.length text.length (blocksGo s most (8 * s.size + 1) 0 []) (.inr (text, bits.length)) := by
    intro s most h
    rw [hbits, htext]; rw [hbits] at h
    exact packed_comes s most xs ht hx h
  rw [← hbits] at le bi ⊢
  rw [← htext]
  obtain ⟨p, hp⟩ : ∃ p : ByteArray, p = ⟨(bytesOf bits).toArray⟩ := ⟨_, rfl⟩
  have hbit : ∀ i, bitOf p i = bits.getD i 0 := fun i => by rw [hp]; exact bitOf_bytes bits le i
  have psz : p.size = (bits.length + 7) / 8 := by rw [hp, kstr_size]; exact bi.len
  rw [← hp]
  have at0 : At p 0 bits := fun i _ _ => by rw [Nat.zero_add]; exact hbit i
  have val : ∀ q, (q + 7) / 8 = p.size → inflateVal (.inr (text, q)) = .tuple #[.string ⟨text.toArray⟩, .int .i64 (p.size : Int), .int .i64 0] := fun q hq => by unfold inflateVal; rw [← hq]
  refine ⟨?_, fun b => ?_, fun hne => ?_, fun he => ?_, fun j hj => ?_⟩
  · unfold inflateOf
    rw [show (max (text.length : Int) 0).toNat = text.length by omega, (pc p text.length at0).1 (by omega) (Nat.le_refl _)]
    exact val _ psz.symm
  · have hs : (p ++ b).size = p.size + b.size := ByteArray.size_append
    have at1 : At (p ++ b) 0 bits := fun i hi _ => by rw [Nat.zero_add, bit_app p b i (by omega)]; exact hbit i
    unfold inflateOf
    rw [show (max ((text.length : Int) + 1) 0).toNat = text.length + 1 by omega, (pc (p ++ b) (text.length + 1) at1).1 (by omega) (by omega)]
    exact val _ psz.symm
  · have l1 : 1 ≤ text.length := by cases text with | nil => exact absurd rfl hne | cons c l => simp
    unfold inflateOf
    rw [show (max ((text.length : Int) - 1) 0).toNat = text.length - 1 by omega, (pc p (text.length - 1) at0).2.2 (by omega) (by omega)]
    rfl
  · have l1 : text.length = 0 := by rw [he]; rfl
    unfold inflateOf
    rw [show (max ((text.length : Int) - 1) 0).toNat = text.length by omega, (pc p text.length at0).1 (by omega) (Nat.le_refl _)]
    rw [val _ psz.symm, he]
  · have hs : (p.extract 0 j).size = j := by rw [ByteArray.size_extract]; omega
    have at2 : At (p.extract 0 j) 0 bits := fun i hi h8 => by rw [Nat.zero_add] at h8 ⊢; rw [bit_cut p j i (by omega) (by omega)]; exact hbit i
    unfold inflateOf
    rw [show (max (text.length : Int) 0).toNat = text.length by omega, (pc (p.extract 0 j) text.length at2).2.1 (by omega) (Nat.le_refl _)]
    rfl

theorem packed_bd (P : Nat → Int × Int × Int × ByteArray) (k : Nat) (hk : k ≤ 12) : 1 ≤ (bytesOf (packedOf (piecesOf P k)).1).length ∧ (bytesOf (packedOf (piecesOf P k)).1).length ≤ 2000 ∧ (packedOf (piecesOf P k)).2.length ≤ 3600 := by
  have l := (bitsIn _ (packed_le (piecesOf P k))).len
  have bd := foldOf_bd P k
  unfold foldOf at bd
  have e : (packedOf (piecesOf P k)).1.length = ((piecesOf P k).foldl pieceOut ([], [])).1.length + 10 := by
    have l7 : (letterBits 256).length = 7 := letter_len 256
    unfold packedOf fixBits
    simp [textBits, numBits_len, l7]
  have e2 : (packedOf (piecesOf P k)).2.length = ((piecesOf P k).foldl pieceOut ([], [])).2.length := rfl
  omega
theorem pieces_ok (P : Nat → Int × Int × Int × ByteArray) (k : Nat) : (∀ x ∈ piecesOf P k, x.2.2.2.length ≤ 40) ∧ (piecesOf P k).length = k := by
  refine ⟨fun x hx => ?_, by simp [piecesOf]⟩
  simp only [piecesOf, List.mem_map] at hx
  obtain ⟨i, _, rfl⟩ := hx
  exact List.length_take_le _ _
theorem kpacked_r (w : World) (ao : Option Addr) (len cap : Nat) (P : Nat → Int × Int × Int × ByteArray) (p T : ByteArray) (hp : p = ⟨(bytesOf (packedOf (piecesOf P (min len 12))).1).toArray⟩) (hT : T = ⟨(packedOf (piecesOf P (min len 12))).2.toArray⟩) (hlen : len ≤ 9223372036854775807)
    (hop : ∀ i, i < len → ∃ sb so, ao = some ⟨sb, so, none⟩ ∧ PieceAt w sb (so + i * 4) (P i).1 (P i).2.1 (P i).2.2.1 (P i).2.2.2) :
    Calls Tryz.prog 15 #[.slice ao len cap] w fun e w' => e = .returned (.tuple #[.string p, .string T]) ∧ Below w.heap.size w w' := by
  subst hp hT; exact kpacked_c w ao len cap P hlen hop
theorem inflate_v' (w : World) (s : ByteArray) (most : Int) (v : Value) (hv : inflateVal (inflateOf s most) = v) (hm : most ≤ 9223372036854775807) (hs : s.size ≤ 2147483648) (ho : Ord w) (hb : 0 < w.heap.size) :
    Calls Tryz.prog 16 #[.string s, .int .i64 most] w fun e w' => e = .returned v ∧ Below w.heap.size w w' := by
  subst hv; exact inflate_c w s most hm hs ho hb

set_option maxRecDepth 100000 in
set_option maxHeartbeats 4000000 in
theorem given_c (w : World) (ao : Option Addr) (len cap : Nat) (P : Nat → Int × Int × Int × ByteArray) (behind : ByteArray) (cut : Int) (ho : Ord w) (h0 : 0 < w.heap.size) (hlen : len ≤ 9223372036854775807) (hb : behind.size ≤ 1048576) (c0 : -9223372036854775808 ≤ cut) (c1 : cut ≤ 9223372036854775807)
    (hop : ∀ i, i < len → ∃ sb so, ao = some ⟨sb, so, none⟩ ∧ PieceAt w sb (so + i * 4) (P i).1 (P i).2.1 (P i).2.2.1 (P i).2.2.2) :
    Calls Tryz.prog 4 #[.slice ao len cap, .string behind, .int .i64 cut] w fun e w' => e = .returned (.bool true) ∧ Below w.heap.size w w' := by
  have pa := packs (piecesOf P (min len 12)) (pieces_ok P _).1 (by rw [(pieces_ok P _).2]; omega)
  have bd := packed_bd P (min len 12) (by omega)
  obtain ⟨p, hp⟩ : ∃ p : ByteArray, p = ⟨(bytesOf (packedOf (piecesOf P (min len 12))).1).toArray⟩ := ⟨_, rfl⟩
  obtain ⟨T, hT⟩ : ∃ T : ByteArray, T = ⟨(packedOf (piecesOf P (min len 12))).2.toArray⟩ := ⟨_, rfl⟩
  have psz : p.size = (bytesOf (packedOf (piecesOf P (min len 12))).1).length := by rw [hp]; exact kstr_size _
  have tsz : T.size = (packedOf (piecesOf P (min len 12))).2.length := by rw [hT]; exact kstr_size _
  have p1 : 1 ≤ p.size := by omega
  have p2 : p.size ≤ 2000 := by omega
  have t2 : T.size ≤ 3600 := by omega
  rw [← hp] at pa
  have HP : Hid (p = ⟨(bytesOf (packedOf (piecesOf P (min len 12))).1).toArray⟩) := hp
  have HT : Hid (T = ⟨(packedOf (piecesOf P (min len 12))).2.toArray⟩) := hT
  have e1 : Hid (inflateVal (inflateOf p (T.size : Int)) = .tuple #[.string T, .int .i64 (p.size : Int), .int .i64 0]) := by
    have := pa.whole; rw [← hT, ← tsz] at this; exact this
  have e2 : Hid (inflateVal (inflateOf (p ++ behind) ((T.size : Int) + 1)) = .tuple #[.string T, .int .i64 (p.size : Int), .int .i64 0]) := by
    have := pa.more behind; rw [← hT, ← tsz] at this; exact this
  obtain ⟨j, hj⟩ : ∃ j, pickOf cut p.size = j := ⟨_, rfl⟩
  have jl : j < p.size := by rw [← hj]; exact pickOf_lt cut p.size (by omega)
  have HJ : Hid (pickOf cut p.size = j) := hj
  have e4 : Hid (inflateVal (inflateOf (p.extract 0 j) (T.size : Int)) = .tuple #[.string ⟨#[]⟩, .int .i64 0, .int .i64 1]) := by
    have := pa.cut j jl; rw [← tsz] at this; exact this
  have s2 : (p ++ behind).size = p.size + behind.size := ByteArray.size_append
  have s4 : (p.extract 0 j).size = j := by rw [ByteArray.size_extract]; omega
  have HOP : Hid (∀ i, i < len → ∃ sb so, ao = some ⟨sb, so, none⟩ ∧ PieceAt w sb (so + i * 4) (P i).1 (P i).2.1 (P i).2.2.1 (P i).2.2.2) := hop
  have cases3 : (∃ v, Hid (inflateVal (inflateOf p ((T.size : Int) - 1)) = .tuple #[.string ⟨#[]⟩, v, .int .i64 0]) ∧ T = ⟨#[]⟩) ∨ (Hid (inflateVal (inflateOf p ((T.size : Int) - 1)) = .tuple #[.string ⟨#[]⟩, .int .i64 0, .int .i64 2]) ∧ T ≠ ⟨#[]⟩) := by
    by_cases hz : (packedOf (piecesOf P (min len 12))).2 = []
    · left
      have := pa.none hz
      rw [← tsz] at this
      exact ⟨_, this, by rw [hT, hz]⟩
    · right
      have := pa.less hz
      rw [← tsz] at this
      refine ⟨this, fun e => hz ?_⟩
      have : T.size = 0 := by rw [e]; rfl
      exact List.eq_nil_of_length_eq_zero (by omega)
  have sz2 : (p ++ behind).size ≤ 2147483648 := by omega
  have sz4 : (p.extract 0 j).size ≤ 2147483648 := by omega
  have jI : (j : Int) ≤ (p.size : Int) := by omega
  have jN : j ≤ p.size := by omega
  clear hop pa bd hp hT psz tsz hj s2 s4
  rcases cases3 with ⟨v, e3, hz⟩ | ⟨e3, hz⟩
  case' inl =>
    subst hz
    have e1' : Hid (inflateVal (inflateOf p 0) = .tuple #[.string ⟨#[]⟩, .int .i64 (p.size : Int), .int .i64 0]) := e1
    have e2' : Hid (inflateVal (inflateOf (p ++ behind) 1) = .tuple #[.string ⟨#[]⟩, .int .i64 (p.size : Int), .int .i64 0]) := e2
    have e3' : Hid (inflateVal (inflateOf p (-1)) = .tuple #[.string ⟨#[]⟩, v, .int .i64 0]) := e3
    have e4' : Hid (inflateVal (inflateOf (p.extract 0 j) 0) = .tuple #[.string ⟨#[]⟩, .int .i64 0, .int .i64 1]) := e4
    clear e1 e2 e3 e4 t2
  case' inr =>
    have e1' := e1
    have e2' := e2
    have e3' := e3
    have e4' := e4
    clear e1 e2 e3 e4
  all_goals
    go_enter Tryz.func4, Tryz.ntmps4
    go_wp2_with fail
    refine (awake_c w ho h0).mono ?_
    rintro e w1 ⟨rfl, b1⟩
    have o1 := ho.below b1 h0
    go_wp2_with fail
    refine (kpacked_r w1 ao len cap P p _ HP.out HT.out hlen (fun i hi => by obtain ⟨sb, so, h1, h2⟩ := HOP.out i hi; exact ⟨sb, so, h1, h2.below b1⟩)).mono ?_
    rintro e w2 ⟨rfl, b2⟩
    have B2 := bNext b1 b2
    have o2 := ho.below B2 h0
    have z2 := B2.size
    go_wp2_with fail
    refine (inflate_v' w2 p _ _ e1'.out (by omega) (by omega) o2 (by omega)).mono ?_
    rintro e w3 ⟨rfl, b3⟩
    have B3 := bNext B2 b3
    have o3 := ho.below B3 h0
    have z3 := B3.size
    go_wp2_with fail
    refine (inflate_v' w3 (p ++ behind) _ _ e2'.out (by omega) sz2 o3 (by omega)).mono ?_
    rintro e w4 ⟨rfl, b4⟩
    have B4 := bNext B3 b4
    have o4 := ho.below B4 h0
    have z4 := B4.size
    clear b1 b2 b3 b4 o1 o2 o3 B2 B3 z2 z3
    go_wp2_with fail
    refine (inflate_v' w4 p _ _ e3'.out (by omega) (by omega) o4 (by omega)).mono ?_
    rintro e w5 ⟨rfl, b5⟩
    have B5 := bNext B4 b5
    have o5 := ho.below B5 h0
    have z5 := B5.size
    go_wp2_with fail
    all_goals
      refine (kpick_c w5 cut p.size j _ rfl HJ.out (by omega) (by omega) c0 c1).mono ?_
      rintro e w6 ⟨rfl, rfl⟩
      go_wp2_with fail
      refine (inflate_v' w5 (p.extract 0 j) _ _ e4'.out (by omega) sz4 o5 (by omega)).mono ?_
      rintro e w6 ⟨rfl, b6⟩
      have B6 := bNext B5 b6
      go_wp2
      go_ret
      exact ⟨rfl, B6⟩
end Go.Proofs.YtobfkhapeejkfaaGreatDoor
