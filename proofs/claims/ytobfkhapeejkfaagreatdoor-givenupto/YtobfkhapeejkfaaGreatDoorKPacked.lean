/- The statements' own packer: 'packed'. -/
import Derived.Test.YtobfkhapeejkfaaGreatDoorKPiece
import Derived.Test.YtobfkhapeejkfaaGreatDoorWLow
namespace Go.Proofs.YtobfkhapeejkfaaGreatDoor
open Go.RowKit
set_option linter.unusedSimpArgs false
set_option linter.unusedVariables false

/-- A raw piece in memory. -/
structure PieceAt (w : World) (sb at_ : Nat) (K N F : Int) (S : ByteArray) : Prop where
  c0 : w.cell? ⟨sb, at_, none⟩ = some (.int .i64 K)
  c1 : w.cell? ⟨sb, at_ + 1, none⟩ = some (.int .i64 N)
  c2 : w.cell? ⟨sb, at_ + 2, none⟩ = some (.int .i64 F)
  c3 : w.cell? ⟨sb, at_ + 3, none⟩ = some (.string S)
  lt : sb < w.heap.size
  hK : -9223372036854775808 ≤ K ∧ K ≤ 9223372036854775807
  hN : -9223372036854775808 ≤ N ∧ N ≤ 9223372036854775807
  hF : -9223372036854775808 ≤ F ∧ F ≤ 9223372036854775807
  hS : S.size ≤ 9223372036854775807
theorem PieceAt.below {w w' : World} {sb a : Nat} {K N F : Int} {S : ByteArray} (h : PieceAt w sb a K N F S) (hb : Below w.heap.size w w') : PieceAt w' sb a K N F S := by
  have e : ∀ o, w'.cell? ⟨sb, o, none⟩ = w.cell? ⟨sb, o, none⟩ := fun o => hb.cell (p := ⟨sb, o, none⟩) h.lt
  exact ⟨(e _).trans h.c0, (e _).trans h.c1, (e _).trans h.c2, (e _).trans h.c3, Nat.lt_of_lt_of_le h.lt hb.size, h.hK, h.hN, h.hF, h.hS⟩
theorem BW.keepN {w w' : World} {b n : Nat} {B : List UInt8} (h : BW w b B n) (ht : Touch (fun _ => False) w w') : BW w' b B n := by
  have hb := h.lt
  obtain ⟨ao, cap, h0, ho⟩ := h.gv
  have c : ∀ o, w'.cell? ⟨b, o, none⟩ = w.cell? ⟨b, o, none⟩ := fun o => ht.cell hb (fun e => e)
  have f : ∀ o, w'.frozen? ⟨b, o, none⟩ = w.frozen? ⟨b, o, none⟩ := fun o => ht.frozen hb (fun e => e)
  exact ⟨⟨ao, cap, (c 0).trans h0, ht.owns ho (fun _ _ e => e)⟩, (c 1).trans h.cn, fun o => (f o).trans (h.fr o)⟩
theorem BWs.keepN {w w' : World} {b : Nat} {bs : List Nat} (h : BWs w b bs) (ht : Touch (fun _ => False) w w') : BWs w' b bs := ⟨h.bw.keepN ht, h.le⟩
theorem IT.ofNone' {b : Nat} {x y : World} (h : Touch (fun _ => False) x y) : IT b x y := h.mono (fun _ _ e => e.elim)

/-- The first k pieces. -/
def piecesOf (P : Nat → Int × Int × Int × ByteArray) (k : Nat) : List (Int × Int × Int × List UInt8) := (List.range k).map fun i => ((P i).1, (P i).2.1, (P i).2.2.1, (P i).2.2.2.data.toList.take 40)
theorem piecesOf_succ (P : Nat → Int × Int × Int × ByteArray) (k : Nat) : piecesOf P (k + 1) = piecesOf P k ++ [((P k).1, (P k).2.1, (P k).2.2.1, (P k).2.2.2.data.toList.take 40)] := by simp [piecesOf, List.range_succ]
def foldOf (P : Nat → Int × Int × Int × ByteArray) (k : Nat) : List Nat × List UInt8 := (piecesOf P k).foldl pieceOut ([], [])
theorem foldOf_succ (P : Nat → Int × Int × Int × ByteArray) (k : Nat) : foldOf P (k + 1) = pieceOut (foldOf P k) ((P k).1, (P k).2.1, (P k).2.2.1, (P k).2.2.2.data.toList.take 40) := by
  unfold foldOf; rw [piecesOf_succ, List.foldl_append]; rfl

theorem klow_c (w : World) (x n : Nat) (X N : Int) (hX : X = (x : Int)) (hN : N = (n : Int)) (hx : x ≤ 4294967296) (hn : n ≤ 100) :
    Calls Tryz.prog 38 #[.int .i64 X, .int .i64 N] w fun e w' => e = .returned (.string ⟨(lowL x n).toArray⟩) ∧ Touch (fun _ => False) w w' := by
  subst hX hN; exact (low_c w x n hx hn).mono fun _ _ h => ⟨h.1, Touch.ofBelow h.2 _⟩
theorem textBits_bd (t : List UInt8) : (textBits t).length ≤ 9 * t.length := by
  induction t with
  | nil => exact Nat.le_refl _
  | cons c t ih =>
    rw [textBits_cons, List.length_append, letter_len, List.length_cons]
    have : letM c.toNat ≤ 9 := by unfold letM; split; omega; split; omega; split <;> omega
    omega
theorem copyBits_bd (n far : Nat) : (copyBits n far).length ≤ 20 := by
  unfold copyBits
  have a : (if n = 258 then letterBits 285 else letterBits (254 + n)).length ≤ 9 := by
    split <;> rw [letter_len] <;> (unfold letM; split; omega; split; omega; split <;> omega)
  have b : (if far < 5 then codeBits (far - 1) 5 else codeBits 4 5 ++ [far - 5]).length ≤ 6 := by split <;> simp [codeBits_len]
  rw [List.length_append]; omega
theorem piece_bd (st : List Nat × List UInt8) (x : Int × Int × Int × List UInt8) (ht : x.2.2.2.length ≤ 40) : (pieceOut st x).1.length ≤ st.1.length + 1000 ∧ (pieceOut st x).2.length ≤ st.2.length + 300 := by
  have tb := textBits_bd x.2.2.2
  have pl := plainBits_len (st.1.length + 3) x.2.2.2
  have cn := copyN_is x.2.1
  have l7 : (letterBits 256).length = 7 := letter_len 256
  unfold pieceOut
  split
  · simp only [List.length_append, numBits_len, List.length_singleton]; omega
  · split
    · have cb := copyBits_bd (copyN x.2.1) (copyFar x.2.2.1 (st.2 ++ x.2.2.2).length)
      simp only [fixBits, copyOf_len, List.length_append, numBits_len, List.length_singleton, l7] at cb ⊢; omega
    · simp only [fixBits, List.length_append, numBits_len, List.length_singleton, List.length_nil, l7]; omega
theorem foldOf_bd (P : Nat → Int × Int × Int × ByteArray) : ∀ k, (foldOf P k).1.length ≤ 1000 * k ∧ (foldOf P k).2.length ≤ 300 * k
  | 0 => ⟨Nat.le_refl _, Nat.le_refl _⟩
  | k + 1 => by
    have ih := foldOf_bd P k
    have := piece_bd (foldOf P k) ((P k).1, (P k).2.1, (P k).2.2.1, (P k).2.2.2.data.toList.take 40) (List.length_take_le _ _)
    rw [foldOf_succ]; omega

set_option maxRecDepth 100000 in
set_option maxHeartbeats 8000000 in
theorem kpacked_c (w : World) (ao : Option Addr) (len cap : Nat) (P : Nat → Int × Int × Int × ByteArray) (hlen : len ≤ 9223372036854775807)
    (hop : ∀ i, i < len → ∃ sb so, ao = some ⟨sb, so, none⟩ ∧ PieceAt w sb (so + i * 4) (P i).1 (P i).2.1 (P i).2.2.1 (P i).2.2.2) :
    Calls Tryz.prog 15 #[.slice ao len cap] w fun e w' => e = .returned (.tuple #[.string ⟨(bytesOf (packedOf (piecesOf P (min len 12))).1).toArray⟩, .string ⟨(packedOf (piecesOf P (min len 12))).2.toArray⟩]) ∧ Below w.heap.size w w' := by
  have HOP : Hid (∀ i, i < len → ∃ sb so, ao = some ⟨sb, so, none⟩ ∧ PieceAt w sb (so + i * 4) (P i).1 (P i).2.1 (P i).2.2.1 (P i).2.2.2) := hop
  clear hop
  obtain ⟨m, hm⟩ : ∃ m, m = min len 12 := ⟨_, rfl⟩
  rw [← hm]
  have m1 : m ≤ len := by omega
  have m2 : m ≤ 12 := by omega
  have m3 : m < 12 → m = len := by omega
  have HM3 : Hid (m < 12 → m = len) := m3
  clear m3 hm
  go_enter Tryz.func15, Tryz.ntmps15
  go_wp2
  obtain ⟨w1, hw1⟩ : ∃ w1, w1 = w.alloc (.cells #[.slice none 0 0, .int .i64 0] 99) := ⟨_, rfl⟩
  rw [← hw1]
  have t1 : Touch (fun _ => False) w w1 := by rw [hw1]; exact (Touch.refl _ w).alloc _
  have bw1 : BWs w1 w.heap.size [] := by
    have hc : ∀ j, w1.cell? ⟨w.heap.size, j, none⟩ = #[Value.slice none 0 0, .int .i64 0][j]? := fun j => by rw [hw1]; exact row_cell (heap_alloc_new w _) j
    refine ⟨⟨⟨none, 0, by rw [hc]; rfl, World.ownsRow_nil _ _ _ _⟩, by rw [hc]; rfl, fun o => by rw [hw1]; exact row_fr (heap_alloc_new w _) o⟩, fun x hx => by cases hx⟩
  have s1 : w.heap.size < w1.heap.size := bw1.lt
  clear hw1
  have fin : ∀ w', IT w.heap.size w1 w' → Below w.heap.size w w' := fun w' it =>
    (t1.toBelow (Nat.le_refl _) (fun _ _ e => e)).trans (it.toBelow (by omega) (fun k hk e => by rcases e with e | ⟨e, _⟩ <;> omega))
  have FIN : Hid (∀ w', IT w.heap.size w1 w' → Below w.heap.size w w') := fin
  clear fin
  go_loopw [5, 6] (fun tx i wr => ∃ k : Nat, k ≤ m ∧ i = .int .i64 (k : Int) ∧ tx = .string ⟨(foldOf P k).2.toArray⟩ ∧ BWs wr w.heap.size (foldOf P k).1 ∧ IT w.heap.size w1 wr) (fun _ i _ => m - (intOf i).toNat)
  case atStart => exact ⟨0, by omega, rfl, rfl, bw1, IT.refl _ _⟩
  case round =>
    clear bw1
    obtain ⟨k, hk, rfl, rfl, hb, hit⟩ := hrel
    by_cases hlt : k < m
    · obtain ⟨sb, so, rfl, op⟩ := HOP.out k (by omega)
      obtain ⟨p0, p1, p2, p3, plt, pK, pN, pF, pS⟩ := op.below (FIN.out wr hit)
      have HX : Hid (foldOf P (k + 1) = pieceOut (foldOf P k) ((P k).1, (P k).2.1, (P k).2.2.1, (P k).2.2.2.data.toList.take 40)) := foldOf_succ P k
      have bd := foldOf_bd P k
      obtain ⟨bs, hbs⟩ : ∃ bs, bs = (foldOf P k).1 := ⟨_, rfl⟩
      obtain ⟨text, htext⟩ : ∃ text, text = (foldOf P k).2 := ⟨_, rfl⟩
      have est : foldOf P k = (bs, text) := by rw [hbs, htext]
      have hx := HX.out
      rw [est] at hx
      rw [← hbs] at hb bd
      rw [← htext] at bd ⊢
      obtain ⟨K, hK⟩ : ∃ K, K = (P k).1 := ⟨_, rfl⟩
      obtain ⟨N, hN⟩ : ∃ N, N = (P k).2.1 := ⟨_, rfl⟩
      obtain ⟨F, hF⟩ : ∃ F, F = (P k).2.2.1 := ⟨_, rfl⟩
      obtain ⟨S, hS⟩ : ∃ S, S = (P k).2.2.2 := ⟨_, rfl⟩
      obtain ⟨t, htt⟩ : ∃ t, t = S.data.toList.take 40 := ⟨_, rfl⟩
      rw [← hS, ← hK, ← hN, ← hF, ← htt] at hx
      rw [← hK] at p0 pK
      rw [← hN] at p1 pN
      rw [← hF] at p2 pF
      rw [← hS] at p3 pS
      have t40 : t.length ≤ 40 := by rw [htt]; exact List.length_take_le _ _
      have HP : Hid (foldOf P (k + 1) = pieceOut (bs, text) (K, N, F, t)) := hx
      have HT : Hid (t = S.data.toList.take 40) := htt
      clear hx HX hbs htext est hK hN hF hS htt op
      obtain ⟨TX, hTX⟩ : ∃ TX : ByteArray, TX = ⟨text.toArray⟩ := ⟨_, rfl⟩
      rw [← hTX]
      have HTX : Hid (TX = ⟨text.toArray⟩) := hTX
      have xsz : Hid (TX.size = text.length) := by unfold Hid; rw [hTX]; exact kstr_size text
      clear hTX
      have k12 : (k : Int) < 12 := by omega
      have bl : bs.length ≤ 12000 := by omega
      have tl : text.length ≤ 3600 := by omega
      have xsz2 : TX.size ≤ 3600 := by rw [xsz.out]; omega
      have hwl := hb.lt
      clear bd
      go_wp2_with fail
      obtain ⟨W2, hW2⟩ : ∃ W2, W2 = wr.alloc (.cells #[.int .i64 K, .int .i64 N, .int .i64 F, .string S] 101) := ⟨_, rfl⟩
      rw [← hW2]
      have tW : Touch (fun _ => False) wr W2 := by rw [hW2]; exact (Touch.refl _ wr).alloc _
      have ty : Typed W2 wr.heap.size 101 := by rw [hW2]; exact ⟨_, _, heap_alloc_new wr _⟩
      have KP : Hid (∀ w', IT w.heap.size W2 w' → w'.cell? ⟨wr.heap.size, 0, none⟩ = some (.int .i64 K) ∧ w'.cell? ⟨wr.heap.size, 1, none⟩ = some (.int .i64 N) ∧ w'.cell? ⟨wr.heap.size, 2, none⟩ = some (.int .i64 F)) := fun w' it => by
        have hc : ∀ j, W2.cell? ⟨wr.heap.size, j, none⟩ = #[Value.int .i64 K, .int .i64 N, .int .i64 F, .string S][j]? := fun j => by rw [hW2]; exact row_cell (heap_alloc_new wr _) j
        have nt := IT.not ty hwl (by decide)
        exact ⟨Touch.at it (by rw [hc]; rfl) nt, Touch.at it (by rw [hc]; rfl) nt, Touch.at it (by rw [hc]; rfl) nt⟩
      have hb2 := hb.keepN tW
      have it2 : IT w.heap.size w1 W2 := hit.trans (IT.ofNone' tW)
      clear hW2 tW hb hit p0 p1 p2 p3
      obtain ⟨T, hT⟩ : ∃ T : ByteArray, T = ⟨t.toArray⟩ := ⟨_, rfl⟩
      have HTT : Hid (T = ⟨t.toArray⟩) := hT
      have tsz : Hid (T.size = t.length) := by unfold Hid; rw [hT]; exact kstr_size t
      have tsz2 : T.size ≤ 40 := by rw [tsz.out]; exact t40
      clear hT
      refine (kmost_c W2 S T pS (by rw [HTT.out, HT.out])).mono ?_
      rintro e w3 ⟨rfl, rfl⟩
      go_wp2_with fail
      refine (kbit_c W2 w.heap.size bs 0 _ rfl (by omega) hb2 (by omega)).mono ?_
      rintro e w4 ⟨rfl, b4, t4⟩
      obtain ⟨z0, z1, z2⟩ := KP.out w4 t4
      obtain ⟨r, hr⟩ : ∃ r, r = K.tmod 3 := ⟨_, rfl⟩
      have rb : -3 < r ∧ r < 3 := by rw [hr]; exact ⟨by have := Int.lt_tmod_of_pos K (show (0 : Int) < 3 by omega); omega, Int.tmod_lt_of_pos K (by omega)⟩
      have hr' : K.tmod 3 = r := hr.symm
      have HR : Hid (r = K.tmod 3) := hr
      clear hr
      by_cases c0 : r = 0
      · have HO : Hid (foldOf P (k + 1) = (bs ++ ([0] ++ numBits 0 2) ++ plainBits (bs.length + 3) t, text ++ t)) := by
          unfold Hid; rw [HP.out]; unfold pieceOut; simp only; rw [if_pos (by rw [← HR.out]; exact c0)]
        go_wp2_with fail
        refine (knumber_c w4 w.heap.size (bs ++ [0]) 0 2 _ _ rfl rfl (by omega) (by omega) b4 (by rw [List.length_append]; simp; omega)).mono ?_
        rintro e w5 ⟨rfl, b5, t5⟩
        go_wp2_with fail
        refine (klow_c w5 t.length 2 _ _ (by have := tsz.out; omega) rfl (by omega) (by omega)).mono ?_
        rintro e w6 ⟨rfl, t6⟩
        go_wp2_with fail
        refine (klow_c w6 (65535 - t.length) 2 _ _ (by have := tsz.out; omega) rfl (by omega) (by omega)).mono ?_
        rintro e w7 ⟨rfl, t7⟩
        have b7 := (b5.keepN t6).keepN t7
        have l2 : ∀ x, (ByteArray.mk (lowL x 2).toArray).size = 2 := fun x => by rw [kstr_size, lowL_len]
        have l2a := l2 t.length
        have l2b := l2 (65535 - t.length)
        obtain ⟨A, hA⟩ : ∃ A : ByteArray, A = ⟨(lowL t.length 2).toArray⟩ := ⟨_, rfl⟩
        obtain ⟨C, hC⟩ : ∃ C : ByteArray, C = ⟨(lowL (65535 - t.length) 2).toArray⟩ := ⟨_, rfl⟩
        rw [← hA] at l2a ⊢
        rw [← hC] at l2b ⊢
        have HAC : Hid (A ++ C ++ T = ⟨(lowL t.length 2 ++ lowL (65535 - t.length) 2 ++ t).toArray⟩) := by unfold Hid; rw [hA, hC, HTT.out, kstr_app, kstr_app]
        clear hA hC l2
        go_wp2_with fail
        refine (kbytes_c w7 w.heap.size (bs ++ [0] ++ numBits 0 2) (lowL t.length 2 ++ lowL (65535 - t.length) 2 ++ t) _ HAC.out b7 (by rw [List.length_append, List.length_append, numBits_len]; simp; omega) (by rw [List.length_append, List.length_append, lowL_len, lowL_len]; omega)).mono ?_
        rintro e w8 ⟨rfl, b8, t8⟩
        go_wp2
        go_roundw
        case rel =>
          refine ⟨k + 1, by omega, by go_num, ?_, ?_, ?_⟩
          · rw [HO.out, HTX.out, HTT.out, kstr_app]
          · rw [HO.out]
            have e3 : (bs ++ [0] ++ numBits 0 2).length = bs.length + 3 := by rw [List.length_append, List.length_append, numBits_len]; simp
            rw [e3] at b8
            have e4 : bs ++ ([0] ++ numBits 0 2) ++ plainBits (bs.length + 3) t = bs ++ [0] ++ numBits 0 2 ++ padBits (bs.length + 3) ++ strBits (lowL t.length 2 ++ lowL (65535 - t.length) 2 ++ t) := by unfold plainBits; simp only [List.append_assoc]
            rw [e4]; exact b8
          · exact (it2.trans (t4.trans t5)).trans (((IT.ofNone' t6).trans (IT.ofNone' t7)).trans t8)
        case measure => simp [intOf]; omega
      · have c0' : (r == 0) = false := by simp; exact c0
        go_wp2_with fail
        refine (knumber_c w4 w.heap.size (bs ++ [0]) 1 2 _ _ rfl rfl (by omega) (by omega) b4 (by rw [List.length_append]; simp; omega)).mono ?_
        rintro e w5 ⟨rfl, b5, t5⟩
        have it5 := t4.trans t5
        obtain ⟨b0, hb0⟩ : ∃ b0, b0 = bs ++ [0] ++ numBits 1 2 := ⟨_, rfl⟩
        rw [← hb0] at b5
        have HB0 : Hid (b0 = bs ++ [0] ++ numBits 1 2) := hb0
        have b0l : b0.length ≤ 12003 := by rw [hb0, List.length_append, List.length_append, numBits_len]; simp; omega
        clear hb0 b4 t4 t5 z0 z1 z2
        go_wp2
        go_loopw [9] (fun i wq => ∃ j : Nat, j ≤ t.length ∧ i = .int .i64 (j : Int) ∧ BWs wq w.heap.size (b0 ++ textBits (t.take j)) ∧ IT w.heap.size W2 wq) (fun i _ => t.length - (intOf i).toNat)
        case atStart => exact ⟨0, by omega, rfl, by simpa [textBits] using b5, it5⟩
        case round =>
          clear b5 it5
          obtain ⟨j, hj, rfl, hb3, it3⟩ := hrel
          have tbd := textBits_bd (t.take j)
          have tlj : (t.take j).length ≤ 40 := by rw [List.length_take]; omega
          have lb : (b0 ++ textBits (t.take j)).length ≤ 13000 := by rw [List.length_append]; omega
          by_cases hjl : j < t.length
          · have hjT : j < T.size := by have := tsz.out; omega
            have hjI : (j : Int) < (T.size : Int) := by omega
            have HC : Hid (T[j].toNat = t[j].toNat) := by
              unfold Hid
              have e : ∀ (A : ByteArray) (hA : j < A.size), A = ⟨t.toArray⟩ → A[j].toNat = t[j].toNat := by
                intro A hA hE; subst hE; simp [ByteArray.getElem_eq_getElem_data]
              exact e T hjT HTT.out
            have c256 := T[j].toNat_lt
            go_wp2_with (go_at_call 43; refine (kletter_c wr w.heap.size (b0 ++ textBits (t.take j)) T[j].toNat _ rfl (by omega) hb3 (by omega)).mono ?_; rintro e w6 ⟨rfl, b6, t6⟩)
            go_roundw
            case rel =>
              refine ⟨j + 1, by omega, by go_num, ?_, it3.trans t6⟩
              have e : textBits (t.take (j + 1)) = textBits (t.take j) ++ letterBits t[j].toNat := by
                rw [List.take_succ_eq_append_getElem hjl]; unfold textBits; rw [List.flatMap_append]; simp only [List.flatMap_cons, List.flatMap_nil, List.append_nil]
              rw [e, ← HC.out, ← List.append_assoc]; exact b6
            case measure => simp [intOf]; omega
          · obtain rfl : j = t.length := by omega
            rw [List.take_length] at hb3 lb
            clear tbd tlj
            obtain ⟨z0, z1, z2⟩ := KP.out wr it3
            have hnj : ¬ (t.length : Int) < (T.size : Int) := by have := tsz.out; omega
            have hnj' : ¬ t.length < T.size := by have := tsz.out; omega
            have HA : Hid (TX ++ T = ⟨(text ++ t).toArray⟩) := by unfold Hid; rw [HTX.out, HTT.out, kstr_app]
            have HS2 : Hid (TX.size + T.size = (text ++ t).length) := by unfold Hid; rw [xsz.out, tsz.out, List.length_append]
            have s2 : TX.size + T.size ≤ 3640 := by omega
            by_cases c1 : r = 1 ∧ 0 < (text ++ t).length
            · obtain ⟨cr, cl⟩ := c1
              have HO : Hid (foldOf P (k + 1) = (bs ++ ([0] ++ numBits 1 2) ++ fixBits t (copyBits (copyN N) (copyFar F (text ++ t).length)), copyOf (text ++ t) ((text ++ t).length - copyFar F (text ++ t).length) (copyFar F (text ++ t).length) (copyN N))) := by
                unfold Hid; rw [HP.out]; unfold pieceOut; simp only; rw [if_neg (by rw [← HR.out]; exact c0), if_pos (by rw [← HR.out]; exact ⟨cr, cl⟩)]
              obtain ⟨L, hL⟩ : ∃ L, L = (text ++ t).length := ⟨_, rfl⟩
              obtain ⟨n, hn⟩ : ∃ n, n = copyN N := ⟨_, rfl⟩
              obtain ⟨far, hfar⟩ : ∃ far, far = copyFar F L := ⟨_, rfl⟩
              have hO := HO.out
              rw [← hL, ← hn, ← hfar] at hO
              have HO2 : Hid (foldOf P (k + 1) = (bs ++ ([0] ++ numBits 1 2) ++ fixBits t (copyBits n far), copyOf (text ++ t) (L - far) far n)) := hO
              have HE5 : Hid (bs ++ ([0] ++ numBits 1 2) ++ fixBits t (copyBits n far) = b0 ++ textBits t ++ (if n = 258 then letterBits 285 else letterBits (254 + n)) ++ (if far < 5 then codeBits (far - 1) 5 else codeBits 4 5 ++ [far - 5]) ++ letterBits 256) := by
                unfold Hid; rw [HB0.out]; unfold fixBits copyBits; simp only [List.append_assoc]
              have nis := copyN_is N
              have fis := copyFar_is F L (by omega)
              rw [← hn] at nis
              rw [← hfar] at fis
              obtain ⟨pk, hpk⟩ : ∃ pk, pickOf N 9 = pk := ⟨_, rfl⟩
              have pk9 := pickOf_lt N 9 (by omega)
              rw [hpk] at pk9
              have HPK : Hid (pickOf N 9 = pk) := hpk
              have HN : Hid (n = if pk = 8 then 258 else 3 + pk) := by unfold Hid; rw [hn]; unfold copyN; rw [hpk]
              obtain ⟨pf, hpf⟩ : ∃ pf, pickOf F 6 = pf := ⟨_, rfl⟩
              have pf6 := pickOf_lt F 6 (by omega)
              rw [hpf] at pf6
              have HPF : Hid (pickOf F 6 = pf) := hpf
              have HF : Hid (far = if L < 1 + pf then L else 1 + pf) := by unfold Hid; rw [hfar]; unfold copyFar; rw [hpf]
              have HL : Hid (L = (text ++ t).length) := hL
              have LI : (TX.size : Int) + (T.size : Int) = (L : Int) := by have := HS2.out; omega
              have L1 : 1 ≤ L := by omega
              have L2 : L ≤ 3640 := by have := HS2.out; omega
              have Lp : (0 : Int) < (L : Int) := by omega
              clear HO hO hL hn hfar hpk hpf cl
              subst cr
              go_wp2_with fail
              refine (kpick_c wr N 9 pk _ rfl HPK.out (by omega) (by omega) pN.1 pN.2).mono ?_
              rintro e w6 ⟨rfl, rfl⟩
              by_cases e8 : pk = 8
              case' pos =>
                subst e8
                have n258 : n = 258 := by have := HN.out; rw [if_pos rfl] at this; exact this
                have HLL : Hid ((if n = 258 then letterBits 285 else letterBits (254 + n)) = letterBits 285) := by unfold Hid; rw [if_pos n258]
                have hn2 : (258 : Int) = (n : Int) := by omega
                go_wp2_with fail
                refine (kletter_c wr w.heap.size (b0 ++ textBits t) 285 _ rfl (by omega) hb3 (by omega)).mono ?_
                rintro e w6 ⟨rfl, b6, t6⟩
                rw [← HLL.out] at b6
                rw [hn2]
                clear n258 hn2 HLL
              case' neg =>
                have hne : n = 3 + pk := by have := HN.out; rw [if_neg e8] at this; exact this
                have HLL : Hid ((if n = 258 then letterBits 285 else letterBits (254 + n)) = letterBits (254 + n)) := by unfold Hid; rw [if_neg (by omega)]
                have hn2 : 3 + (pk : Int) = (n : Int) := by omega
                have hn3 : ((n : Int) == 11) = false := by simp; omega
                have hn4 : ¬ (n : Int) = 11 := by omega
                clear hne
                go_wp2_with fail
                refine (kletter_c wr w.heap.size (b0 ++ textBits t) (254 + n) _ (by omega) (by omega) hb3 (by omega)).mono ?_
                rintro e w6 ⟨rfl, b6, t6⟩
                rw [← HLL.out] at b6
                clear hn2 HLL hn3 hn4
              all_goals
                have it6 := it3.trans t6
                obtain ⟨y0, y1, y2⟩ := KP.out w6 it6
                have lb6 : (b0 ++ textBits t ++ (if n = 258 then letterBits 285 else letterBits (254 + n))).length ≤ 13009 := by
                  have : (if n = 258 then letterBits 285 else letterBits (254 + n)).length ≤ 9 := by
                    split <;> rw [letter_len] <;> (unfold letM; split; omega; split; omega; split <;> omega)
                  rw [List.length_append]; omega
                obtain ⟨b1, hb1⟩ : ∃ b1, b1 = b0 ++ textBits t ++ (if n = 258 then letterBits 285 else letterBits (254 + n)) := ⟨_, rfl⟩
                rw [← hb1] at b6 lb6
                have HE6 : Hid (bs ++ ([0] ++ numBits 1 2) ++ fixBits t (copyBits n far) = b1 ++ (if far < 5 then codeBits (far - 1) 5 else codeBits 4 5 ++ [far - 5]) ++ letterBits 256) := by unfold Hid; rw [HE5.out, hb1]
                clear hb1 z0 z1 z2 t6
                go_wp2_with fail
                refine (kpick_c w6 F 6 pf _ rfl HPF.out (by omega) (by omega) pF.1 pF.2).mono ?_
                rintro e w7 ⟨rfl, rfl⟩
                have LA : L - far + far = L := by omega
                have HCY : Hid (L = (text ++ t).length) := HL
                have tail : ∀ w8, IT w.heap.size w6 w8 → BWs w8 w.heap.size (b1 ++ (if far < 5 then codeBits (far - 1) 5 else codeBits 4 5 ++ [far - 5])) → IT w.heap.size w1 w8 := fun w8 i8 _ => it2.trans (it6.trans i8)
                have HTL : Hid (∀ w8, IT w.heap.size w6 w8 → IT w.heap.size w1 w8) := fun w8 i8 => it2.trans (it6.trans i8)
                clear tail
                by_cases cf : L < 1 + pf
                case' pos =>
                  have ff : far = L := by have := HF.out; rw [if_pos cf] at this; exact this
                  have cfi : (L : Int) < 1 + (pf : Int) := by omega
                  have lf : (L : Int) = (far : Int) := by omega
                  clear ff
                case' neg =>
                  have ff : far = 1 + pf := by have := HF.out; rw [if_neg cf] at this; exact this
                  have cfi : ¬ (L : Int) < 1 + (pf : Int) := by omega
                  have lf : 1 + (pf : Int) = (far : Int) := by omega
                  clear ff
                all_goals
                  by_cases f5 : far < 5
                  · have HEE : Hid ((if far < 5 then codeBits (far - 1) 5 else codeBits 4 5 ++ [far - 5]) = codeBits (far - 1) 5) := by unfold Hid; rw [if_pos f5]
                    go_wp2_with fail
                    refine (kcode_c w6 w.heap.size b1 (far - 1) 5 _ _ (by omega) rfl (by omega) (by omega) (by omega) b6 (by omega)).mono ?_
                    rintro e w8 ⟨rfl, b8, t8⟩
                    rw [← HEE.out] at b8
                    have lb8 : (b1 ++ (if far < 5 then codeBits (far - 1) 5 else codeBits 4 5 ++ [far - 5])).length ≤ 13020 := by
                      have : (if far < 5 then codeBits (far - 1) 5 else codeBits 4 5 ++ [far - 5]).length ≤ 6 := by split <;> simp [codeBits_len]
                      rw [List.length_append]; omega
                    go_wp2_with fail
                    refine (kcopied_c w8 (text ++ t) (TX ++ T) far n _ _ rfl rfl HA.out (by omega) (by rw [← HL.out]; omega) (by omega) (by rw [← HL.out]; omega)).mono ?_
                    rintro e w9 ⟨rfl, rfl⟩
                    go_wp2_with fail
                    refine (kletter_c w8 w.heap.size (b1 ++ (if far < 5 then codeBits (far - 1) 5 else codeBits 4 5 ++ [far - 5])) 256 _ rfl (by omega) b8 (by omega)).mono ?_
                    rintro e w9 ⟨rfl, b9, t9⟩
                    go_wp2
                    go_roundw
                    case rel => exact ⟨k + 1, by omega, by go_num, by rw [HO2.out, HL.out, List.length_append], by rw [HO2.out, HE6.out]; exact b9, HTL.out w9 (t8.trans t9)⟩
                    case measure => simp [intOf]; omega
                  · have HEE : Hid ((if far < 5 then codeBits (far - 1) 5 else codeBits 4 5 ++ [far - 5]) = codeBits 4 5 ++ [far - 5]) := by unfold Hid; rw [if_neg f5]
                    go_wp2_with fail
                    refine (kcode_c w6 w.heap.size b1 4 5 _ _ rfl rfl (by omega) (by omega) (by omega) b6 (by omega)).mono ?_
                    rintro e w7 ⟨rfl, b7, t7⟩
                    go_wp2_with fail
                    refine (kbit_c w7 w.heap.size (b1 ++ codeBits 4 5) (far - 5) _ (by omega) (by omega) b7 (by rw [List.length_append, codeBits_len]; omega)).mono ?_
                    rintro e w8 ⟨rfl, b8, t8'⟩
                    have t8 := t7.trans t8'
                    rw [List.append_assoc] at b8
                    rw [← HEE.out] at b8
                    have lb8 : (b1 ++ (if far < 5 then codeBits (far - 1) 5 else codeBits 4 5 ++ [far - 5])).length ≤ 13020 := by
                      have : (if far < 5 then codeBits (far - 1) 5 else codeBits 4 5 ++ [far - 5]).length ≤ 6 := by split <;> simp [codeBits_len]
                      rw [List.length_append]; omega
                    go_wp2_with fail
                    refine (kcopied_c w8 (text ++ t) (TX ++ T) far n _ _ rfl rfl HA.out (by omega) (by rw [← HL.out]; omega) (by omega) (by rw [← HL.out]; omega)).mono ?_
                    rintro e w9 ⟨rfl, rfl⟩
                    go_wp2_with fail
                    refine (kletter_c w8 w.heap.size (b1 ++ (if far < 5 then codeBits (far - 1) 5 else codeBits 4 5 ++ [far - 5])) 256 _ rfl (by omega) b8 (by omega)).mono ?_
                    rintro e w9 ⟨rfl, b9, t9⟩
                    go_wp2
                    go_roundw
                    case rel => exact ⟨k + 1, by omega, by go_num, by rw [HO2.out, HL.out, List.length_append], by rw [HO2.out, HE6.out]; exact b9, HTL.out w9 (t8.trans t9)⟩
                    case measure => simp [intOf]; omega
            · have HO : Hid (foldOf P (k + 1) = (bs ++ ([0] ++ numBits 1 2) ++ fixBits t [], text ++ t)) := by
                unfold Hid; rw [HP.out]; unfold pieceOut; simp only; rw [if_neg (by rw [← HR.out]; exact c0), if_neg (by rw [← HR.out]; exact c1)]
              have e5 : bs ++ ([0] ++ numBits 1 2) ++ fixBits t [] = b0 ++ textBits t ++ letterBits 256 := by rw [HB0.out]; unfold fixBits; simp only [List.append_assoc, List.nil_append]
              have HE5 : Hid (bs ++ ([0] ++ numBits 1 2) ++ fixBits t [] = b0 ++ textBits t ++ letterBits 256) := e5
              clear e5
              by_cases cr : r = 1
              · subst cr
                have z : TX.size + T.size = 0 := by have := HS2.out; have : ¬ 0 < (text ++ t).length := fun h => c1 ⟨rfl, h⟩; omega
                have zi : (TX.size : Int) + (T.size : Int) = 0 := by omega
                have zi2 : ¬ (0 : Int) < (TX.size : Int) + (T.size : Int) := by omega
                clear c1
                go_wp2_with (go_at_call 43; refine (kletter_c wr w.heap.size (b0 ++ textBits t) 256 _ rfl (by omega) hb3 (by omega)).mono ?_; rintro e w6 ⟨rfl, b6, t6⟩)
                go_roundw
                case rel => exact ⟨k + 1, by omega, by go_num, by rw [HO.out, HA.out], by rw [HO.out, HE5.out]; exact b6, it2.trans (it3.trans t6)⟩
                case measure => simp [intOf]; omega
              · have cr' : (r == 1) = false := by simp; exact cr
                clear c1
                go_wp2_with (go_at_call 43; refine (kletter_c wr w.heap.size (b0 ++ textBits t) 256 _ rfl (by omega) hb3 (by omega)).mono ?_; rintro e w6 ⟨rfl, b6, t6⟩)
                go_roundw
                case rel => exact ⟨k + 1, by omega, by go_num, by rw [HO.out, HA.out], by rw [HO.out, HE5.out]; exact b6, it2.trans (it3.trans t6)⟩
                case measure => simp [intOf]; omega
    · obtain rfl : k = m := by omega
      have nlt : ¬ ((k : Int) < (len : Int) ∧ (k : Int) < 12) := by
        rintro ⟨h1, h2⟩
        have := HM3.out (by omega)
        omega
      have bd := foldOf_bd P k
      have HPK : Hid (packedOf (piecesOf P k) = ((foldOf P k).1 ++ [1] ++ numBits 1 2 ++ letterBits 256, (foldOf P k).2)) := by
        unfold Hid packedOf foldOf fixBits; simp [textBits, List.append_assoc]
      obtain ⟨bs, hbs⟩ : ∃ bs, bs = (foldOf P k).1 := ⟨_, rfl⟩
      obtain ⟨text, htext⟩ : ∃ text, text = (foldOf P k).2 := ⟨_, rfl⟩
      rw [← hbs] at hb bd HPK
      rw [← htext] at bd HPK ⊢
      clear hbs htext
      have bl : bs.length ≤ 12000 := by omega
      clear bd
      by_cases h1 : k < len
      case' pos =>
        have h2 : ¬ (k : Int) < 12 := by omega
        have h1' : (k : Int) < (len : Int) := by omega
        go_wp2_with fail
      case' neg =>
        have h1' : ¬ (k : Int) < (len : Int) := by omega
        go_wp2_with fail
      all_goals
        refine (kbit_c wr w.heap.size bs 1 _ rfl (by omega) hb (by omega)).mono ?_
        rintro e w2 ⟨rfl, b2, t2⟩
        go_wp2_with fail
        refine (knumber_c w2 w.heap.size (bs ++ [1]) 1 2 _ _ rfl rfl (by omega) (by omega) b2 (by rw [List.length_append]; simp; omega)).mono ?_
        rintro e w3 ⟨rfl, b3, t3⟩
        go_wp2_with fail
        refine (kletter_c w3 w.heap.size (bs ++ [1] ++ numBits 1 2) 256 _ rfl (by omega) b3 (by rw [List.length_append, List.length_append, numBits_len]; simp; omega)).mono ?_
        rintro e w4 ⟨rfl, b4, t4⟩
        obtain ⟨BB, hBB⟩ : ∃ BB, BB = bytesOf (bs ++ [1] ++ numBits 1 2 ++ letterBits 256) := ⟨_, rfl⟩
        have bw4 := b4.bw
        rw [← hBB] at bw4
        have HBB : Hid (BB = bytesOf (bs ++ [1] ++ numBits 1 2 ++ letterBits 256)) := hBB
        clear hBB b4 b3 b2
        obtain ⟨ao4, cap4, g0, gO⟩ := bw4.gv
        have cv := out_str gO rfl
        have B4 := FIN.out w4 (hit.trans (t2.trans (t3.trans t4)))
        go_wp2
        go_ret2
        exact ⟨by rw [HPK.out, ← HBB.out]; rfl, B4⟩
end Go.Proofs.YtobfkhapeejkfaaGreatDoor
