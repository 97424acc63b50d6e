/- Texts of this seat, joined. -/
import Derived.Test.YtnmkmmgaoplfiaaGreatDoorJ45
import Derived.Test.YtnmkmmgaoplfiaaGreatDoorJ46
set_option linter.unusedSimpArgs false
set_option linter.unusedVariables false
set_option maxRecDepth 100000
set_option maxHeartbeats 20000000
namespace Go.Proofs.YtnmkmmgaoplfiaaGreatDoor
open Go.RowKit Go.Shelf
theorem build_8 (w : World) (ao : Option Addr) (len cap : Nat) (R : Nat → Raw) (hlen : len ≤ 9223372036854775807) (hop : ∀ i, i < len → ∃ sb so, ao = some ⟨sb, so, none⟩ ∧ ItemAt w sb (so + i * 4) (R i)) (MS : List Made) (hMS : MS = buildGo ((List.range (min len 10)).map R) []) (hok : AllOk MS) :
  Calls Tryz.prog 6 #[.slice ao len cap, .bool true] w fun r w' => Touch (fun _ => False) w w' ∧ ∃ v, r = .returned (.agg #[.string ⟨(madeB 8 MS).toArray⟩, v, .int .i64 (((MS.map fun m => m.name.length).sum : Nat) : Int), .int .i64 (((MS.map fun m => m.text.length).sum : Nat) : Int), .int .i64 (MS.length : Int)]) ∧ w'.ownsRow w.heap.size 39 2 v MS.length (fileV (filsOf MS)) := by
 obtain ⟨i0, hi, hz0, hz1, hz2⟩ := info_parts Tryz.infoFile
 obtain ⟨mx, hmx⟩ : ∃ mx, mx = min len 10 := ⟨_, rfl⟩
 rw [← hmx] at hMS
 have HMS : Hid (MS = buildGo (((List.range mx).map R).drop 0) []) := hMS
 have HOP : Hid (∀ i, i < len → ∃ sb so, ao = some ⟨sb, so, none⟩ ∧ ItemAt w sb (so + i * 4) (R i)) := hop
 have mx1 : mx ≤ 10 := by omega
 have mx2 : mx ≤ len := by omega
 have mx3 : len ≤ mx ∨ 10 ≤ mx := by omega
 have B0 : BB ((w.alloc (Obj.cells #[.string ⟨#[]⟩, .slice none 0 0, .int .i64 0, .int .i64 0, .int .i64 0] 26)).alloc (Obj.cells #[.string ⟨#[]⟩, .slice none 0 0, .int .i64 0, .int .i64 0, .int .i64 0] 26)) (w.heap.size + 1) ⟨#[]⟩ (.slice none 0 0) 0 0 0 := ⟨by
  have := heap_alloc_new (w.alloc (Obj.cells #[.string ⟨#[]⟩, .slice none 0 0, .int .i64 0, .int .i64 0, .int .i64 0] 26)) (Obj.cells #[.string ⟨#[]⟩, .slice none 0 0, .int .i64 0, .int .i64 0, .int .i64 0] 26)
  rw [World.size_alloc] at this
  exact this⟩
 have Z0 : BB ((w.alloc (Obj.cells #[.string ⟨#[]⟩, .slice none 0 0, .int .i64 0, .int .i64 0, .int .i64 0] 26)).alloc (Obj.cells #[.string ⟨#[]⟩, .slice none 0 0, .int .i64 0, .int .i64 0, .int .i64 0] 26)) w.heap.size ⟨#[]⟩ (.slice none 0 0) 0 0 0 := by
  have h1 : BB (w.alloc (Obj.cells #[.string ⟨#[]⟩, .slice none 0 0, .int .i64 0, .int .i64 0, .int .i64 0] 26)) w.heap.size ⟨#[]⟩ (.slice none 0 0) 0 0 0 := ⟨heap_alloc_new w _⟩
  exact h1.keep ((Touch.refl (fun _ => False) _).alloc _) (fun e => e)
 have T0 : Touch (fun _ => False) w ((w.alloc (Obj.cells #[.string ⟨#[]⟩, .slice none 0 0, .int .i64 0, .int .i64 0, .int .i64 0] 26)).alloc (Obj.cells #[.string ⟨#[]⟩, .slice none 0 0, .int .i64 0, .int .i64 0, .int .i64 0] 26)) := ((Touch.refl _ _).alloc _).alloc _
 clear hMS hop hmx
 go_enter Tryz.func6, Tryz.ntmps6
 go_wp2
 go_loopw [6, 8] (fun d i wr => ∃ (k : Nat) (ms : List Made) (v : Value), k ≤ mx ∧ ms.length ≤ k ∧ i = .int .i64 (k : Int) ∧ d = .string ⟨(dirAll 8 ms 0).toArray⟩ ∧ Hid (AllOk ms) ∧ Hid (MS = buildGo (((List.range mx).map R).drop k) ms) ∧ BB wr (w.heap.size + 1) ⟨(fileAll 8 ms).toArray⟩ v (ms.map fun m => m.name.length).sum (ms.map fun m => m.text.length).sum ms.length ∧ BB wr w.heap.size ⟨#[]⟩ (.slice none 0 0) 0 0 0 ∧ wr.ownsRow (w.heap.size + 1 + 1) 39 2 v ms.length (fileV (filsOf ms)) ∧ Touch (fun _ => False) w wr) (fun _ i _ => mx - (intOf i).toNat)
 case atStart => exact ⟨0, [], .slice none 0 0, Nat.zero_le _, Nat.le_refl _, rfl, rfl, AllOk.nil, HMS, B0, Z0, World.ownsRow_nil _ _ _ _, T0⟩
 case round =>
  obtain ⟨k, ms, v, hk, hml, rfl, rfl, HAO, HK, hB, hZ, hro, T⟩ := hrel
  obtain ⟨wo, hwo⟩ : ∃ wo, wo = wr := ⟨_, rfl⟩
  subst hwo
  clear B0 Z0 T0
  obtain ⟨va, vc, hv⟩ := owned_form hro
  subst hv
  by_cases hlt : k < mx
  ·obtain ⟨sb, so, rfl, hI⟩ := HOP.out k (by omega)
   have hraw := hI.raw
   obtain ⟨r, hr⟩ : ∃ r, r = R k := ⟨_, rfl⟩
   have HX : Hid (MS = if knownB ms (madeOf r).name then buildGo (((List.range mx).map R).drop (k + 1)) ms else buildGo (((List.range mx).map R).drop (k + 1)) (ms ++ [madeOf r])) := by
    unfold Hid
    rw [HK.out, List.drop_eq_getElem_cons (by simpa using hlt), buildGo, List.getElem_map, List.getElem_range, hr]
   rw [← hr] at hI hraw
   have hmo := madeOf_ok r hraw
   obtain ⟨pa, pl, pc, P, p3, ppl, pop, pe1, pe2⟩ := hI.c3
   have c0 := T.at hI.c0 (fun e => e)
   have c1 := T.at hI.c1 (fun e => e)
   have c2 := T.at hI.c2 (fun e => e)
   have c3 := T.at p3 (fun e => e)
   have slt : sb < wo.heap.size := Nat.lt_of_lt_of_le hI.lt T.size
   obtain ⟨hn1, hn2⟩ := hI.hn
   have htx := hI.ht
   clear hI hr HK p3
   obtain ⟨nm, kd, txt, pd, pt⟩ := r
   dsimp only at c0 c1 c2 pe1 pe2 hn1 hn2 htx
   obtain ⟨PD, hPD⟩ : ∃ x : ByteArray, x = ⟨pd.toArray⟩ := ⟨_, rfl⟩
   obtain ⟨PT, hPT⟩ : ∃ x : ByteArray, x = ⟨pt.toArray⟩ := ⟨_, rfl⟩
   obtain ⟨MT60, hM60⟩ : ∃ x : ByteArray, x = ⟨(txt.data.toList.take 60).toArray⟩ := ⟨_, rfl⟩
   obtain ⟨PN, hPN⟩ : ∃ x : ByteArray, x = ⟨(pathL (pickOf nm 24)).toArray⟩ := ⟨_, rfl⟩
   have HPATH : Hid (∀ W, Calls Tryz.prog 18 #[.int .i64 nm] W fun r w' => r = .returned (.string PN) ∧ Touch (fun _ => False) W w') := fun W => path_c W nm hn1 hn2 PN hPN
   have HPICK : Hid (∀ W, Calls Tryz.prog 19 #[.int .i64 nm, .int .i64 4] W fun e w' => e = .returned (.int .i64 ((pickOf nm 4 : Nat) : Int)) ∧ W = w') := fun W => kpick_c W nm 4 _ 4 rfl rfl (by omega) (by omega) hn1 hn2
   have HMOST : Hid (∀ W, Calls Tryz.prog 21 #[.string txt, .int .i64 60] W fun e w' => e = .returned (.string MT60) ∧ W = w') := fun W => kmost60_c W txt MT60 htx hM60
   have HPACK : Hid (∀ W, Touch (fun _ => False) wo W → Calls Tryz.prog 22 #[.slice pa pl pc] W fun e w' => e = .returned (.tuple #[.string PD, .string PT]) ∧ Touch (fun _ => False) W w') := fun W t => by
    have tw := T.trans t
    refine (kpacked_r W pa pl pc P PD PT (by rw [hPD, pe1]) (by rw [hPT, pe2]) ppl (fun i hi => ?_)).mono fun _ _ h => ⟨h.1, Touch.ofBelow h.2 _⟩
    obtain ⟨s1, s2, e1, e2⟩ := pop i hi
    exact ⟨s1, s2, e1, e2.below (tw.toBelow (Nat.le_refl _) (fun _ _ e => e))⟩
   obtain ⟨r4, hr4⟩ : ∃ r4, r4 = kd.tmod 4 := ⟨_, rfl⟩
   have rb : -4 < r4 ∧ r4 < 4 := by rw [hr4]; exact ⟨by have := Int.lt_tmod_of_pos kd (show (0 : Int) < 4 by omega); omega, Int.tmod_lt_of_pos kd (by omega)⟩
   have hr4' : kd.tmod 4 = r4 := hr4.symm
   obtain ⟨M, hM⟩ : ∃ M, M = madeOf ⟨nm, kd, txt, pd, pt⟩ := ⟨_, rfl⟩
   rw [← hM] at HX hmo
   have hMc : (r4 = 0 → M = ⟨foldL (pickOf nm 4), 0, [], [], sumOf ⟨#[]⟩⟩) ∧ (r4 = 1 → M = ⟨pathL (pickOf nm 24), 8, pd, pt, sumOf ⟨pt.toArray⟩⟩) ∧ (¬ r4 = 0 → ¬ r4 = 1 → M = ⟨pathL (pickOf nm 24), 0, txt.data.toList.take 60, txt.data.toList.take 60, sumOf ⟨(txt.data.toList.take 60).toArray⟩⟩) := by
    rw [hM]; unfold madeOf; dsimp only; rw [← hr4]
    exact ⟨fun h => by rw [if_pos h], fun h => by rw [if_neg (by omega), if_pos h], fun h h' => by rw [if_neg h, if_neg h']⟩
   obtain ⟨NAME, hNAME⟩ : ∃ x : ByteArray, x = ⟨M.name.toArray⟩ := ⟨_, rfl⟩
   obtain ⟨DATA, hDATA⟩ : ∃ x : ByteArray, x = ⟨M.data.toArray⟩ := ⟨_, rfl⟩
   obtain ⟨TEXT, hTEXT⟩ : ∃ x : ByteArray, x = ⟨M.text.toArray⟩ := ⟨_, rfl⟩
   obtain ⟨MT, hMT⟩ : ∃ x : Nat, x = M.method := ⟨_, rfl⟩
   have HNM0 : Hid (r4 = 0 → NAME = ⟨(foldL (pickOf nm 4)).toArray⟩) := fun h => by rw [hNAME, hMc.1 h]
   have HNM1 : Hid (¬ r4 = 0 → PN = NAME) := fun h => by
    rw [hNAME, hPN]
    by_cases h1 : r4 = 1
    ·rw [hMc.2.1 h1]
    ·rw [hMc.2.2 h h1]
   have HDT0 : Hid (r4 = 0 → DATA = ⟨#[]⟩ ∧ TEXT = ⟨#[]⟩ ∧ MT = 0) := fun h => by rw [hDATA, hTEXT, hMT, hMc.1 h]; exact ⟨rfl, rfl, rfl⟩
   have HDT1 : Hid (r4 = 1 → PD = DATA ∧ PT = TEXT ∧ MT = 8) := fun h => by rw [hDATA, hTEXT, hMT, hMc.2.1 h, hPD, hPT]; exact ⟨rfl, rfl, rfl⟩
   have HDT2 : Hid (¬ r4 = 0 → ¬ r4 = 1 → MT60 = DATA ∧ MT60 = TEXT ∧ MT = 0) := fun h h' => by rw [hDATA, hTEXT, hMT, hMc.2.2 h h', hM60]; exact ⟨rfl, rfl, rfl⟩
   have HHAS : Hid (∀ W, Touch (fun _ => False) wo W → Calls Tryz.prog 20 #[.slice va ms.length vc, .string NAME] W fun r w' => r = .returned (.bool (knownB ms M.name)) ∧ W = w') := fun W t => by
    have hfa := (filesAt_owned (l := filsOf ms) (by rw [show (filsOf ms).length = ms.length from List.length_map ..]; exact t.owns hro (fun _ _ e => e))).2
    have hll : (filsOf ms).length = ms.length := List.length_map ..
    by_cases h0 : 0 < (filsOf ms).length
    ·obtain ⟨gg, e1, e2, e3, e4, e5⟩ := hfa h0
     refine (has_c W va gg vc ms.length (filsOf ms) NAME (fun _ => ⟨e1, e2⟩) hll.symm (by omega)).mono ?_
     rintro r w' ⟨rfl, rfl⟩
     rw [hNAME, known_find]
     exact ⟨rfl, rfl⟩
    ·refine (has_c W va 0 vc ms.length (filsOf ms) NAME (fun h => absurd h h0) hll.symm (by omega)).mono ?_
     rintro r w' ⟨rfl, rfl⟩
     rw [hNAME, known_find]
     exact ⟨rfl, rfl⟩
   have i1 : (k : Int) < (len : Int) := by omega
   have i2 : (k : Int) < 10 := by omega
   have HPF : Hid (pickOf nm 4 < 4) := pickOf_lt nm 4 (by omega)
   have EN : Hid (NAME = ⟨M.name.toArray⟩) := hNAME
   have ED : Hid (DATA = ⟨M.data.toArray⟩) := hDATA
   have ET : Hid (TEXT = ⟨M.text.toArray⟩) := hTEXT
   have EM : Hid (MT = M.method) := hMT
   have HMO : Hid (MadeOk M) := hmo
   clear hr4 pop pe1 pe2 hMc hPD hPT hM60 hPN hNAME hDATA hTEXT hMT hM hmo hraw
   go_upto_if 41 with (go_at_call 18; refine (HPATH.out _).mono ?_; rintro e wp ⟨rfl, tp⟩; have d1 := tp.at c1 (fun e => e))
   go_cut [9] from 35 to 50 (fun nv wc => nv = .string NAME ∧ Touch (fun _ => False) wo wc)
   case first =>
    have d0 := tp.at c0 (fun e => e)
    have slt2 : sb < wp.heap.size := Nat.lt_of_lt_of_le slt tp.size
    by_cases h0 : r4 = 0
    ·subst h0
     obtain ⟨p4, hp4⟩ : ∃ p4, p4 = pickOf nm 4 := ⟨_, rfl⟩
     rw [← hp4] at HPICK
     have hN0 := HNM0.out rfl
     rw [← hp4] at hN0
     have hlt4 := HPF.out
     rw [← hp4] at hlt4
     have hs : p4 = 0 ∨ p4 = 1 ∨ p4 = 2 ∨ p4 = 3 := by omega
     clear hp4 hlt4 HNM0 HNM1 HDT0 HDT1 HDT2 HPF HX HHAS
     rcases hs with rfl | rfl | rfl | rfl
     all_goals
      have HN0 : Hid (NAME = _) := hN0
      clear hN0
      go_wp2_with (go_at_call 19; refine (HPICK.out _).mono ?_; rintro e w' ⟨rfl, rfl⟩)
      go_meet
      case rel => exact ⟨by rw [HN0.out]; rfl, tp.alloc _⟩
    ·have z1 : (r4 == 0) = false := by simpa using h0
     have HN1 := HNM1.out h0
     have HNN : Hid (PN = NAME) := HN1
     clear HN1 HNM0 HNM1 HDT0 HDT1 HDT2 HPF HX HHAS
     go_wp2
     go_meet
     case rel => exact ⟨by rw [HNN.out], tp⟩
   case rest =>
    obtain ⟨rfl, TA⟩ := hcut
    clear tp d1 HNM0 HNM1 HPATH HPICK HPF
    have hB1 := hB.keep TA (fun e => e)
    have hZ1 := hZ.keep TA (fun e => e)
    have hro1 := TA.owns hro (fun _ _ e => e)
    have T1 := T.trans TA
    obtain ⟨b0, b1, b2, b3, b4⟩ := hB1.cs
    cases hkn : knownB ms M.name with
    | true =>
     have HX2 : Hid (MS = buildGo (((List.range mx).map R).drop (k + 1)) ms) := by unfold Hid; rw [HX.out, if_pos hkn]
     rw [hkn] at HHAS
     clear HX hkn HDT0 HDT1 HDT2
     go_wp2_with (go_at_call 20; refine (HHAS.out _ TA).mono ?_; rintro e w' ⟨rfl, rfl⟩)
     exact ⟨⟨k + 1, ms, .slice va ms.length vc, by omega, by omega, by go_num, rfl, HAO, HX2, hB1, hZ1, hro1, T1⟩, by simp [intOf]; omega⟩
    | false =>
     have HX2 : Hid (MS = buildGo (((List.range mx).map R).drop (k + 1)) (ms ++ [M])) := by unfold Hid; rw [HX.out, if_neg (by rw [hkn]; simp)]
     have HAO2 : Hid (AllOk (ms ++ [M])) := AllOk.snoc HAO.out HMO.out hkn
     rw [hkn] at HHAS
     clear HX hkn
     have d1 := TA.at c1 (fun e => e)
     have d2 := TA.at c2 (fun e => e)
     have d3 := TA.at c3 (fun e => e)
     go_upto_if 62 with (go_at_call 20; refine (HHAS.out _ TA).mono ?_; rintro e w' ⟨rfl, rfl⟩)
     go_cut [11, 12, 13] from 56 to 85 (fun dv tv mv wc => dv = .string DATA ∧ tv = .string TEXT ∧ mv = .int .i64 (MT : Int) ∧ Touch (fun _ => False) wo wc)
     case first =>
      by_cases h0 : r4 = 0
      ·subst h0
       have HD := HDT0.out rfl
       have HDD : Hid (DATA = ⟨#[]⟩ ∧ TEXT = ⟨#[]⟩ ∧ MT = 0) := HD
       clear HD HDT0 HDT1 HDT2 HX2
       go_wp2
       go_meet
       case rel => exact ⟨by rw [HDD.out.1], by rw [HDD.out.2.1], by rw [HDD.out.2.2]; rfl, TA⟩
      ·have z1 : (r4 == 0) = false := by simpa using h0
       have z2 : (r4 != 0) = true := by simpa using h0
       by_cases h1 : r4 = 1
       ·subst h1
        have HD := HDT1.out rfl
        have HDD : Hid (PD = DATA ∧ PT = TEXT ∧ MT = 8) := HD
        clear HD HDT0 HDT1 HDT2 HX2
        go_wp2_with (first | (go_at_call 21; refine (HMOST.out _).mono ?_; rintro e w' ⟨rfl, rfl⟩) | (go_at_call 22; refine (HPACK.out _ TA).mono ?_; rintro e wk ⟨rfl, tk⟩))
        go_meet
        case rel => exact ⟨by rw [HDD.out.1], by rw [HDD.out.2.1], by rw [HDD.out.2.2]; rfl, TA.trans tk⟩
       ·have z3 : (r4 == 1) = false := by simpa using h1
        have HD := HDT2.out h0 h1
        have HDD : Hid (MT60 = DATA ∧ MT60 = TEXT ∧ MT = 0) := HD
        clear HD HDT0 HDT1 HDT2 HX2
        go_wp2_with (go_at_call 21; refine (HMOST.out _).mono ?_; rintro e w' ⟨rfl, rfl⟩)
        go_meet
        case rel => exact ⟨by rw [HDD.out.1], by rw [HDD.out.2.1], by rw [HDD.out.2.2]; rfl, TA⟩
     case rest =>
      obtain ⟨rfl, rfl, rfl, TB⟩ := hcut
      clear d1 d2 d3 hB1 hZ1 hro1 T1 b0 b1 b2 b3 b4 TA HMOST HPACK HHAS HDT0 HDT1 HDT2 c0 c1 c2 c3
      have hEN := EN.out
      have hED := ED.out
      have hET := ET.out
      have hEM := EM.out
      have nS : 0 < NAME.size ∧ NAME.size ≤ 10 := by rw [hEN, kstr_size]; exact names_small HMO.out.nm
      have dS : DATA.size ≤ 2000 := by rw [hED, kstr_size]; exact HMO.out.dat
      have tS : TEXT.size ≤ 3600 := by rw [hET, kstr_size]; exact HMO.out.txt
      have mS : MT ≤ 8 := by rw [hEM]; have := HMO.out.mth; omega
      obtain ⟨SM, hSM⟩ : ∃ x : Nat, x = M.sum := ⟨_, rfl⟩
      have sS : SM < 4294967296 := by rw [hSM]; exact (HMO.out.fits (f := 0) (Or.inl rfl)).sm
      obtain ⟨A, hA⟩ : ∃ x : ByteArray, x = ⟨(fileAll 8 ms).toArray⟩ := ⟨_, rfl⟩
      obtain ⟨DR, hDR⟩ : ∃ x : ByteArray, x = ⟨(dirAll 8 ms 0).toArray⟩ := ⟨_, rfl⟩
      obtain ⟨NS, hNS⟩ : ∃ x : Nat, x = (ms.map fun m => m.name.length).sum := ⟨_, rfl⟩
      obtain ⟨BS, hBS⟩ : ∃ x : Nat, x = (ms.map fun m => m.text.length).sum := ⟨_, rfl⟩
      have aS : A.size ≤ 21000 := by rw [hA, kstr_size]; have := fileAll_len 8 ms HAO.out.each; omega
      have nsS : NS ≤ 10 * ms.length ∧ BS ≤ 3600 * ms.length := by rw [hNS, hBS]; exact sums_le ms HAO.out.each
      rw [← hA, ← hNS, ← hBS] at hB
      rw [← hDR]
      obtain ⟨L20, hL20⟩ : ∃ x : ByteArray, x = ⟨(lowL (20) 2).toArray⟩ := ⟨_, rfl⟩
      have HL20 : Hid (∀ (W : World) (X N : Int), X = 20 → N = 2 → Calls Tryz.prog 16 #[.int .i64 X, .int .i64 N] W fun e w' => e = .returned (.string L20) ∧ Touch (fun _ => False) W w') := fun W X N e1 e2 => by subst e1 e2; rw [hL20]; exact klow_c W (20) 2 _ _ rfl rfl (by omega) (by omega)
      obtain ⟨L82, hL82⟩ : ∃ x : ByteArray, x = ⟨(lowL (8) 2).toArray⟩ := ⟨_, rfl⟩
      have HL82 : Hid (∀ (W : World) (X N : Int), X = 8 → N = 2 → Calls Tryz.prog 16 #[.int .i64 X, .int .i64 N] W fun e w' => e = .returned (.string L82) ∧ Touch (fun _ => False) W w') := fun W X N e1 e2 => by subst e1 e2; rw [hL82]; exact klow_c W (8) 2 _ _ rfl rfl (by omega) (by omega)
      obtain ⟨L02, hL02⟩ : ∃ x : ByteArray, x = ⟨(lowL (0) 2).toArray⟩ := ⟨_, rfl⟩
      have HL02 : Hid (∀ (W : World) (X N : Int), X = 0 → N = 2 → Calls Tryz.prog 16 #[.int .i64 X, .int .i64 N] W fun e w' => e = .returned (.string L02) ∧ Touch (fun _ => False) W w') := fun W X N e1 e2 => by subst e1 e2; rw [hL02]; exact klow_c W (0) 2 _ _ rfl rfl (by omega) (by omega)
      obtain ⟨L04, hL04⟩ : ∃ x : ByteArray, x = ⟨(lowL (0) 4).toArray⟩ := ⟨_, rfl⟩
      have HL04 : Hid (∀ (W : World) (X N : Int), X = 0 → N = 4 → Calls Tryz.prog 16 #[.int .i64 X, .int .i64 N] W fun e w' => e = .returned (.string L04) ∧ Touch (fun _ => False) W w') := fun W X N e1 e2 => by subst e1 e2; rw [hL04]; exact klow_c W (0) 4 _ _ rfl rfl (by omega) (by omega)
      obtain ⟨LS, hLS⟩ : ∃ x : ByteArray, x = ⟨(lowL (SM) 4).toArray⟩ := ⟨_, rfl⟩
      have HLS : Hid (∀ (W : World) (X N : Int), X = (SM : Int) → N = 4 → Calls Tryz.prog 16 #[.int .i64 X, .int .i64 N] W fun e w' => e = .returned (.string LS) ∧ Touch (fun _ => False) W w') := fun W X N e1 e2 => by subst e1 e2; rw [hLS]; exact klow_c W (SM) 4 _ _ rfl rfl (by omega) (by omega)
      obtain ⟨LD, hLD⟩ : ∃ x : ByteArray, x = ⟨(lowL (DATA.size) 4).toArray⟩ := ⟨_, rfl⟩
      have HLD : Hid (∀ (W : World) (X N : Int), X = (DATA.size : Int) → N = 4 → Calls Tryz.prog 16 #[.int .i64 X, .int .i64 N] W fun e w' => e = .returned (.string LD) ∧ Touch (fun _ => False) W w') := fun W X N e1 e2 => by subst e1 e2; rw [hLD]; exact klow_c W (DATA.size) 4 _ _ rfl rfl (by omega) (by omega)
      obtain ⟨LT, hLT⟩ : ∃ x : ByteArray, x = ⟨(lowL (TEXT.size) 4).toArray⟩ := ⟨_, rfl⟩
      have HLT : Hid (∀ (W : World) (X N : Int), X = (TEXT.size : Int) → N = 4 → Calls Tryz.prog 16 #[.int .i64 X, .int .i64 N] W fun e w' => e = .returned (.string LT) ∧ Touch (fun _ => False) W w') := fun W X N e1 e2 => by subst e1 e2; rw [hLT]; exact klow_c W (TEXT.size) 4 _ _ rfl rfl (by omega) (by omega)
      obtain ⟨LM, hLM⟩ : ∃ x : ByteArray, x = ⟨(lowL (MT) 2).toArray⟩ := ⟨_, rfl⟩
      have HLM : Hid (∀ (W : World) (X N : Int), X = (MT : Int) → N = 2 → Calls Tryz.prog 16 #[.int .i64 X, .int .i64 N] W fun e w' => e = .returned (.string LM) ∧ Touch (fun _ => False) W w') := fun W X N e1 e2 => by subst e1 e2; rw [hLM]; exact klow_c W (MT) 2 _ _ rfl rfl (by omega) (by omega)
      obtain ⟨LN, hLN⟩ : ∃ x : ByteArray, x = ⟨(lowL (NAME.size) 2).toArray⟩ := ⟨_, rfl⟩
      have HLN : Hid (∀ (W : World) (X N : Int), X = (NAME.size : Int) → N = 2 → Calls Tryz.prog 16 #[.int .i64 X, .int .i64 N] W fun e w' => e = .returned (.string LN) ∧ Touch (fun _ => False) W w') := fun W X N e1 e2 => by subst e1 e2; rw [hLN]; exact klow_c W (NAME.size) 2 _ _ rfl rfl (by omega) (by omega)
      obtain ⟨LA, hLA⟩ : ∃ x : ByteArray, x = ⟨(lowL (A.size) 4).toArray⟩ := ⟨_, rfl⟩
      have HLA : Hid (∀ (W : World) (X N : Int), X = (A.size : Int) → N = 4 → Calls Tryz.prog 16 #[.int .i64 X, .int .i64 N] W fun e w' => e = .returned (.string LA) ∧ Touch (fun _ => False) W w') := fun W X N e1 e2 => by subst e1 e2; rw [hLA]; exact klow_c W (A.size) 4 _ _ rfl rfl (by omega) (by omega)
      have HSUM : Hid (∀ W, Calls Tryz.prog 13 #[.string TEXT] W fun e w' => e = .returned (.int .u32 (SM : Int)) ∧ Touch (fun _ => False) W w') := fun W => (sum_e W TEXT (SM : Int) (by rw [hET, HMO.out.gv.sum, hSM]) (by unfold maxLen; omega)).mono fun _ _ h => ⟨h.1, Touch.ofBelow h.2 _⟩
      have sL20 : L20.size = 2 := by rw [hL20, kstr_size, lowL_len]
      have sL82 : L82.size = 2 := by rw [hL82, kstr_size, lowL_len]
      have sL02 : L02.size = 2 := by rw [hL02, kstr_size, lowL_len]
      have sL04 : L04.size = 4 := by rw [hL04, kstr_size, lowL_len]
      have sLS : LS.size = 4 := by rw [hLS, kstr_size, lowL_len]
      have sLD : LD.size = 4 := by rw [hLD, kstr_size, lowL_len]
      have sLT : LT.size = 4 := by rw [hLT, kstr_size, lowL_len]
      have sLM : LM.size = 2 := by rw [hLM, kstr_size, lowL_len]
      have sLN : LN.size = 2 := by rw [hLN, kstr_size, lowL_len]
      have sLA : LA.size = 4 := by rw [hLA, kstr_size, lowL_len]
      have drS : DR.size ≤ 600 := by rw [hDR, kstr_size]; have := dirAll_len 8 ms 0 HAO.out.each; omega
      have qD : M.data.length = DATA.size := by rw [hED, kstr_size]
      have qT : M.text.length = TEXT.size := by rw [hET, kstr_size]
      have qN : M.name.length = NAME.size := by rw [hEN, kstr_size]
      have qA : (fileAll 8 ms).length = A.size := by rw [hA, kstr_size]
      have HDIR : Hid (((((((((((DR ++ ⟨#[80, 75, 1, 2]⟩) ++ L20) ++ (((((L20 ++ L82) ++ LM) ++ ⟨#[0, 0, 0, 0]⟩) ++ ((LS ++ LD) ++ LT)) ++ LN)) ++ L02) ++ L02) ++ L02) ++ L02) ++ L04) ++ LA) ++ NAME) = ⟨(dirAll 8 (ms ++ [M]) 0).toArray⟩) := by
       unfold Hid; rw [dirAll_snoc]; unfold dirB headB threeB; rw [qD, qT, qN, Nat.zero_add, qA, ← hSM, ← hEM, hDR, hL20, hL02, hL04, hLS, hLD, hLT, hLM, hLN, hLA, hL82, hEN]
       simp only [kstr_app, List.append_assoc]
      have HARC : Hid ((((((((A ++ ⟨#[80, 75, 3, 4]⟩) ++ (((((L20 ++ L82) ++ LM) ++ ⟨#[0, 0, 0, 0]⟩) ++ ((LS ++ LD) ++ LT)) ++ LN)) ++ L02) ++ NAME) ++ DATA) ++ ⟨#[80, 75, 7, 8]⟩) ++ ((LS ++ LD) ++ LT)) = ⟨(fileAll 8 (ms ++ [M])).toArray⟩) := by
       unfold Hid; rw [fileAll_snoc]; unfold fileB headB threeB; rw [qD, qT, qN, ← hSM, ← hEM, hA, hL20, hL02, hLS, hLD, hLT, hLM, hLN, hL82, hEN, hED]
       simp [kstr_app, List.append_assoc]
      have HSN : Hid (((ms ++ [M]).map fun m => m.name.length).sum = NS + NAME.size ∧ ((ms ++ [M]).map fun m => m.text.length).sum = BS + TEXT.size) := by
       unfold Hid; rw [hNS, hBS, ← qN, ← qT]; simp
      have HFLS : Hid (fileV (filsOf (ms ++ [M])) = fileV (filsOf ms) ++ [Value.string NAME, Value.string TEXT]) := by
       unfold Hid filsOf; rw [List.map_append, List.map_cons, List.map_nil, fileV_snoc, hEN, hET]; rfl
      clear hEN hED hET hEM hSM hA hDR hNS hBS qD qT qN qA hL20 hL82 hL02 hL04 hLS hLD hLT hLM hLN hLA
      go_wp2_with fail
      refine (HSUM.out _).mono ?_
      rintro e wn1 ⟨rfl, tn1⟩
      replace TB := TB.trans tn1
      clear tn1
      go_wp2_with fail
      refine (HLS.out _ _ _ rfl rfl).mono ?_
      rintro e wm0 ⟨rfl, tm0⟩
      replace TB := TB.trans tm0
      clear tm0
      go_wp2_with fail
      refine (HLD.out _ _ _ rfl rfl).mono ?_
      rintro e wm1 ⟨rfl, tm1⟩
      replace TB := TB.trans tm1
      clear tm1
      go_wp2_with fail
      refine (HLT.out _ _ _ rfl rfl).mono ?_
      rintro e wm2 ⟨rfl, tm2⟩
      replace TB := TB.trans tm2
      clear tm2
      go_wp2_with fail
      refine (HL20.out _ _ _ rfl rfl).mono ?_
      rintro e wm3 ⟨rfl, tm3⟩
      replace TB := TB.trans tm3
      clear tm3
      go_wp2_with fail
      refine (HL82.out _ _ _ rfl rfl).mono ?_
      rintro e wm4 ⟨rfl, tm4⟩
      replace TB := TB.trans tm4
      clear tm4
      go_wp2_with fail
      refine (HLM.out _ _ _ rfl rfl).mono ?_
      rintro e wm5 ⟨rfl, tm5⟩
      replace TB := TB.trans tm5
      clear tm5
      go_wp2_with fail
      refine (HLN.out _ _ _ rfl rfl).mono ?_
      rintro e wm6 ⟨rfl, tm6⟩
      replace TB := TB.trans tm6
      clear tm6
      go_wp2_with fail
      have kd0 : (9223372036854775807 < DR.size + 4) = False := eq_false (by omega)
      have kd1 : (9223372036854775807 < DR.size + 4 + 2) = False := eq_false (by omega)
      have kd2 : (9223372036854775807 < DR.size + 4 + 2 + 24) = False := eq_false (by omega)
      have kd3 : (9223372036854775807 < DR.size + 4 + 2 + 24 + 2) = False := eq_false (by omega)
      have kd4 : (9223372036854775807 < DR.size + 4 + 2 + 24 + 2 + 2) = False := eq_false (by omega)
      have kd5 : (9223372036854775807 < DR.size + 4 + 2 + 24 + 2 + 2 + 2) = False := eq_false (by omega)
      have kd6 : (9223372036854775807 < DR.size + 4 + 2 + 24 + 2 + 2 + 2 + 2) = False := eq_false (by omega)
      have kd7 : (9223372036854775807 < DR.size + 4 + 2 + 24 + 2 + 2 + 2 + 2 + 4) = False := eq_false (by omega)
      have kd8 : (9223372036854775807 < DR.size + 4 + 2 + 24 + 2 + 2 + 2 + 2 + 4 + 4) = False := eq_false (by omega)
      have kd9 : (9223372036854775807 < DR.size + 4 + 2 + 24 + 2 + 2 + 2 + 2 + 4 + 4 + NAME.size) = False := eq_false (by omega)
      have ka0 : (9223372036854775807 < A.size + 4) = False := eq_false (by omega)
      have ka1 : (9223372036854775807 < A.size + 4 + 24) = False := eq_false (by omega)
      have ka2 : (9223372036854775807 < A.size + 4 + 24 + 2) = False := eq_false (by omega)
      have ka3 : (9223372036854775807 < A.size + 4 + 24 + 2 + NAME.size) = False := eq_false (by omega)
      have ka4 : (9223372036854775807 < A.size + 4 + 24 + 2 + NAME.size + DATA.size) = False := eq_false (by omega)
      have CB : _ = some (Value.string A) := (hB.keep TB (fun e => e)).cs.1
      have TD := TB.drew
      go_region_held3 (fun X => X.cell? ⟨w.heap.size + 1, 0, none⟩ = some (.string A)) (first | exact CB | assumption | go_keep) (first | (go_at_call_of 16 (Value.int IntKind.i64 20); refine (HL20.out _ _ _ rfl rfl).mono ?_; rintro e wn ⟨rfl, tn⟩; replace CB := tn.at CB (fun e => e); replace TD := TD.trans tn) | (go_at_call_of 16 (Value.int IntKind.i64 (A.size : Int)); refine (HLA.out _ _ _ rfl rfl).mono ?_; rintro e wn ⟨rfl, tn⟩; replace CB := tn.at CB (fun e => e); replace TD := TD.trans tn) | (go_at_call_of 16 (Value.int IntKind.i64 4); refine (HL04.out _ _ _ rfl rfl).mono ?_; rintro e wn ⟨rfl, tn⟩; replace CB := tn.at CB (fun e => e); replace TD := TD.trans tn) | (go_at_call 16; refine (HL02.out _ _ _ rfl rfl).mono ?_; rintro e wn ⟨rfl, tn⟩; replace CB := tn.at CB (fun e => e); replace TD := TD.trans tn))
      go_upto_region 27 with fail
      go_cut [] from 136 to 147 (fun wc => BB wc (w.heap.size + 1) (((((A ++ ⟨#[80, 75, 3, 4]⟩) ++ (((((L20 ++ L82) ++ LM) ++ ⟨#[0, 0, 0, 0]⟩) ++ ((LS ++ LD) ++ LT)) ++ LN)) ++ L02) ++ NAME) ++ DATA) (.slice va ms.length vc) NS BS ms.length ∧ BB wc w.heap.size ⟨#[]⟩ (.slice none 0 0) 0 0 0 ∧ wc.ownsRow (w.heap.size + 1 + 1) 39 2 (.slice va ms.length vc) ms.length (fileV (filsOf ms)) ∧ Touch (fun _ => False) w wc)
      case first =>
       have TE := TD.drew
       go_region_with (first | (go_at_call 16; refine (HL02.out _ _ _ rfl rfl).mono ?_; rintro e wn ⟨rfl, tn⟩; have TN := TE.trans tn; have hBn := hB.keep TN (fun e => e); have n0 := hBn.cs.1; have y0 := hBn.fr 0))
       all_goals
        go_wp2_with fail
        go_meet
        case rel => exact ⟨hBn.set0 _, (hZ.keep TN (fun e => e)).keep (touch_box _ _ _ _) (by show ¬ w.heap.size = w.heap.size + 1; omega), owns_set (TN.owns hro (fun _ _ e => e)) _, (T.trans TN).setNew (by show w.heap.size ≤ w.heap.size + 1; omega) _⟩
      case rest =>
       obtain ⟨hB2, hZ2, hro2, T2⟩ := hcut
       obtain ⟨b0, b1, b2, b3, b4⟩ := hB2.cs
       have y0 := hB2.fr 0
       go_upto_if 148 with fail
       go_cut [] from 148 to 154 (fun wd => BB wd (w.heap.size + 1) (((((((A ++ ⟨#[80, 75, 3, 4]⟩) ++ (((((L20 ++ L82) ++ LM) ++ ⟨#[0, 0, 0, 0]⟩) ++ ((LS ++ LD) ++ LT)) ++ LN)) ++ L02) ++ NAME) ++ DATA) ++ ⟨#[80, 75, 7, 8]⟩) ++ ((LS ++ LD) ++ LT)) (.slice va ms.length vc) NS BS ms.length ∧ BB wd w.heap.size ⟨#[]⟩ (.slice none 0 0) 0 0 0 ∧ wd.ownsRow (w.heap.size + 1 + 1) 39 2 (.slice va ms.length vc) ms.length (fileV (filsOf ms)) ∧ Touch (fun _ => False) w wd)
       case first =>
        go_wp2_with fail
        go_meet
        case rel => exact ⟨hB2.set0 _, hZ2.keep (touch_box _ _ _ _) (by show ¬ w.heap.size = w.heap.size + 1; omega), owns_set hro2 _, T2.setNew (by show w.heap.size ≤ w.heap.size + 1; omega) _⟩
       case rest =>
        clear b0 b1 b2 b3 b4 y0 hB2 hZ2 hro2 T2
        obtain ⟨hB2, hZ2, hro2, T2⟩ := hcut
        obtain ⟨b0, b1, b2, b3, b4⟩ := hB2.cs
        have y0 := hB2.fr 0
        have hB3 := hB2
        have hZ3 := hZ2
        have hro3 := hro2
        have T3 := T2
        have hs3 := T2.size
        have lb3 := hB2.lt
        have q1 : ms.length + 1 ≤ maxLen := by unfold maxLen; omega
        have q2 : (ms.length + 1) * 32 ≤ 140737488355328 := by omega
        clear hB hZ hro T TB TD CB HL20 HL02 HL04 HLS HLD HLT HLM HLN HLA HSUM HL82
        go_wp2_with (at_builtin; refine wpList_append_own _ rfl _ _ 24 rfl (w.heap.size + 1 + 1) 39 i0 (.agg #[.string ⟨#[]⟩, .string ⟨#[]⟩]) 2 32 Tryz.underlying24 hi hz0 hz1 hz2 rfl (by decide) _ _ _ rfl (hro3.alloc _) ⟨_, 0, none⟩ 1 1 [.string NAME, .string TEXT] rfl rfl (cell_two_new _ _ _ _) (by simp [Value.oneCell']) q1 q2 (by simp; omega) ?_; intro v' w2 hown' hgrow hnil; obtain ⟨va', vc', hv'⟩ := owned_form hown'; subst hv'; have tg := ((Touch.refl (fun q => w.heap.size + 1 + 1 ≤ q) _).alloc (Obj.cells #[.string NAME, .string TEXT] 39)).grown hgrow (fun j hj => (hro3.lt j hj).1); have hB4 := hB3.keep tg (by show ¬ w.heap.size + 1 + 1 ≤ w.heap.size + 1; omega); have hZ4 := hZ3.keep tg (by show ¬ w.heap.size + 1 + 1 ≤ w.heap.size; omega); have T4 := (T3.alloc (Obj.cells #[.string NAME, .string TEXT] 39)).grownNew hgrow (fun j hj => Nat.le_trans (by omega) (hro3.lt j hj).1); obtain ⟨g0, g1, g2, g3, g4⟩ := hB4.cs; have x1 := hB4.fr 1; have x2 := hB4.fr 2; have x3 := hB4.fr 3; have x4 := hB4.fr 4)
        refine ⟨⟨k + 1, ms ++ [M], .slice va' (ms.length + 1) vc', by omega, by rw [List.length_append, List.length_singleton]; omega, by go_num, by rw [HDIR.out], HAO2, HX2, ?_, ?_, ?_, ?_⟩, by simp [intOf]; omega⟩
        ·rw [← HARC.out, HSN.out.1, HSN.out.2, List.length_append, List.length_singleton]
         exact (((hB4.set1 _).set2 _ _ (by omega)).set3 _ _ (by omega)).set4 _ _ (by omega)
        ·exact (((hZ4.keep (touch_box _ _ _ _) (by show ¬ w.heap.size = w.heap.size + 1; omega)).keep (touch_box _ _ _ _) (by show ¬ w.heap.size = w.heap.size + 1; omega)).keep (touch_box _ _ _ _) (by show ¬ w.heap.size = w.heap.size + 1; omega)).keep (touch_box _ _ _ _) (by show ¬ w.heap.size = w.heap.size + 1; omega)
        ·rw [HFLS.out, List.length_append, List.length_singleton]
         exact owns_set (owns_set (owns_set (owns_set hown' _) _) _) _
        ·exact (((T4.setNew (by show w.heap.size ≤ w.heap.size + 1; omega) _).setNew (by show w.heap.size ≤ w.heap.size + 1; omega) _).setNew (by show w.heap.size ≤ w.heap.size + 1; omega) _).setNew (by show w.heap.size ≤ w.heap.size + 1; omega) _
  ·have hkm : k = mx := by omega
   have hME : MS = ms := by rw [HK.out, List.drop_of_length_le (by simp; omega), buildGo]
   subst hME
   clear HMS HOP HK
   obtain ⟨A, hA⟩ : ∃ x : ByteArray, x = ⟨(fileAll 8 MS).toArray⟩ := ⟨_, rfl⟩
   obtain ⟨DR, hDR⟩ : ∃ x : ByteArray, x = ⟨(dirAll 8 MS 0).toArray⟩ := ⟨_, rfl⟩
   obtain ⟨NS, hNS⟩ : ∃ x : Nat, x = (MS.map fun m => m.name.length).sum := ⟨_, rfl⟩
   obtain ⟨BS, hBS⟩ : ∃ x : Nat, x = (MS.map fun m => m.text.length).sum := ⟨_, rfl⟩
   obtain ⟨n, hn⟩ : ∃ x : Nat, x = MS.length := ⟨_, rfl⟩
   have aS : A.size ≤ 21000 := by rw [hA, kstr_size]; have := fileAll_len 8 MS HAO.out.each; omega
   have drS : DR.size ≤ 600 := by rw [hDR, kstr_size]; have := dirAll_len 8 MS 0 HAO.out.each; omega
   obtain ⟨L02, hL02⟩ : ∃ x : ByteArray, x = ⟨(lowL (0) 2).toArray⟩ := ⟨_, rfl⟩
   have HL02 : Hid (∀ (W : World) (X N : Int), X = 0 → N = 2 → Calls Tryz.prog 16 #[.int .i64 X, .int .i64 N] W fun e w' => e = .returned (.string L02) ∧ Touch (fun _ => False) W w') := fun W X N e1 e2 => by subst e1 e2; rw [hL02]; exact klow_c W (0) 2 _ _ rfl rfl (by omega) (by omega)
   obtain ⟨L04, hL04⟩ : ∃ x : ByteArray, x = ⟨(lowL (0) 4).toArray⟩ := ⟨_, rfl⟩
   have HL04 : Hid (∀ (W : World) (X N : Int), X = 0 → N = 4 → Calls Tryz.prog 16 #[.int .i64 X, .int .i64 N] W fun e w' => e = .returned (.string L04) ∧ Touch (fun _ => False) W w') := fun W X N e1 e2 => by subst e1 e2; rw [hL04]; exact klow_c W (0) 4 _ _ rfl rfl (by omega) (by omega)
   obtain ⟨LNN, hLNN⟩ : ∃ x : ByteArray, x = ⟨(lowL (n) 2).toArray⟩ := ⟨_, rfl⟩
   have HLNN : Hid (∀ (W : World) (X N : Int), X = (n : Int) → N = 2 → Calls Tryz.prog 16 #[.int .i64 X, .int .i64 N] W fun e w' => e = .returned (.string LNN) ∧ Touch (fun _ => False) W w') := fun W X N e1 e2 => by subst e1 e2; rw [hLNN]; exact klow_c W (n) 2 _ _ rfl rfl (by omega) (by omega)
   obtain ⟨LZ, hLZ⟩ : ∃ x : ByteArray, x = ⟨(lowL (DR.size) 4).toArray⟩ := ⟨_, rfl⟩
   have HLZ : Hid (∀ (W : World) (X N : Int), X = (DR.size : Int) → N = 4 → Calls Tryz.prog 16 #[.int .i64 X, .int .i64 N] W fun e w' => e = .returned (.string LZ) ∧ Touch (fun _ => False) W w') := fun W X N e1 e2 => by subst e1 e2; rw [hLZ]; exact klow_c W (DR.size) 4 _ _ rfl rfl (by omega) (by omega)
   obtain ⟨LA, hLA⟩ : ∃ x : ByteArray, x = ⟨(lowL (A.size) 4).toArray⟩ := ⟨_, rfl⟩
   have HLA : Hid (∀ (W : World) (X N : Int), X = (A.size : Int) → N = 4 → Calls Tryz.prog 16 #[.int .i64 X, .int .i64 N] W fun e w' => e = .returned (.string LA) ∧ Touch (fun _ => False) W w') := fun W X N e1 e2 => by subst e1 e2; rw [hLA]; exact klow_c W (A.size) 4 _ _ rfl rfl (by omega) (by omega)
   have sL02 : L02.size = 2 := by rw [hL02, kstr_size, lowL_len]
   have sL04 : L04.size = 4 := by rw [hL04, kstr_size, lowL_len]
   have sLNN : LNN.size = 2 := by rw [hLNN, kstr_size, lowL_len]
   have sLZ : LZ.size = 4 := by rw [hLZ, kstr_size, lowL_len]
   have sLA : LA.size = 4 := by rw [hLA, kstr_size, lowL_len]
   obtain ⟨FIN, hFIN⟩ : ∃ x : ByteArray, x = ((((((((A ++ DR) ++ ⟨#[80, 75, 5, 6]⟩) ++ L04) ++ LNN) ++ LNN) ++ LZ) ++ LA) ++ L02) := ⟨_, rfl⟩
   have HFIN : Hid (FIN = ⟨(madeB 8 MS).toArray⟩) := by
    unfold Hid; rw [hFIN]; unfold madeB endB; rw [show (dirAll 8 MS 0).length = DR.size by rw [hDR, kstr_size], show (fileAll 8 MS).length = A.size by rw [hA, kstr_size], ← hn, hL02, hL04, hLNN, hLZ, hLA, hA, hDR]
    simp [kstr_app, List.append_assoc]
   rw [← hA, ← hNS, ← hBS, ← hn] at hB
   rw [← hn] at hro hml
   rw [← hDR]
   have HEQ : Hid (FIN = ⟨(madeB 8 MS).toArray⟩ ∧ NS = (MS.map fun m => m.name.length).sum ∧ BS = (MS.map fun m => m.text.length).sum ∧ n = MS.length) := ⟨HFIN.out, hNS, hBS, hn⟩
   clear hA hDR hNS hBS hn HFIN HAO hok hL02 hL04 hLNN hLZ hLA
   have kz0 : (9223372036854775807 < A.size + DR.size) = False := eq_false (by omega)
   have kz1 : (9223372036854775807 < A.size + DR.size + 4) = False := eq_false (by omega)
   have kz2 : (9223372036854775807 < A.size + DR.size + 4 + 4) = False := eq_false (by omega)
   have kz3 : (9223372036854775807 < A.size + DR.size + 4 + 4 + 2) = False := eq_false (by omega)
   have kz4 : (9223372036854775807 < A.size + DR.size + 4 + 4 + 2 + 2) = False := eq_false (by omega)
   have kz5 : (9223372036854775807 < A.size + DR.size + 4 + 4 + 2 + 2 + 4) = False := eq_false (by omega)
   have kz6 : (9223372036854775807 < A.size + DR.size + 4 + 4 + 2 + 2 + 4 + 4) = False := eq_false (by omega)
   have kz7 : (9223372036854775807 < A.size + DR.size + 4 + 4 + 2 + 2 + 4 + 4 + 2) = False := eq_false (by omega)
   obtain ⟨b0, b1, b2, b3, b4⟩ := hB.cs
   rcases (by omega : len ≤ k ∨ (k < len ∧ 10 ≤ k)) with hq | ⟨hq, hq'⟩
   ·have i1 : ¬ (k : Int) < (len : Int) := by omega
    go_upto_region 35 with fail
    go_cut [] from 182 to 206 (fun wc => BB wc (w.heap.size + 1) ((((((((A ++ DR) ++ ⟨#[80, 75, 5, 6]⟩) ++ L04) ++ LNN) ++ LNN) ++ LZ) ++ LA) ++ L02) (.slice va n vc) NS BS n ∧ BB wc w.heap.size ⟨#[]⟩ (.slice none 0 0) 0 0 0 ∧ wc.ownsRow (w.heap.size + 1 + 1) 39 2 (.slice va n vc) n (fileV (filsOf MS)) ∧ Touch (fun _ => False) w wc)
    case first =>
     have hBn := hB.keep (show Touch (fun _ => False) wo wo.drew from (Touch.refl _ _).drew) (fun e => e)
     have TN : Touch (fun _ => False) wo wo.drew := (Touch.refl _ _).drew
     have CB := hBn.cs.1
     clear b0 b1 b2 b3 b4
     refine wp_region_until (fun X => X.cell? ⟨w.heap.size + 1, 0, none⟩ = some (.string A)) 25 (by kernel_rfl) ?_
     refine wpAnyU_take (i := 0) (v := ?v0) rfl (by kernel_rfl) (by kernel_rfl) (by kernel_rfl) (by kernel_rfl) (by kernel_rfl) (fun _ _ _ h => h) (Or.inl ⟨by rfl, ?hy0⟩) CB ?rest0
     case hy0 => ((intro wx hSw; (try dsimp only at hSw); go_simp) <;> (with_reducible rfl))
     try simp only [Act.put, List.setIfInBounds_toArray, List.set_cons_zero, List.set_cons_succ]
     refine wpAnyU_take (i := 1) (v := ?v1) rfl (by kernel_rfl) (by kernel_rfl) (by kernel_rfl) (by kernel_rfl) (by kernel_rfl) (fun _ _ _ h => h) (Or.inl ⟨by rfl, ?hy1⟩) CB ?rest1
     case hy1 => ((intro wx hSw; (try dsimp only at hSw); go_simp) <;> (with_reducible rfl))
     try simp only [Act.put, List.setIfInBounds_toArray, List.set_cons_zero, List.set_cons_succ]
     refine wpAnyU_take (i := 2) (v := ?v2) rfl (by kernel_rfl) (by kernel_rfl) (by kernel_rfl) (by kernel_rfl) (by kernel_rfl) (fun _ _ _ h => h) (Or.inl ⟨by rfl, ?hy2⟩) CB ?rest2
     case hy2 => ((intro wx hSw; (try dsimp only at hSw); go_simp) <;> (with_reducible rfl))
     try simp only [Act.put, List.setIfInBounds_toArray, List.set_cons_zero, List.set_cons_succ]
     refine wpAnyU_take (i := 3) (v := ?v3) rfl (by kernel_rfl) (by kernel_rfl) (by kernel_rfl) (by kernel_rfl) (by kernel_rfl) (fun _ _ _ h => h) (Or.inl ⟨by rfl, ?hy3⟩) CB ?rest3
     case hy3 => ((intro wx hSw; (try dsimp only at hSw); go_simp) <;> (with_reducible rfl))
     try simp only [Act.put, List.setIfInBounds_toArray, List.set_cons_zero, List.set_cons_succ]
     refine wpAnyU_take (i := 4) (v := ?v4) rfl (by kernel_rfl) (by kernel_rfl) (by kernel_rfl) (by kernel_rfl) (by kernel_rfl) (fun _ _ _ h => h) (Or.inl ⟨by rfl, ?hy4⟩) CB ?rest4
     case hy4 => ((intro wx hSw; (try dsimp only at hSw); go_simp) <;> (with_reducible rfl))
     try simp only [Act.put, List.setIfInBounds_toArray, List.set_cons_zero, List.set_cons_succ]
     refine wpAnyU_take (i := 7) (v := ?v7) rfl (by kernel_rfl) (by kernel_rfl) (by kernel_rfl) (by kernel_rfl) (by kernel_rfl) (fun _ _ _ h => h) (Or.inl ⟨by rfl, ?hy7⟩) CB ?rest7
     case hy7 => ((intro wx hSw; (try dsimp only at hSw); go_simp) <;> (with_reducible rfl))
     try simp only [Act.put, List.setIfInBounds_toArray, List.set_cons_zero, List.set_cons_succ]
     refine wpAnyU_take (i := 10) (v := ?v10) rfl (by kernel_rfl) (by kernel_rfl) (by kernel_rfl) (by kernel_rfl) (by kernel_rfl) (fun _ _ _ h => h) (Or.inl ⟨by rfl, ?hy10⟩) CB ?rest10
     case hy10 => ((intro wx hSw; (try dsimp only at hSw); go_simp) <;> (with_reducible rfl))
     try simp only [Act.put, List.setIfInBounds_toArray, List.set_cons_zero, List.set_cons_succ]
     refine wpAnyU_take (i := 13) (v := ?v13) rfl (by kernel_rfl) (by kernel_rfl) (by kernel_rfl) (by kernel_rfl) (by kernel_rfl) (fun _ _ _ h => h) (Or.inl ⟨by rfl, ?hy13⟩) CB ?rest13
     case hy13 => ((intro wx hSw; (try dsimp only at hSw); go_simp) <;> (with_reducible rfl))
     try simp only [Act.put, List.setIfInBounds_toArray, List.set_cons_zero, List.set_cons_succ]
     refine wpAnyU_take (i := 14) (v := ?v14) rfl (by kernel_rfl) (by kernel_rfl) (by kernel_rfl) (by kernel_rfl) (by kernel_rfl) (fun _ _ _ h => h) (Or.inl ⟨by rfl, ?hy14⟩) CB ?rest14
     case hy14 => ((intro wx hSw; (try dsimp only at hSw); go_simp) <;> (with_reducible rfl))
     try simp only [Act.put, List.setIfInBounds_toArray, List.set_cons_zero, List.set_cons_succ]
     refine wpAnyU_take (i := 17) (v := ?v17) rfl (by kernel_rfl) (by kernel_rfl) (by kernel_rfl) (by kernel_rfl) (by kernel_rfl) (fun _ _ _ h => h) (Or.inl ⟨by rfl, ?hy17⟩) CB ?rest17
     case hy17 => ((intro wx hSw; (try dsimp only at hSw); go_simp) <;> (with_reducible rfl))
     try simp only [Act.put, List.setIfInBounds_toArray, List.set_cons_zero, List.set_cons_succ]
     refine wpAnyU_take (i := 18) (v := ?v18) rfl (by kernel_rfl) (by kernel_rfl) (by kernel_rfl) (by kernel_rfl) (by kernel_rfl) (fun _ _ _ h => h) (Or.inl ⟨by rfl, ?hy18⟩) CB ?rest18
     case hy18 => ((intro wx hSw; (try dsimp only at hSw); go_simp) <;> (with_reducible rfl))
     try simp only [Act.put, List.setIfInBounds_toArray, List.set_cons_zero, List.set_cons_succ]
     refine wpAnyU_take (i := 19) (v := ?v19) rfl (by kernel_rfl) (by kernel_rfl) (by kernel_rfl) (by kernel_rfl) (by kernel_rfl) (fun _ _ _ h => h) (Or.inl ⟨by rfl, ?hy19⟩) CB ?rest19
     case hy19 => ((intro wx hSw; (try dsimp only at hSw); go_simp) <;> (with_reducible rfl))
     try simp only [Act.put, List.setIfInBounds_toArray, List.set_cons_zero, List.set_cons_succ]
     refine wpAnyU_one (i := 5) (by kernel_rfl) rfl (fun K hK => ?_)
     go_simp
     refine (HL04.out _ _ _ rfl rfl).mono ?_
     rintro e wn5 ⟨rfl, tn⟩
     replace TN := TN.trans tn
     replace hBn := hBn.keep tn (fun e => e)
     replace CB := hBn.cs.1
     clear tn
     go_wp2_with fail
     refine hK.out _ _ (fun _ => CB) ?_
     clear hK K
     try simp only [Act.put, List.setIfInBounds_toArray, List.set_cons_zero, List.set_cons_succ]
     refine wpAnyU_take (i := 6) (v := ?v6) rfl (by kernel_rfl) (by kernel_rfl) (by kernel_rfl) (by kernel_rfl) (by kernel_rfl) (fun _ _ _ h => h) (Or.inl ⟨by rfl, ?hy6⟩) CB ?rest6
     case hy6 => ((intro wx hSw; (try dsimp only at hSw); go_simp) <;> (with_reducible rfl))
     try simp only [Act.put, List.setIfInBounds_toArray, List.set_cons_zero, List.set_cons_succ]
     refine wpAnyU_one (i := 8) (by kernel_rfl) rfl (fun K hK => ?_)
     go_simp
     refine (HLNN.out _ _ _ rfl rfl).mono ?_
     rintro e wn8 ⟨rfl, tn⟩
     replace TN := TN.trans tn
     replace hBn := hBn.keep tn (fun e => e)
     replace CB := hBn.cs.1
     clear tn
     go_wp2_with fail
     refine hK.out _ _ (fun _ => CB) ?_
     clear hK K
     try simp only [Act.put, List.setIfInBounds_toArray, List.set_cons_zero, List.set_cons_succ]
     refine wpAnyU_take (i := 9) (v := ?v9) rfl (by kernel_rfl) (by kernel_rfl) (by kernel_rfl) (by kernel_rfl) (by kernel_rfl) (fun _ _ _ h => h) (Or.inl ⟨by rfl, ?hy9⟩) CB ?rest9
     case hy9 => ((intro wx hSw; (try dsimp only at hSw); go_simp) <;> (with_reducible rfl))
     try simp only [Act.put, List.setIfInBounds_toArray, List.set_cons_zero, List.set_cons_succ]
     refine wpAnyU_one (i := 11) (by kernel_rfl) rfl (fun K hK => ?_)
     go_simp
     refine (HLNN.out _ _ _ rfl rfl).mono ?_
     rintro e wn11 ⟨rfl, tn⟩
     replace TN := TN.trans tn
     replace hBn := hBn.keep tn (fun e => e)
     replace CB := hBn.cs.1
     clear tn
     go_wp2_with fail
     refine hK.out _ _ (fun _ => CB) ?_
     clear hK K
     try simp only [Act.put, List.setIfInBounds_toArray, List.set_cons_zero, List.set_cons_succ]
     refine wpAnyU_take (i := 12) (v := ?v12) rfl (by kernel_rfl) (by kernel_rfl) (by kernel_rfl) (by kernel_rfl) (by kernel_rfl) (fun _ _ _ h => h) (Or.inl ⟨by rfl, ?hy12⟩) CB ?rest12
     case hy12 => ((intro wx hSw; (try dsimp only at hSw); go_simp) <;> (with_reducible rfl))
     try simp only [Act.put, List.setIfInBounds_toArray, List.set_cons_zero, List.set_cons_succ]
     refine wpAnyU_one (i := 15) (by kernel_rfl) rfl (fun K hK => ?_)
     go_simp
     refine (HLZ.out _ _ _ rfl rfl).mono ?_
     rintro e wn15 ⟨rfl, tn⟩
     replace TN := TN.trans tn
     replace hBn := hBn.keep tn (fun e => e)
     replace CB := hBn.cs.1
     clear tn
     go_wp2_with fail
     refine hK.out _ _ (fun _ => CB) ?_
     clear hK K
     try simp only [Act.put, List.setIfInBounds_toArray, List.set_cons_zero, List.set_cons_succ]
     refine wpAnyU_take (i := 16) (v := ?v16) rfl (by kernel_rfl) (by kernel_rfl) (by kernel_rfl) (by kernel_rfl) (by kernel_rfl) (fun _ _ _ h => h) (Or.inl ⟨by rfl, ?hy16⟩) CB ?rest16
     case hy16 => ((intro wx hSw; (try dsimp only at hSw); go_simp) <;> (with_reducible rfl))
     try simp only [Act.put, List.setIfInBounds_toArray, List.set_cons_zero, List.set_cons_succ]
     refine wpAnyU_one (i := 20) (by kernel_rfl) rfl (fun K hK => ?_)
     go_simp
     refine (HLA.out _ _ _ rfl rfl).mono ?_
     rintro e wn20 ⟨rfl, tn⟩
     replace TN := TN.trans tn
     replace hBn := hBn.keep tn (fun e => e)
     replace CB := hBn.cs.1
     clear tn
     go_wp2_with fail
     refine hK.out _ _ (fun _ => CB) ?_
     clear hK K
     try simp only [Act.put, List.setIfInBounds_toArray, List.set_cons_zero, List.set_cons_succ]
     refine wpAnyU_take (i := 21) (v := ?v21) rfl (by kernel_rfl) (by kernel_rfl) (by kernel_rfl) (by kernel_rfl) (by kernel_rfl) (fun _ _ _ h => h) (Or.inl ⟨by rfl, ?hy21⟩) CB ?rest21
     case hy21 => ((intro wx hSw; (try dsimp only at hSw); go_simp) <;> (with_reducible rfl))
     try simp only [Act.put, List.setIfInBounds_toArray, List.set_cons_zero, List.set_cons_succ]
     refine wpAnyU_one (i := 22) (by kernel_rfl) rfl (fun K hK => ?_)
     go_simp
     refine (HL02.out _ _ _ rfl rfl).mono ?_
     rintro e wn22 ⟨rfl, tn⟩
     replace TN := TN.trans tn
     replace hBn := hBn.keep tn (fun e => e)
     replace CB := hBn.cs.1
     clear tn
     go_wp2_with fail
     refine hK.out _ _ (fun _ => CB) ?_
     clear hK K
     try simp only [Act.put, List.setIfInBounds_toArray, List.set_cons_zero, List.set_cons_succ]
     refine wpAnyU_take (i := 23) (v := ?v23) rfl (by kernel_rfl) (by kernel_rfl) (by kernel_rfl) (by kernel_rfl) (by kernel_rfl) (fun _ _ _ h => h) (Or.inl ⟨by rfl, ?hy23⟩) CB ?rest23
     case hy23 => ((intro wx hSw; (try dsimp only at hSw); go_simp) <;> (with_reducible rfl))
     try simp only [Act.put, List.setIfInBounds_toArray, List.set_cons_zero, List.set_cons_succ]
     refine wpAnyU_take (i := 24) (v := ?v24) rfl (by kernel_rfl) (by kernel_rfl) (by kernel_rfl) (by kernel_rfl) (by kernel_rfl) (fun _ _ _ h => h) (Or.inl ⟨by rfl, ?hy24⟩) CB ?rest24
     case hy24 => ((intro wx hSw; (try dsimp only at hSw); go_simp) <;> (with_reducible rfl))
     try simp only [Act.put, List.setIfInBounds_toArray, List.set_cons_zero, List.set_cons_succ]
     have y0 := hBn.fr 0
     refine wpAnyU_one (i := 25) (by kernel_rfl) rfl (fun K hK => ?_)
     go_simp
     refine hK.out _ _ (fun h => absurd rfl h) ?_
     clear hK K
     try simp only [Act.put, List.setIfInBounds_toArray, List.set_cons_zero, List.set_cons_succ]
     refine wpAnyU_done (by kernel_rfl) ?_ _
     go_wp2_with fail
     go_meet
     case rel => exact ⟨hBn.set0 _, (hZ.keep TN (fun e => e)).keep (touch_box _ _ _ _) (by show ¬ w.heap.size = w.heap.size + 1; omega), owns_set (TN.owns hro (fun _ _ e => e)) _, (T.trans TN).setNew (by show w.heap.size ≤ w.heap.size + 1; omega) _⟩
    case rest =>
     obtain ⟨hB5, hZ5, hro5, T5⟩ := hcut
     rw [← hFIN] at hB5
     clear hB hZ hro T hFIN HL02 HL04 HLNN HLZ HLA b0 b1 b2 b3 b4
     obtain ⟨b0, b1, b2, b3, b4⟩ := hB5.cs
     obtain ⟨z0, z1, z2, z3, z4⟩ := hZ5.cs
     have f0 := hZ5.fr 0
     have f1 := hZ5.fr 1
     have f2 := hZ5.fr 2
     have f3 := hZ5.fr 3
     have f4 := hZ5.fr 4
     go_wp2_with fail
     clear f0 f1 f2 f3 f4 b0 b1 b2 b3 b4
     have U := ((((hZ5.set0 FIN).set1 (.slice va n vc)).set2 NS (NS : Int) rfl).set3 BS (BS : Int) rfl).set4 n (n : Int) rfl
     obtain ⟨g0, g1, g2, g3, g4⟩ := U.cs
     obtain ⟨e1, e2, e3, e4⟩ := HEQ.out
     have o0 := (touch_box wc w.heap.size 0 (.string FIN)).owns hro5 (fun k hk e => by have := (hro5.lt k hk).1; omega)
     have o1 := (touch_box _ w.heap.size 1 (.slice va n vc)).owns o0 (fun k hk e => by have := (hro5.lt k hk).1; omega)
     have o2 := (touch_box _ w.heap.size 2 (.int .i64 (NS : Int))).owns o1 (fun k hk e => by have := (hro5.lt k hk).1; omega)
     have o3 := (touch_box _ w.heap.size 3 (.int .i64 (BS : Int))).owns o2 (fun k hk e => by have := (hro5.lt k hk).1; omega)
     have o4 := (touch_box _ w.heap.size 4 (.int .i64 (n : Int))).owns o3 (fun k hk e => by have := (hro5.lt k hk).1; omega)
     have t4 := ((((T5.setNew (p := ⟨w.heap.size, 0, none⟩) (Nat.le_refl _) (.string FIN)).setNew (p := ⟨w.heap.size, 1, none⟩) (Nat.le_refl _) (.slice va n vc)).setNew (p := ⟨w.heap.size, 2, none⟩) (Nat.le_refl _) (.int .i64 (NS : Int))).setNew (p := ⟨w.heap.size, 3, none⟩) (Nat.le_refl _) (.int .i64 (BS : Int))).setNew (p := ⟨w.heap.size, 4, none⟩) (Nat.le_refl _) (.int .i64 (n : Int))
     refine bodyPost_ret (v := .agg #[.string FIN, .slice va n vc, .int .i64 (NS : Int), .int .i64 (BS : Int), .int .i64 (n : Int)]) (by simp [results, Tryz.results6, go_sem, g0, g1, g2, g3, g4, z0, z1, z2, z3, z4]) rfl ⟨t4, .slice va n vc, ?_, ?_⟩
     ·rw [e1, e2, e3, e4]
     ·rw [← e4]; exact owns_le o4 (by omega)
   ·have i1 : (k : Int) < (len : Int) := by omega
    have i2 : ¬ (k : Int) < 10 := by omega
    go_upto_region 35 with fail
    go_cut [] from 182 to 206 (fun wc => BB wc (w.heap.size + 1) ((((((((A ++ DR) ++ ⟨#[80, 75, 5, 6]⟩) ++ L04) ++ LNN) ++ LNN) ++ LZ) ++ LA) ++ L02) (.slice va n vc) NS BS n ∧ BB wc w.heap.size ⟨#[]⟩ (.slice none 0 0) 0 0 0 ∧ wc.ownsRow (w.heap.size + 1 + 1) 39 2 (.slice va n vc) n (fileV (filsOf MS)) ∧ Touch (fun _ => False) w wc)
    case first =>
     have hBn := hB.keep (show Touch (fun _ => False) wo wo.drew from (Touch.refl _ _).drew) (fun e => e)
     have TN : Touch (fun _ => False) wo wo.drew := (Touch.refl _ _).drew
     have CB := hBn.cs.1
     clear b0 b1 b2 b3 b4
     refine wp_region_until (fun X => X.cell? ⟨w.heap.size + 1, 0, none⟩ = some (.string A)) 25 (by kernel_rfl) ?_
     refine wpAnyU_take (i := 0) (v := ?vb0) rfl (by kernel_rfl) (by kernel_rfl) (by kernel_rfl) (by kernel_rfl) (by kernel_rfl) (fun _ _ _ h => h) (Or.inl ⟨by rfl, ?hyb0⟩) CB ?restb0
     case hyb0 => ((intro wx hSw; (try dsimp only at hSw); go_simp) <;> (with_reducible rfl))
     try simp only [Act.put, List.setIfInBounds_toArray, List.set_cons_zero, List.set_cons_succ]
     refine wpAnyU_take (i := 1) (v := ?vb1) rfl (by kernel_rfl) (by kernel_rfl) (by kernel_rfl) (by kernel_rfl) (by kernel_rfl) (fun _ _ _ h => h) (Or.inl ⟨by rfl, ?hyb1⟩) CB ?restb1
     case hyb1 => ((intro wx hSw; (try dsimp only at hSw); go_simp) <;> (with_reducible rfl))
     try simp only [Act.put, List.setIfInBounds_toArray, List.set_cons_zero, List.set_cons_succ]
     refine wpAnyU_take (i := 2) (v := ?vb2) rfl (by kernel_rfl) (by kernel_rfl) (by kernel_rfl) (by kernel_rfl) (by kernel_rfl) (fun _ _ _ h => h) (Or.inl ⟨by rfl, ?hyb2⟩) CB ?restb2
     case hyb2 => ((intro wx hSw; (try dsimp only at hSw); go_simp) <;> (with_reducible rfl))
     try simp only [Act.put, List.setIfInBounds_toArray, List.set_cons_zero, List.set_cons_succ]
     refine wpAnyU_take (i := 3) (v := ?vb3) rfl (by kernel_rfl) (by kernel_rfl) (by kernel_rfl) (by kernel_rfl) (by kernel_rfl) (fun _ _ _ h => h) (Or.inl ⟨by rfl, ?hyb3⟩) CB ?restb3
     case hyb3 => ((intro wx hSw; (try dsimp only at hSw); go_simp) <;> (with_reducible rfl))
     try simp only [Act.put, List.setIfInBounds_toArray, List.set_cons_zero, List.set_cons_succ]
     refine wpAnyU_take (i := 4) (v := ?vb4) rfl (by kernel_rfl) (by kernel_rfl) (by kernel_rfl) (by kernel_rfl) (by kernel_rfl) (fun _ _ _ h => h) (Or.inl ⟨by rfl, ?hyb4⟩) CB ?restb4
     case hyb4 => ((intro wx hSw; (try dsimp only at hSw); go_simp) <;> (with_reducible rfl))
     try simp only [Act.put, List.setIfInBounds_toArray, List.set_cons_zero, List.set_cons_succ]
     refine wpAnyU_take (i := 7) (v := ?vb7) rfl (by kernel_rfl) (by kernel_rfl) (by kernel_rfl) (by kernel_rfl) (by kernel_rfl) (fun _ _ _ h => h) (Or.inl ⟨by rfl, ?hyb7⟩) CB ?restb7
     case hyb7 => ((intro wx hSw; (try dsimp only at hSw); go_simp) <;> (with_reducible rfl))
     try simp only [Act.put, List.setIfInBounds_toArray, List.set_cons_zero, List.set_cons_succ]
     refine wpAnyU_take (i := 10) (v := ?vb10) rfl (by kernel_rfl) (by kernel_rfl) (by kernel_rfl) (by kernel_rfl) (by kernel_rfl) (fun _ _ _ h => h) (Or.inl ⟨by rfl, ?hyb10⟩) CB ?restb10
     case hyb10 => ((intro wx hSw; (try dsimp only at hSw); go_simp) <;> (with_reducible rfl))
     try simp only [Act.put, List.setIfInBounds_toArray, List.set_cons_zero, List.set_cons_succ]
     refine wpAnyU_take (i := 13) (v := ?vb13) rfl (by kernel_rfl) (by kernel_rfl) (by kernel_rfl) (by kernel_rfl) (by kernel_rfl) (fun _ _ _ h => h) (Or.inl ⟨by rfl, ?hyb13⟩) CB ?restb13
     case hyb13 => ((intro wx hSw; (try dsimp only at hSw); go_simp) <;> (with_reducible rfl))
     try simp only [Act.put, List.setIfInBounds_toArray, List.set_cons_zero, List.set_cons_succ]
     refine wpAnyU_take (i := 14) (v := ?vb14) rfl (by kernel_rfl) (by kernel_rfl) (by kernel_rfl) (by kernel_rfl) (by kernel_rfl) (fun _ _ _ h => h) (Or.inl ⟨by rfl, ?hyb14⟩) CB ?restb14
     case hyb14 => ((intro wx hSw; (try dsimp only at hSw); go_simp) <;> (with_reducible rfl))
     try simp only [Act.put, List.setIfInBounds_toArray, List.set_cons_zero, List.set_cons_succ]
     refine wpAnyU_take (i := 17) (v := ?vb17) rfl (by kernel_rfl) (by kernel_rfl) (by kernel_rfl) (by kernel_rfl) (by kernel_rfl) (fun _ _ _ h => h) (Or.inl ⟨by rfl, ?hyb17⟩) CB ?restb17
     case hyb17 => ((intro wx hSw; (try dsimp only at hSw); go_simp) <;> (with_reducible rfl))
     try simp only [Act.put, List.setIfInBounds_toArray, List.set_cons_zero, List.set_cons_succ]
     refine wpAnyU_take (i := 18) (v := ?vb18) rfl (by kernel_rfl) (by kernel_rfl) (by kernel_rfl) (by kernel_rfl) (by kernel_rfl) (fun _ _ _ h => h) (Or.inl ⟨by rfl, ?hyb18⟩) CB ?restb18
     case hyb18 => ((intro wx hSw; (try dsimp only at hSw); go_simp) <;> (with_reducible rfl))
     try simp only [Act.put, List.setIfInBounds_toArray, List.set_cons_zero, List.set_cons_succ]
     refine wpAnyU_take (i := 19) (v := ?vb19) rfl (by kernel_rfl) (by kernel_rfl) (by kernel_rfl) (by kernel_rfl) (by kernel_rfl) (fun _ _ _ h => h) (Or.inl ⟨by rfl, ?hyb19⟩) CB ?restb19
     case hyb19 => ((intro wx hSw; (try dsimp only at hSw); go_simp) <;> (with_reducible rfl))
     try simp only [Act.put, List.setIfInBounds_toArray, List.set_cons_zero, List.set_cons_succ]
     refine wpAnyU_one (i := 5) (by kernel_rfl) rfl (fun K hK => ?_)
     go_simp
     refine (HL04.out _ _ _ rfl rfl).mono ?_
     rintro e wn5 ⟨rfl, tn⟩
     replace TN := TN.trans tn
     replace hBn := hBn.keep tn (fun e => e)
     replace CB := hBn.cs.1
     clear tn
     go_wp2_with fail
     refine hK.out _ _ (fun _ => CB) ?_
     clear hK K
     try simp only [Act.put, List.setIfInBounds_toArray, List.set_cons_zero, List.set_cons_succ]
     refine wpAnyU_take (i := 6) (v := ?vb6) rfl (by kernel_rfl) (by kernel_rfl) (by kernel_rfl) (by kernel_rfl) (by kernel_rfl) (fun _ _ _ h => h) (Or.inl ⟨by rfl, ?hyb6⟩) CB ?restb6
     case hyb6 => ((intro wx hSw; (try dsimp only at hSw); go_simp) <;> (with_reducible rfl))
     try simp only [Act.put, List.setIfInBounds_toArray, List.set_cons_zero, List.set_cons_succ]
     refine wpAnyU_one (i := 8) (by kernel_rfl) rfl (fun K hK => ?_)
     go_simp
     refine (HLNN.out _ _ _ rfl rfl).mono ?_
     rintro e wn8 ⟨rfl, tn⟩
     replace TN := TN.trans tn
     replace hBn := hBn.keep tn (fun e => e)
     replace CB := hBn.cs.1
     clear tn
     go_wp2_with fail
     refine hK.out _ _ (fun _ => CB) ?_
     clear hK K
     try simp only [Act.put, List.setIfInBounds_toArray, List.set_cons_zero, List.set_cons_succ]
     refine wpAnyU_take (i := 9) (v := ?vb9) rfl (by kernel_rfl) (by kernel_rfl) (by kernel_rfl) (by kernel_rfl) (by kernel_rfl) (fun _ _ _ h => h) (Or.inl ⟨by rfl, ?hyb9⟩) CB ?restb9
     case hyb9 => ((intro wx hSw; (try dsimp only at hSw); go_simp) <;> (with_reducible rfl))
     try simp only [Act.put, List.setIfInBounds_toArray, List.set_cons_zero, List.set_cons_succ]
     refine wpAnyU_one (i := 11) (by kernel_rfl) rfl (fun K hK => ?_)
     go_simp
     refine (HLNN.out _ _ _ rfl rfl).mono ?_
     rintro e wn11 ⟨rfl, tn⟩
     replace TN := TN.trans tn
     replace hBn := hBn.keep tn (fun e => e)
     replace CB := hBn.cs.1
     clear tn
     go_wp2_with fail
     refine hK.out _ _ (fun _ => CB) ?_
     clear hK K
     try simp only [Act.put, List.setIfInBounds_toArray, List.set_cons_zero, List.set_cons_succ]
     refine wpAnyU_take (i := 12) (v := ?vb12) rfl (by kernel_rfl) (by kernel_rfl) (by kernel_rfl) (by kernel_rfl) (by kernel_rfl) (fun _ _ _ h => h) (Or.inl ⟨by rfl, ?hyb12⟩) CB ?restb12
     case hyb12 => ((intro wx hSw; (try dsimp only at hSw); go_simp) <;> (with_reducible rfl))
     try simp only [Act.put, List.setIfInBounds_toArray, List.set_cons_zero, List.set_cons_succ]
     refine wpAnyU_one (i := 15) (by kernel_rfl) rfl (fun K hK => ?_)
     go_simp
     refine (HLZ.out _ _ _ rfl rfl).mono ?_
     rintro e wn15 ⟨rfl, tn⟩
     replace TN := TN.trans tn
     replace hBn := hBn.keep tn (fun e => e)
     replace CB := hBn.cs.1
     clear tn
     go_wp2_with fail
     refine hK.out _ _ (fun _ => CB) ?_
     clear hK K
     try simp only [Act.put, List.setIfInBounds_toArray, List.set_cons_zero, List.set_cons_succ]
     refine wpAnyU_take (i := 16) (v := ?vb16) rfl (by kernel_rfl) (by kernel_rfl) (by kernel_rfl) (by kernel_rfl) (by kernel_rfl) (fun _ _ _ h => h) (Or.inl ⟨by rfl, ?hyb16⟩) CB ?restb16
     case hyb16 => ((intro wx hSw; (try dsimp only at hSw); go_simp) <;> (with_reducible rfl))
     try simp only [Act.put, List.setIfInBounds_toArray, List.set_cons_zero, List.set_cons_succ]
     refine wpAnyU_one (i := 20) (by kernel_rfl) rfl (fun K hK => ?_)
     go_simp
     refine (HLA.out _ _ _ rfl rfl).mono ?_
     rintro e wn20 ⟨rfl, tn⟩
     replace TN := TN.trans tn
     replace hBn := hBn.keep tn (fun e => e)
     replace CB := hBn.cs.1
     clear tn
     go_wp2_with fail
     refine hK.out _ _ (fun _ => CB) ?_
     clear hK K
     try simp only [Act.put, List.setIfInBounds_toArray, List.set_cons_zero, List.set_cons_succ]
     refine wpAnyU_take (i := 21) (v := ?vb21) rfl (by kernel_rfl) (by kernel_rfl) (by kernel_rfl) (by kernel_rfl) (by kernel_rfl) (fun _ _ _ h => h) (Or.inl ⟨by rfl, ?hyb21⟩) CB ?restb21
     case hyb21 => ((intro wx hSw; (try dsimp only at hSw); go_simp) <;> (with_reducible rfl))
     try simp only [Act.put, List.setIfInBounds_toArray, List.set_cons_zero, List.set_cons_succ]
     refine wpAnyU_one (i := 22) (by kernel_rfl) rfl (fun K hK => ?_)
     go_simp
     refine (HL02.out _ _ _ rfl rfl).mono ?_
     rintro e wn22 ⟨rfl, tn⟩
     replace TN := TN.trans tn
     replace hBn := hBn.keep tn (fun e => e)
     replace CB := hBn.cs.1
     clear tn
     go_wp2_with fail
     refine hK.out _ _ (fun _ => CB) ?_
     clear hK K
     try simp only [Act.put, List.setIfInBounds_toArray, List.set_cons_zero, List.set_cons_succ]
     refine wpAnyU_take (i := 23) (v := ?vb23) rfl (by kernel_rfl) (by kernel_rfl) (by kernel_rfl) (by kernel_rfl) (by kernel_rfl) (fun _ _ _ h => h) (Or.inl ⟨by rfl, ?hyb23⟩) CB ?restb23
     case hyb23 => ((intro wx hSw; (try dsimp only at hSw); go_simp) <;> (with_reducible rfl))
     try simp only [Act.put, List.setIfInBounds_toArray, List.set_cons_zero, List.set_cons_succ]
     refine wpAnyU_take (i := 24) (v := ?vb24) rfl (by kernel_rfl) (by kernel_rfl) (by kernel_rfl) (by kernel_rfl) (by kernel_rfl) (fun _ _ _ h => h) (Or.inl ⟨by rfl, ?hyb24⟩) CB ?restb24
     case hyb24 => ((intro wx hSw; (try dsimp only at hSw); go_simp) <;> (with_reducible rfl))
     try simp only [Act.put, List.setIfInBounds_toArray, List.set_cons_zero, List.set_cons_succ]
     have y0 := hBn.fr 0
     refine wpAnyU_one (i := 25) (by kernel_rfl) rfl (fun K hK => ?_)
     go_simp
     refine hK.out _ _ (fun h => absurd rfl h) ?_
     clear hK K
     try simp only [Act.put, List.setIfInBounds_toArray, List.set_cons_zero, List.set_cons_succ]
     refine wpAnyU_done (by kernel_rfl) ?_ _
     go_wp2_with fail
     go_meet
     case rel => exact ⟨hBn.set0 _, (hZ.keep TN (fun e => e)).keep (touch_box _ _ _ _) (by show ¬ w.heap.size = w.heap.size + 1; omega), owns_set (TN.owns hro (fun _ _ e => e)) _, (T.trans TN).setNew (by show w.heap.size ≤ w.heap.size + 1; omega) _⟩
    case rest =>
     obtain ⟨hB5, hZ5, hro5, T5⟩ := hcut
     rw [← hFIN] at hB5
     clear hB hZ hro T hFIN HL02 HL04 HLNN HLZ HLA b0 b1 b2 b3 b4
     obtain ⟨b0, b1, b2, b3, b4⟩ := hB5.cs
     obtain ⟨z0, z1, z2, z3, z4⟩ := hZ5.cs
     have f0 := hZ5.fr 0
     have f1 := hZ5.fr 1
     have f2 := hZ5.fr 2
     have f3 := hZ5.fr 3
     have f4 := hZ5.fr 4
     go_wp2_with fail
     clear f0 f1 f2 f3 f4 b0 b1 b2 b3 b4
     have U := ((((hZ5.set0 FIN).set1 (.slice va n vc)).set2 NS (NS : Int) rfl).set3 BS (BS : Int) rfl).set4 n (n : Int) rfl
     obtain ⟨g0, g1, g2, g3, g4⟩ := U.cs
     obtain ⟨e1, e2, e3, e4⟩ := HEQ.out
     have o0 := (touch_box wc w.heap.size 0 (.string FIN)).owns hro5 (fun k hk e => by have := (hro5.lt k hk).1; omega)
     have o1 := (touch_box _ w.heap.size 1 (.slice va n vc)).owns o0 (fun k hk e => by have := (hro5.lt k hk).1; omega)
     have o2 := (touch_box _ w.heap.size 2 (.int .i64 (NS : Int))).owns o1 (fun k hk e => by have := (hro5.lt k hk).1; omega)
     have o3 := (touch_box _ w.heap.size 3 (.int .i64 (BS : Int))).owns o2 (fun k hk e => by have := (hro5.lt k hk).1; omega)
     have o4 := (touch_box _ w.heap.size 4 (.int .i64 (n : Int))).owns o3 (fun k hk e => by have := (hro5.lt k hk).1; omega)
     have t4 := ((((T5.setNew (p := ⟨w.heap.size, 0, none⟩) (Nat.le_refl _) (.string FIN)).setNew (p := ⟨w.heap.size, 1, none⟩) (Nat.le_refl _) (.slice va n vc)).setNew (p := ⟨w.heap.size, 2, none⟩) (Nat.le_refl _) (.int .i64 (NS : Int))).setNew (p := ⟨w.heap.size, 3, none⟩) (Nat.le_refl _) (.int .i64 (BS : Int))).setNew (p := ⟨w.heap.size, 4, none⟩) (Nat.le_refl _) (.int .i64 (n : Int))
     refine bodyPost_ret (v := .agg #[.string FIN, .slice va n vc, .int .i64 (NS : Int), .int .i64 (BS : Int), .int .i64 (n : Int)]) (by simp [results, Tryz.results6, go_sem, g0, g1, g2, g3, g4, z0, z1, z2, z3, z4]) rfl ⟨t4, .slice va n vc, ?_, ?_⟩
     ·rw [e1, e2, e3, e4]
     ·rw [← e4]; exact owns_le o4 (by omega)
end Go.Proofs.YtnmkmmgaoplfiaaGreatDoor
