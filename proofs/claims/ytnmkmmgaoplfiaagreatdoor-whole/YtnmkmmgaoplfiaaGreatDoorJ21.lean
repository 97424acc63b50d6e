/- Texts of this seat, joined. -/
import Derived.Test.YtnmkmmgaoplfiaaGreatDoorJ20
import Derived.Test.YtnmkmmgaoplfiaaGreatDoorJ06
import Derived.Test.YtnmkmmgaoplfiaaGreatDoorJ13
import Derived.Deep.AppendSrc
import Derived.Shelf.SlSortCmp.NoneTotal
set_option linter.unusedSimpArgs false
set_option linter.unusedVariables false
set_option maxRecDepth 100000
set_option maxHeartbeats 20000000
namespace Go.Proofs.YtnmkmmgaoplfiaaGreatDoor
open Go.RowKit Go.Shelf Go.Maps
def SetIs (w : World) (B n : Nat) (K : List (List UInt8)) : Prop :=
 ∃ D : DataW Unit, w.ownsMap Tryz.prog 9 (unitElem (H := Unit)) B n D ∧ ∀ key, Maps.has D (.string key) = K.contains key
theorem zeroUnit (w : World) : (zeroValue 91).run Tryz.prog w = .ok (.agg #[]) w := by kernel_rfl
theorem SetIs.look {w : World} {B n : Nat} {K : List (List UInt8)} (h : SetIs w B n K) (s : ByteArray) (hs : s.size ≤ maxLen) :
  (Instr.lookup 137 (.map (some B)) (.string s) true).run Tryz.prog w = .ok (.tuple #[.agg #[], .bool (K.contains s.data.toList)]) w := by
 obtain ⟨D, ho, hU⟩ := h
 obtain ⟨v, ps, hrun, hv⟩ := ho.look_ok (string_keyed Tryz.underlying9) Tryz.underlying137 (zeroUnit w) unitElem_mk (Go.WideMaps.keyOf_string_mk Tryz.underlying9 hs)
 obtain ⟨rfl, _⟩ := unitElem_inv hv
 rw [hU] at hrun
 exact hrun
theorem SetIs.put {w : World} {B n : Nat} {K : List (List UInt8)} (h : SetIs w B n K) (s : ByteArray) (hs : s.size ≤ maxLen) (hn : n < maxLen) :
  ∃ w', (Instr.mapUpdate 137 (.map (some B)) (.string s) (.agg #[])).run Tryz.prog w = .ok () w' ∧ SetIs w' B (n + 1) (K ++ [s.data.toList]) ∧ w.grownBy w' (some B) := by
 obtain ⟨D, ho, hU⟩ := h
 have hkey := Go.WideMaps.keyOf_string_mk Tryz.underlying9 hs
 obtain ⟨w', hrun, ho', hg⟩ := ho.update (string_keyed Tryz.underlying9) Tryz.underlying137 hn hkey unitElem_mk
 refine ⟨w', hrun, ⟨_, ho', fun key => ?_⟩, hg⟩
 by_cases e : key = s.data.toList
 ·rw [e, has_put_same ho.isMap ((string_keyed Tryz.underlying9).key hkey)]; simp
 ·rw [has_put_other (by intro h; cases h; exact e rfl), hU key]
  simp [e]
theorem SetIs.keep {w w' : World} {S : Nat → Prop} {B n : Nat} {K : List (List UInt8)} (h : SetIs w B n K) (ht : Touch S w w') (hs : ¬ S B) : SetIs w' B n K := by
 obtain ⟨D, ho, hU⟩ := h
 refine ⟨D, ?_, hU⟩
 have hl := ho.lt
 obtain ⟨es, clock, h1, h2⟩ := ho
 exact ⟨es, clock, (ht.block B hl hs).trans h1, h2⟩
theorem SetIs.mono {w : World} {B n m : Nat} {K : List (List UInt8)} (h : SetIs w B n K) (hm : n ≤ m) : SetIs w B m K := by
 obtain ⟨D, ho, hU⟩ := h; exact ⟨D, ho.mono hm, hU⟩
theorem SetIs.new (w : World) : SetIs (w.alloc (.map #[] 0)) w.heap.size 0 [] := ⟨_, World.ownsMap_made w _ _ _, fun _ => rfl⟩
theorem SetIs.lt {w : World} {B n : Nat} {K : List (List UInt8)} (h : SetIs w B n K) : B < w.heap.size := by obtain ⟨D, ho, _⟩ := h; exact ho.lt
def foldIn (nm : List UInt8) : Nat → Nat → List (List UInt8) → List (List UInt8)
 | 0, _, acc => acc
 | f + 1, i, acc => foldIn nm f (i + 1) (if nm[i]? = some 47 ∧ acc.contains (nm.take (i + 1)) = false then acc ++ [nm.take (i + 1)] else acc)
def foldAll : List Spanned → List (List UInt8) → List (List UInt8)
 | [], acc => acc
 | x :: l, acc => foldAll l (foldIn x.ent.name.data.toList x.ent.name.size 0 acc)
def folOf (p : List UInt8) : ByteArray × List UInt8 := (⟨p.toArray⟩, [])
theorem foldersOf_c (w : World) (a : Option Addr) (g cap : Nat) (L : List Spanned) (ha : 0 < L.length → a = some ⟨g, 0, none⟩) (hl : 0 < L.length → EntsAt w g L) (hn : L.length ≤ 1000000000) (hok : ∀ x ∈ L, x.ent.name.size ≤ 60) :
  Calls Tryz.prog 34 #[.slice a L.length cap] w fun r w' => ∃ v, r = .returned v ∧ w'.ownsRow (w.heap.size + 1) 39 2 v (foldAll L []).length (fileV ((foldAll L []).map folOf)) ∧ (foldAll L []).length ≤ 60 * L.length ∧ Touch (fun _ => False) w w' := by
 obtain ⟨i0, hi, hz0, hz1, hz2⟩ := info_parts Tryz.infoFile
 obtain ⟨n, hN⟩ : ∃ n, n = L.length := ⟨_, rfl⟩
 rw [← hN]
 have ha' : Hid (0 < L.length → a = some ⟨g, 0, none⟩) := ha
 have hl' : Hid (0 < L.length → EntsAt w g L) := hl
 have hN' : Hid (n = L.length) := hN
 have hn' : n ≤ 1000000000 := by omega
 obtain ⟨R, hR⟩ : ∃ R, R = foldAll L [] := ⟨_, rfl⟩
 have HR : Hid (R = foldAll (L.drop 0) []) := hR
 rw [← hR]
 have hmm := @run_makeMap Tryz.prog
 have T0 : Touch (fun _ => False) w (w.alloc (.map #[] 0)) := (Touch.refl _ w).alloc _
 have M0 := SetIs.new w
 clear ha hl hN hn hR
 go_enter Tryz.func34, Tryz.ntmps34
 go_wp2
 go_loopw [3, 14] (fun v i wr => ∃ (k : Nat) (acc : List (List UInt8)), k ≤ n ∧ acc.length ≤ 60 * k ∧ i = .int .i64 (k : Int) ∧ SetIs wr w.heap.size (60 * k) acc ∧ wr.ownsRow (w.heap.size + 1) 39 2 v acc.length (fileV (acc.map folOf)) ∧ Hid (R = foldAll (L.drop k) acc) ∧ Touch (fun _ => False) w wr) (fun v i wr => n - (intOf i).toNat)
 case atStart => exact ⟨0, [], Nat.zero_le _, Nat.zero_le _, rfl, M0, World.ownsRow_nil _ _ _ _, HR, T0⟩
 case round =>
  obtain ⟨k, acc, hk, hacc, rfl, hset, hro, HK, ht⟩ := hrel
  have hsB := hset.lt
  by_cases hlt : k < n
  ·have hlt' : k < L.length := by have := hN'.out; omega
   obtain rfl := ha'.out (by omega)
   have hE := (hl'.out (by omega)).keep ht (fun e => e)
   have hC := hE.cells k hlt'
   have HX : Hid (R = foldAll (L.drop (k + 1)) (foldIn L[k].ent.name.data.toList L[k].ent.name.size 0 acc)) := by
    unfold Hid; rw [HK.out, List.drop_eq_getElem_cons hlt']; rfl
   have hns := hok L[k] (List.getElem_mem hlt')
   revert hC HX hns
   generalize L[k] = x
   intro hC HX hns
   have c0 := hC 0 (by omega)
   have c1 := hC 1 (by omega)
   have c2 := hC 2 (by omega)
   have c3 := hC 3 (by omega)
   have c4 := hC 4 (by omega)
   have c5 := hC 5 (by omega)
   simp only [entL, List.getElem?_cons_zero, List.getElem?_cons_succ, Nat.add_zero] at c0 c1 c2 c3 c4 c5
   have bx := heap_alloc_new wr (Obj.cells #[.string x.ent.name, .int .i64 (x.ent.method : Int), .int .u32 (x.ent.sum : Int), .int .i64 (x.ent.packed : Int), .int .i64 (x.ent.size : Int), .int .i64 (x.place : Int)] 44)
   have hset1 := hset.keep ((Touch.refl (fun _ => False) wr).alloc (Obj.cells #[.string x.ent.name, .int .i64 (x.ent.method : Int), .int .u32 (x.ent.sum : Int), .int .i64 (x.ent.packed : Int), .int .i64 (x.ent.size : Int), .int .i64 (x.place : Int)] 44)) (fun e => e)
   have hro1 := hro.alloc (Obj.cells #[.string x.ent.name, .int .i64 (x.ent.method : Int), .int .u32 (x.ent.sum : Int), .int .i64 (x.ent.packed : Int), .int .i64 (x.ent.size : Int), .int .i64 (x.place : Int)] 44)
   have ht1 := ht.alloc (Obj.cells #[.string x.ent.name, .int .i64 (x.ent.method : Int), .int .u32 (x.ent.sum : Int), .int .i64 (x.ent.packed : Int), .int .i64 (x.ent.size : Int), .int .i64 (x.place : Int)] 44)
   obtain ⟨nl, hnl⟩ : ∃ nl, nl = x.ent.name.data.toList := ⟨_, rfl⟩
   have HT : Hid (∀ i, (x.ent.name.extract 0 i).data.toList = nl.take i) := by intro i; rw [hnl]; simp [ByteArray.data_extract]
   have HG : Hid (∀ i (h : i < x.ent.name.size), nl[i]? = some x.ent.name[i]) := by intro i h; rw [hnl]; simp [h]; rfl
   rw [← hnl] at HX
   have hEB : w.heap.size < wr.heap.size := hsB
   clear hC hlt' hE hnl HK
   go_wp2
   go_loopw [3, 21] (fun v i wi => ∃ (j : Nat) (ac : List (List UInt8)), j ≤ x.ent.name.size ∧ ac.length ≤ 60 * k + j ∧ i = .int .i64 (j : Int) ∧ SetIs wi w.heap.size (60 * k + j) ac ∧ wi.ownsRow (w.heap.size + 1) 39 2 v ac.length (fileV (ac.map folOf)) ∧ wi.heap[wr.heap.size]? = some (Obj.cells #[.string x.ent.name, .int .i64 (x.ent.method : Int), .int .u32 (x.ent.sum : Int), .int .i64 (x.ent.packed : Int), .int .i64 (x.ent.size : Int), .int .i64 (x.place : Int)] 44) ∧ Hid (foldIn nl x.ent.name.size 0 acc = foldIn nl (x.ent.name.size - j) j ac) ∧ Touch (fun _ => False) w wi) (fun v i wi => x.ent.name.size - (intOf i).toNat)
   case atStart => exact ⟨0, acc, Nat.zero_le _, hacc, rfl, hset1, hro1, bx, rfl, ht1⟩
   case round =>
    obtain ⟨j, ac, hj, hac, rfl, hset2, hro2, bx2, HJ, ht2⟩ := hrel
    have nc := row_cell bx2 0
    have nc' : wr.cell? ⟨_, 0, none⟩ = some (.string x.ent.name) := nc.trans rfl
    have hEl := (Array.getElem?_eq_some_iff.1 bx2).1
    clear nc hset1 hro1 bx ht1 hset hro ht c0 c1 c2 c3 c4 c5 hsB
    have hsB := hset2.lt
    by_cases hjl : j < x.ent.name.size
    ·have hg := HG.out j hjl
     have HS : Hid (foldIn nl x.ent.name.size 0 acc = foldIn nl (x.ent.name.size - (j + 1)) (j + 1) (if nl[j]? = some 47 ∧ ac.contains (nl.take (j + 1)) = false then ac ++ [nl.take (j + 1)] else ac)) := by
      unfold Hid; rw [HJ.out, show x.ent.name.size - j = (x.ent.name.size - (j + 1)) + 1 by omega]; rfl
     by_cases h47 : (x.ent.name[j].toNat : Int) = 47
     ·have hb : nl[j]? = some 47 := by rw [hg]; congr 1; apply UInt8.toNat_inj.1; simpa using (by omega : x.ent.name[j].toNat = 47)
      have h47' : ((x.ent.name[j].toNat : Int) != 47) = false := by simpa using h47
      have jl : (j : Int) + 1 ≤ (x.ent.name.size : Int) := by omega
      have q1 := hset2.look (x.ent.name.extract 0 (j + 1)) (by rw [ByteArray.size_extract]; unfold maxLen; omega)
      rw [HT.out (j + 1)] at q1
      cases hcn : ac.contains (nl.take (j + 1)) with
      | true =>
       rw [hcn] at q1 HS
       rw [if_neg (by simp)] at HS
       clear hg HJ
       go_wp2
       exact ⟨⟨j + 1, ac, by omega, by omega, by go_num, (hset2.mono (by omega)).keep ((Touch.refl (fun _ => False) wr).alloc _) (fun e => e), hro2.alloc _, (Below.heap_alloc _ _ _ hEl).trans bx2, HS, ht2.alloc _⟩, by simp [intOf]; omega⟩
      | false =>
       rw [hcn] at q1 HS
       rw [if_pos ⟨hb, rfl⟩] at HS
       have hset3 := hset2.keep ((Touch.refl (fun _ => False) wr).alloc (Obj.cells #[] 91)) (fun e => e)
       obtain ⟨w2, q2, hset4, hg2⟩ := hset3.put (x.ent.name.extract 0 (j + 1)) (by rw [ByteArray.size_extract]; unfold maxLen; omega) (by unfold maxLen; omega)
       rw [HT.out (j + 1)] at hset4
       have t2 := touch_grown hg2
       have hro3 := t2.owns (hro2.alloc (Obj.cells #[] 91)) (fun q hq e => by have h1 := (hro2.lt q hq).1; have h2 : q = w.heap.size := e; omega)
       have bx3 := (t2.block _ (by simp; omega) (by intro e; have h2 := (show _ = w.heap.size from e); omega)).trans ((Below.heap_alloc _ (Obj.cells #[] 91) _ hEl).trans bx2)
       have T2 : Touch (fun _ => False) w w2 := (ht2.alloc _).onNew t2 (Nat.le_refl _)
       have hEl2 := (Array.getElem?_eq_some_iff.1 bx3).1
       have hsz2 : w.heap.size + 1 ≤ w2.heap.size := by have := hset4.lt; omega
       have b1 : ac.length + 1 ≤ maxLen := by unfold maxLen; omega
       have b2 : (ac.length + 1) * 32 ≤ 140737488355328 := by omega
       obtain ⟨P, hP⟩ : ∃ P, P = x.ent.name.extract 0 (j + 1) := ⟨_, rfl⟩
       have HFL : Hid ([Value.string P, Value.string ⟨#[]⟩] = fileL (folOf (nl.take (j + 1)))) := by
        unfold Hid; rw [hP]; unfold fileL folOf
        rw [← HT.out (j + 1)]
       have HPL : Hid (P = x.ent.name.extract 0 (j + 1)) := hP
       clear hg HJ hset3 hg2 t2 hP
       go_wp2_with (at_builtin; refine wpList_append_own _ rfl _ _ 24 rfl (w.heap.size + 1) 39 i0 (.agg #[.string ⟨#[]⟩, .string ⟨#[]⟩]) 2 32 Tryz.underlying24 hi hz0 hz1 hz2 rfl (by decide) _ _ _ rfl (hro3.alloc _) ⟨w2.heap.size, 0, none⟩ 1 1 [.string (x.ent.name.extract 0 (j + 1)), .string ⟨#[]⟩] rfl rfl (cell_two_new _ _ _ _) (by simp [Value.oneCell']) b1 b2 (by simp; omega) ?_; intro v' w3 hown' hgrow hnil)
       have hrowB : ∀ q, u3.ownBlock = some q → w.heap.size + 1 ≤ q := fun q hq => (hro2.lt q hq).1
       have TB : Touch (fun q => u3.ownBlock = some q) (w2.alloc (Obj.cells #[.string (x.ent.name.extract 0 (j + 1)), .string ⟨#[]⟩] 39)) w3 := (Touch.refl _ _).grown hgrow (fun q hq => hq)
       refine ⟨⟨j + 1, ac ++ [nl.take (j + 1)], by omega, by simp; omega, by go_num, ?_, ?_, ?_, HS, ?_⟩, by simp [intOf]; omega⟩
       ·refine (hset4.keep ((Touch.refl (fun _ => False) w2).alloc _) (fun e => e)).keep TB (fun e => ?_)
        have := hrowB _ e; omega
       ·rw [List.map_append, List.length_append]
        show w3.ownsRow _ _ _ v' _ (fileV (ac.map folOf ++ [folOf (nl.take (j + 1))]))
        rw [fileV_snoc, ← HFL.out, HPL.out]; exact hown'
       ·refine (TB.block _ (by simp; omega) (fun e => ?_)).trans ((Below.heap_alloc _ _ _ hEl2).trans bx3)
        have h1 := Typed.owned (hro3.alloc (Obj.cells #[.string (x.ent.name.extract 0 (j + 1)), .string ⟨#[]⟩] 39)) e
        have h2 := h1.ne ⟨_, _, (Below.heap_alloc _ _ _ hEl2).trans bx3⟩
        exact absurd h2 (by decide)
       ·exact (T2.alloc _).grownNew hgrow (fun q hq => by have := hrowB q hq; omega)
     ·have hb : ¬ nl[j]? = some 47 := by rw [hg]; intro e; apply h47; rw [Option.some.inj e]; rfl
      have h47' : ((x.ent.name[j].toNat : Int) != 47) = true := by simpa using h47
      rw [if_neg (by intro h; exact hb h.1)] at HS
      clear hg HJ
      go_wp2
      exact ⟨⟨j + 1, ac, by omega, by omega, by go_num, hset2.mono (by omega), hro2, bx2, HS, ht2⟩, by simp [intOf]; omega⟩
    ·obtain rfl : j = x.ent.name.size := by omega
     have HE : Hid (R = foldAll (L.drop (k + 1)) ac) := by unfold Hid; rw [HX.out, HJ.out, Nat.sub_self]; rfl
     go_wp2
     exact ⟨⟨k + 1, ac, by omega, by omega, by go_num, hset2.mono (by omega), hro2, HE, ht2⟩, by simp [intOf]; omega⟩
  ·obtain rfl : k = n := by omega
   have HE : Hid (R = acc) := by unfold Hid; rw [HK.out, List.drop_of_length_le (by have := hN'.out; omega)]; rfl
   go_wp2
   go_ret
   exact ⟨_, rfl, by rw [HE.out]; exact hro, by rw [HE.out]; exact hacc, ht⟩
end Go.Proofs.YtnmkmmgaoplfiaaGreatDoor
namespace Go.Proofs.YtnmkmmgaoplfiaaGreatDoor
open Go.RowKit Go.Shelf Go.Lib Go.Sort
def rk (c : UInt8) : Nat := if c = 47 then 0 else c.toNat
def cmpP : List UInt8 → List UInt8 → Int
 | a :: l, b :: m => if a = b then cmpP l m else Lib.compareInt (rk a : Int) (rk b : Int)
 | [], [] => 0
 | [], _ :: _ => -1
 | _ :: _, [] => 1
theorem nanB_c (w : World) (x : Int) : Calls Tryz.prog 111 #[.int .u8 x] w fun e w' => e = .returned (.bool false) ∧ w' = w := by
 go_enter Tryz.func111, Tryz.ntmps111
 go_wp2
 go_ret
 exact ⟨by simp, rfl⟩
theorem cmpB_c (w : World) (x y : Int) : Calls Tryz.prog 81 #[.int .u8 x, .int .u8 y] w fun e w' => e = .returned (.int .i64 (Lib.compareInt x y)) ∧ w' = w := by
 have HN : Hid (∀ W x, Calls Tryz.prog 111 #[.int .u8 x] W fun e w' => e = .returned (.bool false) ∧ W = w') := fun W x => (nanB_c W x).mono fun _ _ h => ⟨h.1, h.2.symm⟩
 unfold Lib.compareInt
 by_cases h1 : x < y
 ·rw [if_pos h1]
  go_enter Tryz.func81, Tryz.ntmps81
  go_wp2_with fail
  refine (HN.out _ _).mono ?_
  rintro e w' ⟨rfl, rfl⟩
  go_wp2_with fail
  refine (HN.out _ _).mono ?_
  rintro e w' ⟨rfl, rfl⟩
  go_wp2
  go_ret
  exact ⟨rfl, rfl⟩
 ·rw [if_neg h1]
  by_cases h2 : y < x
  ·rw [if_pos h2]
   go_enter Tryz.func81, Tryz.ntmps81
   go_wp2_with fail
   refine (HN.out _ _).mono ?_
   rintro e w' ⟨rfl, rfl⟩
   go_wp2_with fail
   refine (HN.out _ _).mono ?_
   rintro e w' ⟨rfl, rfl⟩
   go_wp2
   go_ret
   exact ⟨rfl, rfl⟩
  ·rw [if_neg h2]
   go_enter Tryz.func81, Tryz.ntmps81
   go_wp2_with fail
   refine (HN.out _ _).mono ?_
   rintro e w' ⟨rfl, rfl⟩
   go_wp2_with fail
   refine (HN.out _ _).mono ?_
   rintro e w' ⟨rfl, rfl⟩
   go_wp2
   go_ret
   exact ⟨rfl, rfl⟩
theorem rank_c (w : World) (c : UInt8) : Calls Tryz.prog 82 #[.int .u8 (c.toNat : Int)] w fun e w' => e = .returned (.int .u8 (rk c : Int)) ∧ w' = w := by
 by_cases h : (c.toNat : Int) = 47
 ·have hc : c = 47 := by apply UInt8.toNat_inj.1; simpa using (by omega : c.toNat = 47)
  have HR : Hid ((rk c : Int) = 0) := by unfold Hid rk; rw [if_pos hc]; rfl
  have h' : ((c.toNat : Int) == 47) = true := by simpa using h
  clear h hc
  go_enter Tryz.func82, Tryz.ntmps82
  go_wp2
  go_ret
  exact ⟨by rw [HR.out]; rfl, rfl⟩
 ·have hc : ¬ c = 47 := by intro e; apply h; rw [e]; rfl
  have HR : Hid ((rk c : Int) = (c.toNat : Int)) := by unfold Hid rk; rw [if_neg hc]
  have h' : ((c.toNat : Int) == 47) = false := by simpa using h
  clear h hc
  go_enter Tryz.func82, Tryz.ntmps82
  go_wp2
  go_ret
  exact ⟨by rw [HR.out]; rfl, rfl⟩
theorem cmp_sub (a b k : Nat) (h1 : k ≤ a) (h2 : k ≤ b) : Lib.compareInt ((a - k : Nat) : Int) ((b - k : Nat) : Int) = Lib.compareInt (a : Int) (b : Int) := by
 unfold Lib.compareInt
 repeat' split
 all_goals omega
theorem cmpP_len : ∀ (l m : List UInt8), l = [] ∨ m = [] → cmpP l m = Lib.compareInt (l.length : Int) (m.length : Int)
 | [], [], _ => by simp [cmpP, Lib.compareInt]
 | [], b :: m, _ => by simp only [cmpP, Lib.compareInt, List.length_nil, List.length_cons]; rw [if_pos (by omega)]
 | a :: l, [], _ => by simp only [cmpP, Lib.compareInt, List.length_nil, List.length_cons]; rw [if_neg (by omega), if_pos (by omega)]
 | a :: l, b :: m, h => by rcases h with h | h <;> cases h
theorem cmpP_step (A B : ByteArray) (i : Nat) (h1 : i < A.size) (h2 : i < B.size) : cmpP (A.data.toList.drop i) (B.data.toList.drop i) = if A[i] = B[i] then cmpP (A.data.toList.drop (i + 1)) (B.data.toList.drop (i + 1)) else Lib.compareInt (rk A[i] : Int) (rk B[i] : Int) := by
 rw [List.drop_eq_getElem_cons (by rw [← Lib.size_eq]; exact h1), List.drop_eq_getElem_cons (l := B.data.toList) (by rw [← Lib.size_eq]; exact h2)]
 rfl
theorem comparePaths_c (w : World) (A B : ByteArray) (hA : A.size ≤ 140737488355328) (hB : B.size ≤ 140737488355328) :
  Calls Tryz.prog 60 #[.string A, .string B] w fun e w' => e = .returned (.int .i64 (cmpP A.data.toList B.data.toList)) ∧ ∃ q, w' = w.drewN q := by
 obtain ⟨R, hR⟩ : ∃ R, R = cmpP A.data.toList B.data.toList := ⟨_, rfl⟩
 rw [← hR]
 have HR : Hid (R = cmpP (A.data.toList.drop 0) (B.data.toList.drop 0)) := hR
 have HCI : Hid (∀ W (x y : Int), Calls Tryz.prog 54 #[.int .i64 x, .int .i64 y] W fun e w' => e = .returned (.int .i64 (Lib.compareInt x y)) ∧ W = w') := fun W x y => cmpInt_c x y W
 have HRK : Hid (∀ W (c : UInt8), Calls Tryz.prog 82 #[.int .u8 (c.toNat : Int)] W fun e w' => e = .returned (.int .u8 (rk c : Int)) ∧ W = w') := fun W c => (rank_c W c).mono fun _ _ h => ⟨h.1, h.2.symm⟩
 have HCB : Hid (∀ W (x y : Int), Calls Tryz.prog 81 #[.int .u8 x, .int .u8 y] W fun e w' => e = .returned (.int .i64 (Lib.compareInt x y)) ∧ W = w') := fun W x y => (cmpB_c W x y).mono fun _ _ h => ⟨h.1, h.2.symm⟩
 obtain ⟨m, hm⟩ : ∃ m : Nat, (m : Int) = min (A.size : Int) (B.size : Int) := ⟨min A.size B.size, by omega⟩
 have hm1 : m ≤ A.size := by omega
 have hm2 : m ≤ B.size := by omega
 have hmm : min (A.size : Int) (B.size : Int) = (m : Int) := hm.symm
 have HM : Hid (m = min A.size B.size) := by unfold Hid; omega
 clear hR hm
 go_enter Tryz.func60, Tryz.ntmps60
 go_wp2
 go_loopw [11] (fun i wr => ∃ k : Nat, k ≤ m ∧ i = .int .i64 (k : Int) ∧ Hid (R = cmpP (A.data.toList.drop k) (B.data.toList.drop k)) ∧ ∃ q, wr = w.drewN q) (fun i wr => m - (intOf i).toNat)
 case atStart => exact ⟨0, Nat.zero_le _, rfl, HR, 0, rfl⟩
 case round =>
  obtain ⟨k, hk, rfl, HK, q, rfl⟩ := hrel
  by_cases hlt : k < m
  ·have a1 : k < A.size := by omega
   have a2 : k < B.size := by omega
   have y1 : (k : Int) < (A.size : Int) := by omega
   have y2 : (k : Int) < (B.size : Int) := by omega
   have y0 : (0 : Int) ≤ (k : Int) := by omega
   have HS : Hid (R = if A[k] = B[k] then cmpP (A.data.toList.drop (k + 1)) (B.data.toList.drop (k + 1)) else Lib.compareInt (rk A[k] : Int) (rk B[k] : Int)) := by
    unfold Hid; rw [HK.out, cmpP_step A B k a1 a2]
   by_cases he : (A[k].toNat : Int) = (B[k].toNat : Int)
   ·have he' : ((A[k].toNat : Int) != (B[k].toNat : Int)) = false := by simpa using he
    have HS' : Hid (R = cmpP (A.data.toList.drop (k + 1)) (B.data.toList.drop (k + 1))) := by
     unfold Hid; rw [HS.out, if_pos (UInt8.toNat_inj.1 (by omega))]
    clear he HS HK
    go_wp2
    go_quiet (fail)
    go_wp2
    exact ⟨⟨k + 1, by omega, by go_num, HS', _, rfl⟩, by simp [intOf]; omega⟩
   ·have he' : ((A[k].toNat : Int) != (B[k].toNat : Int)) = true := by simpa using he
    have HS' : Hid (R = Lib.compareInt (rk A[k] : Int) (rk B[k] : Int)) := by
     unfold Hid; rw [HS.out, if_neg (by intro e; apply he; rw [e])]
    clear he HS HK
    go_wp2
    go_quiet (fail)
    go_wp2
    go_region_held3 (fun _ => True) (trivial) (first | (go_at_call 82; refine (HRK.out _ _).mono ?_; rintro e w2 ⟨rfl, rfl⟩) | (go_at_call 81; refine (HCB.out _ _ _).mono ?_; rintro e w2 ⟨rfl, rfl⟩))
    all_goals
     go_wp2
     go_ret
     exact ⟨by rw [HS'.out]; rfl, _, rfl⟩
  ·obtain rfl : k = m := by omega
   have HE : Hid (R = Lib.compareInt (A.size : Int) (B.size : Int)) := by
    unfold Hid
    rw [HK.out, cmpP_len _ _ (by
     rcases (by have := HM.out; omega : k = A.size ∨ k = B.size) with h | h
     ·left; rw [h, Lib.size_eq]; simp
     ·right; rw [h, Lib.size_eq]; simp)]
    rw [List.length_drop, List.length_drop, ← Lib.size_eq, ← Lib.size_eq]
    exact cmp_sub _ _ _ hm1 hm2
   have y1 : ¬ (k : Int) < (k : Int) := by omega
   go_wp2_with fail
   refine (HCI.out _ _ _).mono ?_
   rintro e w' ⟨rfl, rfl⟩
   go_wp2
   go_ret
   exact ⟨by rw [HE.out]; rfl, _, rfl⟩
end Go.Proofs.YtnmkmmgaoplfiaaGreatDoor
namespace Go.Proofs.YtnmkmmgaoplfiaaGreatDoor
open Go.RowKit Go.Shelf Go.Lib Go.Sort
theorem compareInt_swap (x y : Int) : Lib.compareInt y x = - Lib.compareInt x y := by
 unfold Lib.compareInt
 repeat' split
 all_goals omega
theorem compareInt_neg (x y : Int) : Lib.compareInt x y < 0 ↔ x < y := by
 unfold Lib.compareInt
 repeat' split
 all_goals omega
theorem compareInt_zero (x y : Int) : Lib.compareInt x y = 0 ↔ x = y := by
 unfold Lib.compareInt
 repeat' split
 all_goals omega
def NoNul (l : List UInt8) : Prop := ∀ c ∈ l, c ≠ 0
theorem rk_inj {a b : UInt8} (ha : a ≠ 0) (hb : b ≠ 0) (h : rk a = rk b) : a = b := by
 have za : a.toNat ≠ 0 := fun e => ha (UInt8.toNat_inj.1 (by simpa using e))
 have zb : b.toNat ≠ 0 := fun e => hb (UInt8.toNat_inj.1 (by simpa using e))
 unfold rk at h
 by_cases h1 : a = 47 <;> by_cases h2 : b = 47 <;> simp [h1, h2] at h ⊢
 ·exact absurd h.symm zb
 ·exact absurd h za
 ·exact UInt8.toNat_inj.1 h
theorem cmpP_swap : ∀ (l m : List UInt8), cmpP m l = - cmpP l m
 | [], [] => rfl
 | [], _ :: _ => rfl
 | _ :: _, [] => rfl
 | a :: l, b :: m => by
  simp only [cmpP]
  by_cases h : a = b
  ·rw [if_pos h, if_pos h.symm, cmpP_swap l m]
  ·rw [if_neg h, if_neg (fun e => h e.symm), compareInt_swap]
theorem cmpP_zero : ∀ (l m : List UInt8), NoNul l → NoNul m → cmpP l m = 0 → l = m
 | [], [], _, _, _ => rfl
 | [], _ :: _, _, _, h => by simp [cmpP] at h
 | _ :: _, [], _, _, h => by simp [cmpP] at h
 | a :: l, b :: m, hl, hm, h => by
  simp only [cmpP] at h
  by_cases e : a = b
  ·rw [if_pos e] at h
   rw [e, cmpP_zero l m (fun c hc => hl c (List.mem_cons_of_mem _ hc)) (fun c hc => hm c (List.mem_cons_of_mem _ hc)) h]
  ·rw [if_neg e, compareInt_zero] at h
   exact absurd (rk_inj (hl a (List.mem_cons_self ..)) (hm b (List.mem_cons_self ..)) (by omega)) e
theorem cmpP_trans : ∀ (l m k : List UInt8), NoNul l → NoNul m → NoNul k → cmpP l m < 0 → cmpP m k < 0 → cmpP l k < 0
 | [], [], _, _, _, _, h, _ => by simp [cmpP] at h
 | [], _ :: _, [], _, _, _, _, h => by simp [cmpP] at h
 | [], _ :: _, _ :: _, _, _, _, _, _ => by simp [cmpP]
 | _ :: _, [], _, _, _, _, h, _ => by simp [cmpP] at h
 | _ :: _, _ :: _, [], _, _, _, _, h => by simp [cmpP] at h
 | a :: l, b :: m, c :: k, hl, hm, hk, h1, h2 => by
  have ha := hl a (List.mem_cons_self ..)
  have hb := hm b (List.mem_cons_self ..)
  have hc := hk c (List.mem_cons_self ..)
  simp only [cmpP] at h1 h2 ⊢
  by_cases e1 : a = b
  ·rw [if_pos e1] at h1
   by_cases e2 : b = c
   ·rw [if_pos e2] at h2
    rw [if_pos (e1.trans e2)]
    exact cmpP_trans l m k (fun c hc => hl c (List.mem_cons_of_mem _ hc)) (fun c hc => hm c (List.mem_cons_of_mem _ hc)) (fun c hc => hk c (List.mem_cons_of_mem _ hc)) h1 h2
   ·rw [if_neg e2] at h2
    rw [if_neg (fun e => e2 (e1.symm.trans e)), e1]; exact h2
  ·rw [if_neg e1, compareInt_neg] at h1
   by_cases e2 : b = c
   ·rw [if_neg (fun e => e1 (e.trans e2.symm)), ← e2, compareInt_neg]; exact h1
   ·rw [if_neg e2, compareInt_neg] at h2
    have hne : a ≠ c := fun e => by rw [e] at h1; omega
    rw [if_neg hne, compareInt_neg]; omega
abbrev FileN := { f : ByteArray × List UInt8 // NoNul f.1.data.toList ∧ f.1.size ≤ 140737488355328 }
instance : Inhabited FileN := ⟨⟨(⟨#[]⟩, []), (fun c hc => by simp at hc), by decide⟩⟩
def encF (f : FileN) : List Value := fileL f.1
def cmpF (x y : FileN) : Int := cmpP x.1.1.data.toList y.1.1.data.toList
theorem swoF : SWO (ltOf cmpF) where
 irrefl x := by
  unfold ltOf cmpF
  have := cmpP_swap x.1.1.data.toList x.1.1.data.toList
  simp; omega
 trans x y z h1 h2 := by
  unfold ltOf cmpF at *
  simp at *
  exact cmpP_trans _ _ _ x.2.1 y.2.1 z.2.1 h1 h2
 ntrans x y z h1 h2 := by
  unfold ltOf cmpF at *
  simp at *
  apply Classical.byContradiction
  intro h3
  have s1 := cmpP_swap x.1.1.data.toList y.1.1.data.toList
  have s2 := cmpP_swap y.1.1.data.toList z.1.1.data.toList
  have h4 : cmpP x.1.1.data.toList z.1.1.data.toList < 0 := by omega
  by_cases h5 : cmpP y.1.1.data.toList x.1.1.data.toList < 0
  ·have := cmpP_trans _ _ _ y.2.1 x.2.1 z.2.1 h5 h4; omega
  ·have h6 := cmpP_zero _ _ y.2.1 x.2.1 (by omega)
   rw [h6] at h2; omega
theorem closureF_c (x y : FileN) (W : World) : Calls Tryz.prog 59 #[.agg #[.string x.1.1, .string ⟨x.1.2.toArray⟩], .agg #[.string y.1.1, .string ⟨y.1.2.toArray⟩]] W fun e w' => e = .returned (.int .i64 (cmpF x y)) ∧ ∃ q os', w' = grow (W.drewN q) os' := by
 have hcon : Hid (∀ W', Calls Tryz.prog 60 #[.string x.1.1, .string y.1.1] W' fun e w' => e = .returned (.int .i64 (cmpF x y)) ∧ ∃ q, w' = W'.drewN q) := fun W' => comparePaths_c W' x.1.1 y.1.1 x.2.2 y.2.2
 generalize cmpF x y = r at hcon ⊢
 go_enter Tryz.func59, Tryz.ntmps59
 go_wp2_with fail
 refine (hcon.out _).mono ?_
 rintro e w' ⟨rfl, q, rfl⟩
 go_wp2
 go_ret
 exact ⟨rfl, q, _, by rw [alloc_eq_grow, alloc_eq_grow, grow_grow]; rfl⟩
theorem cmpLaysF (blk off size : Nat) (w : World) : CmpLays Tryz.prog 59 #[] encF 2 cmpF blk off size w :=
 fun _ _ _ _ x y => closureF_c x y _
theorem run_append_none {P : Program} (w : World) (t tx ty e e' : TypeId) (i : TypeInfo) (ht : P.underlying t = some (.slice e)) (hk : P.underlying tx = some (.slice e')) (hi : P.info? e = some i) (base : Option Addr) (n cap : Nat) (h : n ≤ cap) :
  (Builtin.append_ #[t, tx] ty #[.slice base n cap, .slice none 0 0]).run P w = .ok (.slice base n cap) w := by
 cases base with
 | none => simp [Builtin.append_, run_underlying ht, run_underlying hk, sizeOf, typeInfo, hi, Builtin.lenOf, Builtin.firstCells, h]
 | some a => simp [Builtin.append_, run_underlying ht, run_underlying hk, sizeOf, typeInfo, hi, Builtin.lenOf, Builtin.firstCells, h, storeCells]
theorem wpList_append_two {P : Program} {ops : Array Oper} {rest : List Oper} {o : Oper} {a : Act} {w : World} {Q : Exit → Act → World → Prop} (hgd : o.guard = none) (s x : Operand) (t : TypeId)
  (hop : o.op = .call { callee := .builtin .append, args := #[s, x], argTypes := #[t, t] })
  (base base2 : Nat) (e : TypeId) (i : TypeInfo) (z : Value) (size bytes : Nat) (ht : P.underlying t = some (.slice e)) (hi : P.info? e = some i) (hz : i.zero = some z) (hsize : i.size = size) (hby : i.bytes = bytes) (hzs : z.cells.size = size) (hsz : 0 < size)
  (v : Value) (n : Nat) (xs : List Value) (hv : a.eval s = v) (hown : w.ownsRow base e size v n xs) (y : Value) (m : Nat) (news : List Value) (hy : a.eval x = y) (hsrc : w.ownsRow base2 e size y m news) (h1 : ∀ u ∈ news, u.oneCell' = true)
  (b1 : n + m ≤ maxLen) (b2 : (n + m) * bytes ≤ 140737488355328) (b3 : base ≤ w.heap.size)
  (h : ∀ v' w', w'.ownsRow base e size v' (n + m) (xs ++ news) → w.grownBy w' v.ownBlock → wpList P ops Q rest (a.put o.dst v') w') : wpList P ops Q (o :: rest) a w := by
 obtain ⟨hl, ⟨rfl, rfl⟩ | ⟨g, cap, cur, rfl, hb, hg, h3, h4, h5, h6⟩⟩ := hsrc
 ·have hnil : news = [] := List.eq_nil_of_length_eq_zero (by omega)
  subst hnil
  refine wpList_plain hgd fun _ hK => ?_
  obtain ⟨bs, c, rfl, hc⟩ : ∃ bs c, v = .slice bs n c ∧ n ≤ c := by
   obtain ⟨_, ⟨e1, e2⟩ | ⟨g', c', cur', e1, _, _, e2, _⟩⟩ := hown
   ·subst e2; exact ⟨none, 0, e1, Nat.le_refl _⟩
   ·exact ⟨_, _, e1, e2⟩
  have hrun := run_append_none (P := P) w t t o.type e e i ht ht hi bs n c hc
  unfold Oper.wp
  simp [execOp, hop, resolve, invoke, builtin, hv, hy, hrun, Result.andThen]
  exact hK _ _ (h _ _ (by simpa using hown) (World.grownBy.refl _ _))
 ·refine wpList_append_own w hgd s x t hop base e i z size bytes ht hi hz hsize hby hzs hsz v n xs hv hown ⟨g, 0, none⟩ m cap news hy hl ?_ h1 b1 b2 b3 (fun v' w' h1 h2 _ => h v' w' h1 h2)
  intro j u hj
  have hlt : j < m * size := by rw [← hl]; exact (List.getElem?_eq_some_iff.1 hj).1
  rw [← h6, List.getElem?_take_of_lt hlt] at hj
  have e0 : ((⟨g, 0, none⟩ : Addr).add j) = ⟨g, j, none⟩ := by
   cases j with
   | zero => rfl
   | succ j => simp [Addr.add]
  rw [e0, row_cell hg j]; simpa using hj
end Go.Proofs.YtnmkmmgaoplfiaaGreatDoor
namespace Go.Proofs.YtnmkmmgaoplfiaaGreatDoor
open Go.RowKit Go.Shelf Go.Lib Go.Sort
theorem fileV_get (l : List (ByteArray × List UInt8)) : ∀ i (h : i < l.length), (fileV l)[i * 2]? = some (.string l[i].1) ∧ (fileV l)[i * 2 + 1]? = some (.string ⟨l[i].2.toArray⟩) := by
 induction l with
 | nil => intro i h; simp at h
 | cons a l ih =>
  intro i h
  have e : fileV (a :: l) = .string a.1 :: .string ⟨a.2.toArray⟩ :: fileV l := rfl
  cases i with
  | zero => rw [e]; exact ⟨rfl, rfl⟩
  | succ i =>
   have := ih i (by simpa using h)
   rw [e, show (i + 1) * 2 = i * 2 + 1 + 1 by omega]
   simpa using this
theorem fileV_app (l m : List (ByteArray × List UInt8)) : fileV (l ++ m) = fileV l ++ fileV m := by simp [fileV]
theorem fileV_one (l : List (ByteArray × List UInt8)) : ∀ u ∈ fileV l, u.oneCell' = true := by
 intro u hu
 simp only [fileV, List.mem_flatMap, fileL] at hu
 obtain ⟨f, _, h⟩ := hu
 simp at h
 rcases h with rfl | rfl <;> rfl
def FilesAt (w : World) (g : Nat) (l : List (ByteArray × List UInt8)) : Prop := ∀ i (h : i < l.length), w.cell? ⟨g, i * 2, none⟩ = some (.string l[i].1) ∧ w.cell? ⟨g, i * 2 + 1, none⟩ = some (.string ⟨l[i].2.toArray⟩)
def filesV (base : Nat) (w : World) (v : Value) (l : List (ByteArray × List UInt8)) : Prop := ∃ a cap, v = .slice a l.length cap ∧ w.ownsRow base 39 2 v l.length (fileV l) ∧ (0 < l.length → ∃ g, base ≤ g ∧ g < w.heap.size ∧ a = some ⟨g, 0, none⟩ ∧ FilesAt w g l)
@[reducible] def NamedOk (f : ByteArray × List UInt8) : Prop := NoNul f.1.data.toList ∧ f.1.size ≤ 140737488355328
theorem holds_files {w : World} {base g cap : Nat} {l : List FileN} (h : w.ownsRow base 39 2 (.slice (some ⟨g, 0, none⟩) l.length cap) l.length (fileV (l.map (·.1)))) : HoldsK encF 2 w g 0 l.toArray ∧ g < w.heap.size ∧ base ≤ g := by
 obtain ⟨h1, ⟨h2, _⟩ | ⟨g', cap', cur, e, hb, hg, h3, h4, h5, h6⟩⟩ := h
 ·cases h2
 ·cases e
  refine ⟨?_, (Array.getElem?_eq_some_iff.1 hg).1, hb⟩
  intro j hj
  rw [size_flatK] at hj
  rw [get_flatK _ _ _ _ hj]
  have hj' : j < l.length * 2 := by simpa using hj
  have hi : j / 2 < l.length := by omega
  obtain ⟨a1, a2⟩ := fileV_get (l.map (·.1)) (j / 2) (by simpa using hi)
  rw [Nat.zero_add]
  refine ⟨?_, frozen_row hg j⟩
  rw [row_cell hg j]
  have e1 : cur[j]? = (fileV (l.map (·.1)))[j]? := by
   rw [← h6, List.getElem?_take_of_lt hj']; simp
  have e2 : l.toArray[j / 2]! = l[j / 2] := by rw [getElem!_pos _ _ (by simpa using hi)]; simp
  rw [e2, e1]
  simp only [List.getElem_map] at a1 a2
  rcases (by omega : j % 2 = 0 ∨ j % 2 = 1) with hm | hm
  ·rw [hm]
   exact (congrArg (fun t => (fileV (l.map (·.1)))[t]?) (show j = j / 2 * 2 by omega)).trans a1
  ·rw [hm]
   exact (congrArg (fun t => (fileV (l.map (·.1)))[t]?) (show j = j / 2 * 2 + 1 by omega)).trans a2
theorem filesAt_of {w : World} {g : Nat} {d : Array FileN} (h : HoldsK encF 2 w g 0 d) : FilesAt w g (d.toList.map (·.1)) := by
 intro i hi
 have hi' : i < d.size := by simpa using hi
 have h1 := (h.cell (i := i) (c := 0) hi' (by omega)).1
 have h2 := (h.cell (i := i) (c := 1) hi' (by omega)).1
 simp only [Nat.zero_add, Nat.add_zero] at h1 h2
 rw [getElem!_pos d i hi'] at h1 h2
 simp only [List.getElem_map, Array.getElem_toList]
 exact ⟨h1, h2⟩
theorem fileV_len (l : List (ByteArray × List UInt8)) : (fileV l).length = l.length * 2 := by
 induction l with
 | nil => rfl
 | cons a l ih =>
  have e : fileV (a :: l) = fileL a ++ fileV l := rfl
  rw [e, List.length_append, ih]
  simp [fileL]; omega
theorem owns_sort {w : World} {base g cap n m : Nat} {xs : List Value} {d : Array FileN} {os : Array Obj} (h : w.ownsRow base 39 2 (.slice (some ⟨g, 0, none⟩) n cap) n xs) (hn : d.size = n)
  (hA : FilesAt (sortWorldK encF 2 w g 0 m d os) g (d.toList.map (·.1))) : (sortWorldK encF 2 w g 0 m d os).ownsRow base 39 2 (.slice (some ⟨g, 0, none⟩) n cap) n (fileV (d.toList.map (·.1))) := by
 obtain ⟨h1, ⟨h2, _⟩ | ⟨g', cap', cur, e, hb, hg, h3, h4, h5, h6⟩⟩ := h
 ·cases h2
 ·cases e
  have hl : (fileV (d.toList.map (·.1))).length = n * 2 := by rw [fileV_len]; simp [hn]
  have hg2 : (sortWorldK encF 2 w g 0 m d os).heap[g]? = some (.cells (putCells id 0 (flatK encF 2 d) cur) 39) := by
   unfold sortWorldK putRowK putRow mapBlock
   rw [heap_grow_old _ _ (by simpa using (Array.getElem?_eq_some_iff.1 hg).1)]
   show (w.heap.modify g _)[g]? = _
   rw [Array.getElem?_modify, if_pos rfl, hg]; rfl
  have hz : (putCells id 0 (flatK encF 2 d) cur).size = cur.size := by unfold putCells; simp
  refine ⟨hl, .inr ⟨g, cap, putCells id 0 (flatK encF 2 d) cur, rfl, hb, hg2, h3, h4, by rw [hz]; exact h5, ?_⟩⟩
  apply List.ext_getElem?
  intro j
  by_cases hj : j < n * 2
  ·rw [List.getElem?_take_of_lt hj]
   obtain ⟨q, hq⟩ : ∃ q, j = q * 2 ∨ j = q * 2 + 1 := ⟨j / 2, by omega⟩
   have hi : q < (d.toList.map (·.1)).length := by rw [List.length_map, Array.length_toList]; omega
   obtain ⟨a1, a2⟩ := fileV_get (d.toList.map (·.1)) q hi
   obtain ⟨c1, c2⟩ := hA q hi
   rw [row_cell hg2] at c1 c2
   have e1 : ∀ k : Nat, (putCells id 0 (flatK encF 2 d) cur).toList[k]? = (putCells id 0 (flatK encF 2 d) cur)[k]? := fun k => by simp
   rw [e1]
   rcases hq with rfl | rfl
   ·rw [c1, a1]
   ·rw [c2, a2]
  ·rw [List.getElem?_eq_none (by rw [List.length_take]; omega), List.getElem?_eq_none (by omega)]
theorem sortFiles_c (w : World) (base : Nat) (v : Value) (l : List (ByteArray × List UInt8)) (ho : w.ownsRow base 39 2 v l.length (fileV l)) (hn : ∀ f ∈ l, NamedOk f) (hlen : l.length ≤ 1000000000000) :
  Calls Tryz.prog 58 #[v, .func (.func 59) #[] #[]] w fun e w' => e = .returned (.tuple #[]) ∧ ∃ d : List (ByteArray × List UInt8), d.Perm l ∧ d.Pairwise (fun a b => cmpP a.1.data.toList b.1.data.toList ≤ 0) ∧ filesV base w' v d ∧ Touch (fun b => base ≤ b) w w' := by
 obtain ⟨lN, rfl⟩ : ∃ lN : List FileN, lN.map (·.1) = l := ⟨l.pmap (fun f h => ⟨f, h⟩) hn, by simp [List.map_pmap]⟩
 simp only [List.length_map] at ho hlen
 by_cases hv : lN = []
 ·subst hv
  obtain ⟨a, cap, rfl⟩ : ∃ a cap, v = .slice a 0 cap := by
   obtain ⟨_, ⟨e, _⟩ | ⟨g', cap', cur, e, _⟩⟩ := ho
   ·exact ⟨_, _, e⟩
   ·exact ⟨_, _, e⟩
  refine (AnyF.slices_SortFunc_none Tryz.sortFile a cap _ w).mono ?_
  rintro e w' ⟨rfl, rfl⟩
  exact ⟨rfl, [], List.Perm.refl _, List.Pairwise.nil, ⟨a, cap, rfl, ho, by simp⟩, Touch.refl _ _⟩
 ·have hpos : 0 < lN.length := List.length_pos_iff.2 hv
  obtain ⟨g, cap, rfl⟩ : ∃ g cap, v = .slice (some ⟨g, 0, none⟩) lN.length cap := by
   obtain ⟨_, ⟨_, e⟩ | ⟨g', cap', cur, e, _⟩⟩ := ho
   ·omega
   ·exact ⟨_, _, e⟩
  obtain ⟨hH, hlt, hbase⟩ := holds_files ho
  have hsz2 : lN.toArray.size = lN.length := by simp
  have hcon := AnyQ.slices_SortFunc Tryz.sortFile 2 Tryz.isAgg39 Tryz.sizeOf39 encF (fun _ => rfl) (fun x v hv => by simp [encF, fileL] at hv; rcases hv with rfl | rfl <;> rfl) cmpF swoF 59 #[] g 0 cap lN.toArray w (enters_of Tryz.func59 (by kernel_rfl) rfl) (cmpLaysF g 0 _ w) hH hlt (by simp; omega)
  rw [hsz2] at hcon
  refine hcon.mono ?_
  rintro e w' ⟨he, d', m, os, hp, hso, rfl⟩
  have hs' : d'.size = lN.length := by rw [hp.1, hsz2]
  have hperm : d'.toList.Perm lN := by
   have h3 := hp.2.2
   have e1 : d'.extract 0 lN.length = d' := by rw [← hs']; simp
   rw [e1] at h3
   simpa using h3
  have hold := holds_sort encF 2 w g 0 m _ d' os hlt hH (by rw [hs', hsz2])
  have ht := touch_sort encF 2 w g 0 m d' os
  refine ⟨he, d'.toList.map (·.1), hperm.map _, ?_, ⟨some ⟨g, 0, none⟩, cap, by simp [hs'], by have := owns_sort (m := m) (os := os) ho hs' (filesAt_of hold); simpa [hs'] using this, fun _ => ⟨g, hbase, Nat.lt_of_lt_of_le hlt ht.size, rfl, filesAt_of hold⟩⟩, ht.mono (fun k _ e => by rw [e]; exact hbase)⟩
  rw [List.pairwise_map, List.pairwise_iff_getElem]
  intro i j hi hj hij
  have hj' : j < d'.size := by simpa using hj
  have h1 := hso i j (Nat.zero_le _) hij (by omega)
  rw [getElem!_pos d' j hj', getElem!_pos d' i (by omega)] at h1
  unfold ltOf cmpF at h1
  simp only [Array.getElem_toList]
  have h2 := cmpP_swap (d'[i]'(by omega)).1.1.data.toList d'[j].1.1.data.toList
  simp at h1
  omega
theorem sortByPath_c (w : World) (base : Nat) (v : Value) (l : List (ByteArray × List UInt8)) (ho : w.ownsRow base 39 2 v l.length (fileV l)) (hn : ∀ f ∈ l, NamedOk f) (hlen : l.length ≤ 1000000000000) :
  Calls Tryz.prog 35 #[v] w fun e w' => e = .returned (.tuple #[]) ∧ ∃ d : List (ByteArray × List UInt8), d.Perm l ∧ d.Pairwise (fun a b => cmpP a.1.data.toList b.1.data.toList ≤ 0) ∧ filesV base w' v d ∧ Touch (fun b => base ≤ b) w w' := by
 have HS : Hid _ := sortFiles_c w base v l ho hn hlen
 clear ho hn
 go_enter Tryz.func35, Tryz.ntmps35
 go_wp2_with fail
 refine (show Calls _ _ _ _ _ from HS.out).mono ?_
 rintro e w1 ⟨rfl, h⟩
 go_wp2
 go_end0
 exact ⟨rfl, h⟩
end Go.Proofs.YtnmkmmgaoplfiaaGreatDoor
namespace Go.Proofs.YtnmkmmgaoplfiaaGreatDoor
open Go.RowKit Go.Shelf Go.Lib Go.Sort
def listPost (base : Nat) (R : Except Nat (List Spanned)) (r : Ending) (w' : World) : Prop := match R with
 | .error k => r = .returned (.tuple #[.slice none 0 0, .int .i64 (k : Int)]) ∧ 0 < k
 | .ok L => ∃ g cap, r = .returned (.tuple #[.slice (some ⟨g, 0, none⟩) L.length cap, .int .i64 0]) ∧ w'.ownsRow base 44 6 (.slice (some ⟨g, 0, none⟩) L.length cap) L.length (entV L)
def unpackPost (base : Nat) (s : ByteArray) (R : Except Nat (List Spanned)) (r : Ending) (w' : World) : Prop := match R with
 | .error k => r = .returned (.tuple #[.slice none 0 0, .int .i64 (k : Int)])
 | .ok L => match filesGo s L [] with
  | .inl k => r = .returned (.tuple #[.slice none 0 0, .int .i64 (k : Int)])
  | .inr fs => ∃ v d, r = .returned (.tuple #[v, .int .i64 0]) ∧ d.Perm (fs ++ (foldAll L []).map folOf) ∧ d.Pairwise (fun a b => cmpP a.1.data.toList b.1.data.toList ≤ 0) ∧ filesV base w' v d
theorem foldIn_mem (nm : List UInt8) : ∀ (f i : Nat) (acc : List (List UInt8)) (p : List UInt8), p ∈ foldIn nm f i acc → p ∈ acc ∨ ∃ j, p = nm.take j
 | 0, _, _, _, h => .inl h
 | f + 1, i, acc, p, h => by
  rcases foldIn_mem nm f (i + 1) _ p h with h | h
  ·split at h
   ·rw [List.mem_append] at h
    rcases h with h | h
    ·exact .inl h
    ·simp at h; exact .inr ⟨_, h⟩
   ·exact .inl h
  ·exact .inr h
theorem foldAll_mem : ∀ (L : List Spanned) (acc : List (List UInt8)) (p : List UInt8), p ∈ foldAll L acc → p ∈ acc ∨ ∃ x ∈ L, ∃ j, p = x.ent.name.data.toList.take j
 | [], _, _, h => .inl h
 | x :: L, acc, p, h => by
  rcases foldAll_mem L _ p h with h | ⟨y, hy, h⟩
  ·rcases foldIn_mem _ _ _ _ _ h with h | h
   ·exact .inl h
   ·exact .inr ⟨x, List.mem_cons_self .., h⟩
  ·exact .inr ⟨y, List.mem_cons_of_mem _ hy, h⟩
theorem filesGo_mem (s : ByteArray) : ∀ (L : List Spanned) (acc fs : List (ByteArray × List UInt8)), filesGo s L acc = .inr fs → fs.length ≤ acc.length + L.length ∧ ∀ f ∈ fs, f ∈ acc ∨ ∃ x ∈ L, f.1 = x.ent.name
 | [], acc, fs, h => by cases h; exact ⟨by simp, fun f hf => .inl hf⟩
 | x :: L, acc, fs, h => by
  unfold filesGo at h
  split at h
  ·obtain ⟨h1, h2⟩ := filesGo_mem s L acc fs h
   refine ⟨by simp; omega, fun f hf => ?_⟩
   rcases h2 f hf with h3 | ⟨y, hy, h3⟩
   ·exact .inl h3
   ·exact .inr ⟨y, List.mem_cons_of_mem _ hy, h3⟩
  ·split at h
   ·cases h
   ·obtain ⟨h1, h2⟩ := filesGo_mem s L _ fs h
    refine ⟨by simp at *; omega, fun f hf => ?_⟩
    rcases h2 f hf with h3 | ⟨y, hy, h3⟩
    ·rw [List.mem_append] at h3
     rcases h3 with h3 | h3
     ·exact .inl h3
     ·simp at h3; exact .inr ⟨x, List.mem_cons_self .., by rw [h3]⟩
    ·exact .inr ⟨y, List.mem_cons_of_mem _ hy, h3⟩
theorem filesGo_err (s : ByteArray) : ∀ (L : List Spanned) (acc : List (ByteArray × List UInt8)) (k : Nat), filesGo s L acc = .inl k → 0 < k
 | [], _, _, h => by cases h
 | x :: L, acc, k, h => by
  unfold filesGo at h
  split at h
  ·exact filesGo_err s L acc k h
  ·split at h
   ·rename_i k' he; cases h
    rcases dataOfE_err s x _ he with h | h | h <;> omega
   ·exact filesGo_err s L _ k h
theorem named_all (s : ByteArray) (L : List Spanned) (fs : List (ByteArray × List UInt8)) (h : filesGo s L [] = .inr fs) (hn : ∀ x ∈ L, NoNul x.ent.name.data.toList ∧ x.ent.name.size ≤ 60) : ∀ f ∈ fs ++ (foldAll L []).map folOf, NamedOk f := by
 intro f hf
 rw [List.mem_append] at hf
 rcases hf with hf | hf
 ·rcases (filesGo_mem s L [] fs h).2 f hf with h1 | ⟨x, hx, h1⟩
  ·cases h1
  ·obtain ⟨a, b⟩ := hn x hx
   unfold NamedOk
   rw [h1]; exact ⟨a, by omega⟩
 ·rw [List.mem_map] at hf
  obtain ⟨p, hp, rfl⟩ := hf
  rcases foldAll_mem L [] p hp with h1 | ⟨x, hx, j, rfl⟩
  ·cases h1
  ·obtain ⟨a, b⟩ := hn x hx
   refine ⟨fun c hc => a c ?_, ?_⟩
   ·simp only [folOf] at hc
    exact List.mem_of_mem_take hc
   ·show (List.take j x.ent.name.data.toList).toArray.size ≤ _
    have e : x.ent.name.data.toList.length = x.ent.name.size := by simp
    simp only [List.size_toArray, List.length_take]; omega
theorem unpack_of (w : World) (s : ByteArray) (qe qn qb : Int) (R : Except Nat (List Spanned)) (hL : ∀ W, Touch (fun _ => False) w W → Calls Tryz.prog 8 #[.string s, .agg #[.int .i64 qe, .int .i64 qn, .int .i64 qb]] W fun r w' => Touch (fun _ => False) W w' ∧ listPost W.heap.size R r w')
  (hok : ∀ L, R = .ok L → L.length ≤ 1000000000 ∧ (∀ x ∈ L, FileOk s x) ∧ ∀ x ∈ L, NoNul x.ent.name.data.toList ∧ x.ent.name.size ≤ 60) (hs : s.size ≤ 2147483648) (ho : Ord w) (hb : 0 < w.heap.size) :
  Calls Tryz.prog 9 #[.string s, .agg #[.int .i64 qe, .int .i64 qn, .int .i64 qb]] w fun r w' => Touch (fun _ => False) w w' ∧ unpackPost w.heap.size s R r w' := by
 obtain ⟨i0, hi, hz0, hz1, hz2⟩ := info_parts Tryz.infoFile
 have T0 : Touch (fun _ => False) w (w.alloc (Obj.cells #[.int .i64 qe, .int .i64 qn, .int .i64 qb] 29)) := (Touch.refl _ w).alloc _
 have HL : Hid (Calls Tryz.prog 8 #[.string s, .agg #[.int .i64 qe, .int .i64 qn, .int .i64 qb]] (w.alloc (Obj.cells #[.int .i64 qe, .int .i64 qn, .int .i64 qb] 29)) fun r w' => Touch (fun _ => False) (w.alloc (Obj.cells #[.int .i64 qe, .int .i64 qn, .int .i64 qb] 29)) w' ∧ listPost (w.alloc (Obj.cells #[.int .i64 qe, .int .i64 qn, .int .i64 qb] 29)).heap.size R r w') := hL _ T0
 have HOK : Hid (∀ L, R = .ok L → L.length ≤ 1000000000 ∧ (∀ x ∈ L, FileOk s x) ∧ ∀ x ∈ L, NoNul x.ent.name.data.toList ∧ x.ent.name.size ≤ 60) := hok
 clear hL hok
 go_enter Tryz.func9, Tryz.ntmps9
 go_wp2_with fail
 refine HL.out.mono ?_
 rintro e w1 ⟨t1', h1⟩
 have t1 := T0.trans t1'
 clear t1' T0 HL
 cases R with
 | error k =>
  obtain ⟨rfl, hk⟩ := h1
  have hk' : ¬ (k : Int) = 0 := by omega
  have FIN : Hid (∀ w', unpackPost w.heap.size s (.error k) (.returned (.tuple #[.slice none 0 0, .int .i64 (k : Int)])) w') := fun _ => rfl
  clear HOK
  go_wp2
  go_ret2
  exact ⟨t1, FIN.out _⟩
 | ok L =>
  obtain ⟨g, cap, rfl, hro⟩ := h1
  obtain ⟨o1, o2, o3⟩ := HOK.out L rfl
  have hE := EntsAt.owned hro
  have hfc := filesOf_c w1 s (some ⟨g, 0, none⟩) g cap L (fun _ => rfl) (fun _ => hE) o1 o2 hs (ho.keep t1 (fun e => e)) (by have := t1.size; omega)
  have hdc := fun w2 (t2 : Touch (fun _ => False) w1 w2) => foldersOf_c w2 (some ⟨g, 0, none⟩) g cap L (fun _ => rfl) (fun _ => hE.keep t2 (fun e => e)) o1 (fun x hx => (o3 x hx).2)
  have hnm := fun fs hh => named_all s L fs hh o3
  clear hro hE o2 o3 HOK
  obtain ⟨n, hn⟩ : ∃ n, n = L.length := ⟨_, rfl⟩
  rw [← hn] at hfc
  simp only [← hn] at hdc
  rw [← hn] at o1
  have HF : Hid (Calls Tryz.prog 33 #[.string s, .slice (some ⟨g, 0, none⟩) n cap] w1 fun r w' => Touch (fun _ => False) w1 w' ∧ filesPost w1.heap.size (filesGo s L []) r w') := hfc
  have HD : Hid (∀ w2 (t2 : Touch (fun _ => False) w1 w2), Calls Tryz.prog 34 #[.slice (some ⟨g, 0, none⟩) n cap] w2 fun r w' => ∃ v, r = .returned v ∧ w'.ownsRow (w2.heap.size + 1) 39 2 v (foldAll L []).length (fileV ((foldAll L []).map folOf)) ∧ (foldAll L []).length ≤ 60 * n ∧ Touch (fun _ => False) w2 w') := hdc
  have HN : Hid (n = L.length) := hn
  rw [← hn]
  have HP : Hid (∀ r w', (match filesGo s L [] with
   | .inl k => r = .returned (.tuple #[.slice none 0 0, .int .i64 (k : Int)])
   | .inr fs => ∃ v d, r = .returned (.tuple #[v, .int .i64 0]) ∧ d.Perm (fs ++ (foldAll L []).map folOf) ∧ d.Pairwise (fun a b => cmpP a.1.data.toList b.1.data.toList ≤ 0) ∧ filesV w.heap.size w' v d) → unpackPost w.heap.size s (.ok L) r w') := fun r w' h => h
  clear hfc hdc hn
  go_wp2_with fail
  refine HF.out.mono ?_
  rintro e w2 ⟨t2, h2⟩
  have t12 := t1.trans t2
  cases hfg : filesGo s L [] with
  | inl k =>
   rw [hfg] at h2
   obtain rfl := (show e = _ from h2)
   have hk := filesGo_err s L [] k hfg
   have hk' : ¬ (k : Int) = 0 := by omega
   rw [hfg] at HP
   have FIN : Hid (∀ w', unpackPost w.heap.size s (.ok L) (.returned (.tuple #[.slice none 0 0, .int .i64 (k : Int)])) w') := fun w' => HP.out _ w' rfl
   clear HP HD HF hfg hnm
   go_wp2
   go_ret2
   exact ⟨t12, FIN.out _⟩
  | inr fs =>
   rw [hfg] at h2 HP
   obtain ⟨v, rfl, ho2⟩ := (show ∃ v, e = .returned (.tuple #[v, .int .i64 0]) ∧ w2.ownsRow w1.heap.size 39 2 v fs.length (fileV fs) from h2)
   obtain ⟨fl, hfl⟩ : ∃ fl, fl = foldAll L [] := ⟨_, rfl⟩
   have HNM : Hid (∀ f ∈ fs ++ fl.map folOf, NamedOk f) := by rw [hfl]; exact hnm fs hfg
   have hfn := (filesGo_mem s L [] fs hfg).1
   have hfn' : fs.length ≤ n := by rw [HN.out]; simpa using hfn
   have HD2 := HD.out w2 t2
   have HD3 : Hid (Calls Tryz.prog 34 #[.slice (some ⟨g, 0, none⟩) n cap] w2 fun r w' => ∃ v, r = .returned v ∧ w'.ownsRow (w2.heap.size + 1) 39 2 v fl.length (fileV (fl.map folOf)) ∧ fl.length ≤ 60 * n ∧ Touch (fun _ => False) w2 w') := by
    rw [hfl]; exact HD2
   have FIN : Hid (∀ v d w', d.Perm (fs ++ fl.map folOf) → d.Pairwise (fun a b => cmpP a.1.data.toList b.1.data.toList ≤ 0) → filesV w.heap.size w' v d → unpackPost w.heap.size s (.ok L) (.returned (.tuple #[v, .int .i64 0])) w') := by
    intro v d w' p1 p2 p3
    refine HP.out _ w' ⟨v, d, rfl, ?_, p2, p3⟩
    rw [← hfl]; exact p1
   clear HD2 HD HP HF hfg hnm hfl hfn h2
   go_wp2_with fail
   refine HD3.out.mono ?_
   rintro e w3 ⟨v3, rfl, ho3, hfl3, t3⟩
   have t13 := t12.trans t3
   have ho2' := t3.owns ho2 (fun _ _ h => h)
   have hsz1 := t1.size
   have hsz2 := t2.size
   have hsz3 := t3.size
   have hl3 : (fl.map folOf).length = fl.length := List.length_map ..
   have HO3 : Hid (w3.ownsRow (w2.heap.size + 1) 39 2 v3 fl.length (fileV (fl.map folOf))) := ho3
   have HO2 : Hid (w3.ownsRow w1.heap.size 39 2 v fs.length (fileV fs)) := ho2'
   have b1 : fs.length + fl.length ≤ maxLen := by unfold maxLen; omega
   have b2 : (fs.length + fl.length) * 32 ≤ 140737488355328 := by omega
   have b3 : w1.heap.size ≤ w3.heap.size := by omega
   clear ho2 ho3 ho2' HD3
   go_wp2_with (at_builtin; refine wpList_append_two rfl _ _ 24 rfl w1.heap.size (w2.heap.size + 1) 39 i0 (.agg #[.string ⟨#[]⟩, .string ⟨#[]⟩]) 2 32 Tryz.underlying24 hi hz0 hz1 hz2 rfl (by decide) _ _ _ rfl HO2.out _ _ _ rfl HO3.out (fileV_one _) b1 b2 b3 ?_; intro v4 w4 ho4 hg4)
   have ho5 : w4.ownsRow w1.heap.size 39 2 v4 (fs ++ fl.map folOf).length (fileV (fs ++ fl.map folOf)) := by
    rw [List.length_append, hl3, fileV_app]; exact ho4
   have T4 : Touch (fun _ => False) w w4 := t13.grownNew hg4 (fun k hk => by have := (HO2.out.lt k hk).1; omega)
   have HS : Hid _ := sortByPath_c w4 w1.heap.size v4 _ ho5 HNM.out (by rw [List.length_append, hl3]; omega)
   clear ho4 ho5 hg4 HO2 HO3 HNM
   go_wp2_with fail
   refine (show Calls _ _ _ _ _ from HS.out).mono ?_
   rintro e w5 ⟨rfl, d, p1, p2, ⟨a5, cap5, rfl, o5, h5⟩, t5⟩
   have FV : Hid (filesV w.heap.size w5 (.slice a5 d.length cap5) d) := by
    refine ⟨a5, cap5, rfl, ?_, fun h => ?_⟩
    ·exact ⟨o5.1, o5.2.imp id (fun ⟨g, cap, cur, q1, q2, q3⟩ => ⟨g, cap, cur, q1, by omega, q3⟩)⟩
    obtain ⟨g5, q1, q2, q3, q4⟩ := h5 h
    exact ⟨g5, by omega, q2, q3, q4⟩
   have T5 : Touch (fun _ => False) w w5 := by
    refine ⟨t5.os.trans T4.os, t5.tape.trans T4.tape, t5.output.trans T4.output, Nat.le_trans T4.size t5.size, fun k hk _ => ?_⟩
    exact (t5.block k (Nat.lt_of_lt_of_le hk T4.size) (by omega)).trans (T4.block k hk (fun e => e))
   have FIN2 := FIN.out _ d w5 p1 p2 FV.out
   have FIN3 : Hid (unpackPost w.heap.size s (.ok L) (.returned (.tuple #[.slice a5 d.length cap5, .int .i64 0])) w5) := FIN2
   clear HS FIN FIN2 FV h5 o5 p1 p2
   go_wp2
   go_ret2
   exact ⟨T5, FIN3.out⟩
end Go.Proofs.YtnmkmmgaoplfiaaGreatDoor
namespace Go.Proofs.YtnmkmmgaoplfiaaGreatDoor
open Go.RowKit
theorem numIn2 (s : ByteArray) (a : Nat) : numIn s a 2 < 65536 := numIn_le s a 2
theorem numIn4 (s : ByteArray) (a : Nat) : numIn s a 4 < 4294967296 := numIn_le s a 4
theorem meant_le (s : ByteArray) (stop c v z c' : Nat) (h : meant s stop c v = some (z, c')) (hv : v < 4294967296) : z ≤ 1099511627776 := by
 unfold meant at h
 split at h
 ·split at h
  ·rename_i hh
   simp only [Option.some.injEq, Prod.mk.injEq] at h
   rw [← h.1]; exact hh.2
  ·exact absurd h (by simp)
 ·simp only [Option.some.injEq, Prod.mk.injEq] at h
  rw [← h.1]; omega
theorem entAt_ok (s : ByteArray) (E p : Nat) (e : Ent) (q : Nat) (h : entAt s E p = some (e, q)) : p + 46 ≤ q ∧ q ≤ E ∧ EntOk e := by
 unfold entAt at h
 simp only at h
 split at h
 ·rename_i hc
  cases hw : wideGo s (p + 46 + numIn s (p + 28) 2 + numIn s (p + 30) 2) (numIn s (p + 30) 2 + 1) (p + 46 + numIn s (p + 28) 2) none with
  | none => rw [hw] at h; cases h
  | some found =>
   rw [hw] at h
   simp only [Option.bind_some] at h
   cases hm : meantAll s (found.getD (0, 0)).1 (found.getD (0, 0)).2 (numIn s (p + 24) 4) (numIn s (p + 20) 4) (numIn s (p + 42) 4) with
   | none => rw [hm] at h; cases h
   | some m =>
    rw [hm] at h
    simp only [Option.bind_some, Option.some.injEq, Prod.mk.injEq] at h
    obtain ⟨rfl, rfl⟩ := h
    obtain ⟨z, k, a⟩ := m
    unfold meantAll at hm
    cases h1 : meant s (found.getD (0, 0)).2 (found.getD (0, 0)).1 (numIn s (p + 24) 4) with
    | none => rw [h1] at hm; cases hm
    | some z1 =>
     rw [h1] at hm
     simp only [Option.bind_some] at hm
     cases h2 : meant s (found.getD (0, 0)).2 z1.2 (numIn s (p + 20) 4) with
     | none => rw [h2] at hm; cases hm
     | some k1 =>
      rw [h2] at hm
      simp only [Option.bind_some] at hm
      cases h3 : meant s (found.getD (0, 0)).2 k1.2 (numIn s (p + 42) 4) with
      | none => rw [h3] at hm; cases hm
      | some a1 =>
       rw [h3] at hm
       simp only [Option.bind_some, Option.some.injEq, Prod.mk.injEq] at hm
       obtain ⟨rfl, rfl, rfl⟩ := hm
       have m1 := meant_le _ _ _ _ z1.1 z1.2 h1 (numIn4 _ _)
       have m2 := meant_le _ _ _ _ k1.1 k1.2 h2 (numIn4 _ _)
       have m3 := meant_le _ _ _ _ a1.1 a1.2 h3 (numIn4 _ _)
       refine ⟨by omega, by omega, numIn2 _ _, numIn4 _ _, m2, m1, m3, numIn2 _ _, numIn2 _ _, numIn4 _ _, ?_⟩
       have := numIn2 s (p + 28)
       show (s.extract (p + 46) (p + 46 + numIn s (p + 28) 2)).size < 65536
       rw [ByteArray.size_extract]; omega
 ·cases h
theorem entsGo_ok (s : ByteArray) (E : Nat) : ∀ (f p : Nat) (acc l : List Ent), entsGo s E f p acc = .ok l → l.length = acc.length + f ∧ l.length * 46 ≤ acc.length * 46 + (E - p) ∧ ∀ e ∈ l, e ∈ acc ∨ (EntOk e ∧ faultOf e = 0)
 | 0, p, acc, l, h => by
  unfold entsGo at h
  split at h
  ·cases h; exact ⟨rfl, by omega, fun e he => .inl he⟩
  ·cases h
 | f + 1, p, acc, l, h => by
  unfold entsGo at h
  split at h
  ·cases h
  ·rename_i e q he
   obtain ⟨h1, h2, h3⟩ := entAt_ok s E p e q he
   split at h
   ·rename_i hf
    obtain ⟨i1, i2, i3⟩ := entsGo_ok s E f q _ l h
    simp only [List.length_append, List.length_singleton] at i1 i2
    refine ⟨by omega, by omega, fun x hx => ?_⟩
    rcases i3 x hx with hx | hx
    ·rw [List.mem_append] at hx
     rcases hx with hx | hx
     ·exact .inl hx
     ·simp at hx; rw [hx]; exact .inr ⟨h3, hf⟩
    ·exact .inr hx
   ·cases h
theorem entsGo_err (s : ByteArray) (E : Nat) : ∀ (f p : Nat) (acc : List Ent) (k : Nat), entsGo s E f p acc = .error k → 0 < k
 | 0, p, acc, k, h => by
  unfold entsGo at h
  split at h
  ·cases h
  ·cases h; omega
 | f + 1, p, acc, k, h => by
  unfold entsGo at h
  split at h
  ·cases h; omega
  ·split at h
   ·exact entsGo_err s E f _ _ k h
   ·rename_i hf; cases h; omega
theorem faultOf_name (e : Ent) (h : faultOf e = 0) : nameOk e.name = true := by
 unfold faultOf at h
 split at h
 ·cases h
 ·split at h
  ·cases h
  ·split at h
   ·cases h
   ·rename_i hn; simpa using hn
theorem nameOk_size (s : ByteArray) (h : nameOk s = true) : s.size ≤ 60 ∧ NoNul s.data.toList := by
 unfold nameOk at h
 simp only [Bool.and_eq_true, decide_eq_true_eq, List.all_eq_true] at h
 obtain ⟨⟨h1, h2⟩, _⟩ := h
 refine ⟨h1, fun c hc => ?_⟩
 have := h2 c (by rw [ByteArray.toList_eq]; exact hc)
 intro e
 rw [e] at this
 exact absurd this (by decide)
theorem spansOf_ok (s : ByteArray) (P : Nat) : ∀ (l : List Ent) (r : List Spanned), spansOf s P l = some r → r.map (·.ent) = l ∧ ∀ x ∈ r, x.ent ∈ l ∧ spanAt s P x.ent = some (x.place, x.stop)
 | [], r, h => by cases h; exact ⟨rfl, fun x hx => by cases hx⟩
 | e :: l, r, h => by
  unfold spansOf at h
  cases h1 : spanAt s P e with
  | none => rw [h1] at h; cases h
  | some p =>
   rw [h1] at h
   simp only [Option.bind_some] at h
   cases h2 : spansOf s P l with
   | none => rw [h2] at h; cases h
   | some r1 =>
    rw [h2] at h
    cases h
    obtain ⟨i1, i2⟩ := spansOf_ok s P l r1 h2
    refine ⟨by simp [i1], fun x hx => ?_⟩
    rw [List.mem_cons] at hx
    rcases hx with rfl | hx
    ·exact ⟨List.mem_cons_self .., h1⟩
    ·exact ⟨List.mem_cons_of_mem _ (i2 x hx).1, (i2 x hx).2⟩
theorem spanAt_ok (s : ByteArray) (P : Nat) (e : Ent) (b t : Nat) (h : spanAt s P e = some (b, t)) : e.ahead + 30 ≤ b ∧ b + e.packed ≤ t ∧ t ≤ P := by
 unfold spanAt at h
 simp only at h
 obtain ⟨m, hm⟩ : ∃ m, m = (if laterB e = true then 16 else 0) := ⟨_, rfl⟩
 rw [← hm] at h
 by_cases hc : e.ahead + 30 ≤ P ∧ e.ahead + 30 + numIn s (e.ahead + 26) 2 + numIn s (e.ahead + 28) 2 + e.packed + m ≤ P ∧ markB s e.ahead 3 4 = true ∧ numIn s (e.ahead + 6) 2 = e.flags ∧ numIn s (e.ahead + 8) 2 = e.method ∧ s.extract (e.ahead + 30) (e.ahead + 30 + numIn s (e.ahead + 26) 2) = e.name
   ∧ (s.extract (e.ahead + 14) (e.ahead + 26) = e.three ∨ (laterB e = true ∧ s.extract (e.ahead + 14) (e.ahead + 26) = ⟨#[0, 0, 0, 0, 0, 0, 0, 0, 0, 0, 0, 0]⟩))
   ∧ (laterB e = true → markB s (e.ahead + 30 + numIn s (e.ahead + 26) 2 + numIn s (e.ahead + 28) 2 + e.packed) 7 8 = true ∧ numIn s (e.ahead + 30 + numIn s (e.ahead + 26) 2 + numIn s (e.ahead + 28) 2 + e.packed + 4) 4 = e.sum ∧ numIn s (e.ahead + 30 + numIn s (e.ahead + 26) 2 + numIn s (e.ahead + 28) 2 + e.packed + 8) 4 = e.packed % 4294967296 ∧ numIn s (e.ahead + 30 + numIn s (e.ahead + 26) 2 + numIn s (e.ahead + 28) 2 + e.packed + 12) 4 = e.size % 4294967296)
 ·rw [if_pos hc] at h
  simp only [Option.some.injEq, Prod.mk.injEq] at h
  obtain ⟨rfl, rfl⟩ := h
  exact ⟨by omega, by omega, hc.2.1⟩
 ·rw [if_neg hc] at h
  exact absurd h (by simp)
theorem dirOf_ok (s : ByteArray) (d : Dir) (h : dirOf s = .ok d) : d.stop ≤ s.size ∧ d.count ≤ 9223372036854775807 ∧ d.size ≤ 9223372036854775807 ∧ d.place ≤ 9223372036854775807 := by
 unfold dirOf at h
 cases hp : endFrom s 101 0 with
 | none => rw [hp] at h; cases h
 | some p =>
  rw [hp] at h
  have hle := endFrom_le s 101 0 p hp
  simp only at h
  split at h
  ·split at h
   ·split at h
    ·simp only [Except.ok.injEq] at h; subst h; exact ⟨by show p - 76 ≤ s.size; omega, numIn_lt _ _ _, numIn_lt _ _ _, numIn_lt _ _ _⟩
    ·exact absurd h (by simp)
   ·exact absurd h (by simp)
  ·split at h
   ·simp only [Except.ok.injEq] at h; subst h; exact ⟨by show p ≤ s.size; omega, numIn_lt _ _ _, numIn_lt _ _ _, numIn_lt _ _ _⟩
   ·exact absurd h (by simp)
theorem dirOf_err (s : ByteArray) (k : Nat) (h : dirOf s = .error k) : 0 < k := by
 unfold dirOf at h
 cases hp : endFrom s 101 0 with
 | none => rw [hp] at h; simp only [Except.error.injEq] at h; omega
 | some p =>
  rw [hp] at h
  simp only at h
  split at h
  ·split at h
   ·split at h
    ·exact absurd h (by simp)
    ·simp only [Except.error.injEq] at h; omega
   ·simp only [Except.error.injEq] at h; omega
  ·split at h
   ·exact absurd h (by simp)
   ·simp only [Except.error.injEq] at h; omega
theorem listOf_ok (s : ByteArray) (qe qn qb : Int) (L : List Spanned) (h : listOf s qe qn qb = .ok L) (hs : s.size ≤ 2147483648) : L.length ≤ 1000000000 ∧ (∀ x ∈ L, FileOk s x) ∧ ∀ x ∈ L, NoNul x.ent.name.data.toList ∧ x.ent.name.size ≤ 60 := by
 unfold listOf at h
 cases hd : dirOf s with
 | error k => rw [hd] at h; cases h
 | ok d =>
  rw [hd] at h
  simp only at h
  split at h
  ·cases h
  ·split at h
   ·cases h
   ·rename_i hl
    cases he : entsGo s d.stop d.count d.place [] with
    | error k => rw [he] at h; cases h
    | ok l =>
     rw [he] at h
     simp only at h
     split at h
     ·cases h
     ·split at h
      ·cases h
      ·cases hsp : spansOf s d.place l with
       | none => rw [hsp] at h; cases h
       | some r =>
        rw [hsp] at h
        simp only at h
        split at h
        ·cases h
        ·split at h
         ·cases h
         ·cases h
          obtain ⟨a1, a2, a3, a4⟩ := dirOf_ok s d hd
          obtain ⟨b1, b2, b3⟩ := entsGo_ok s _ _ _ _ _ he
          obtain ⟨c1, c2⟩ := spansOf_ok s _ _ _ hsp
          have hlen : L.length = l.length := by rw [← c1]; simp
          simp only [List.length_nil] at b2
          have hl' : d.place ≤ d.stop := by
           apply Classical.byContradiction; intro hh; exact hl (fun e => hh e.1)
          have hnm : ∀ x ∈ L, EntOk x.ent ∧ x.ent.name.size ≤ 60 ∧ NoNul x.ent.name.data.toList := by
           intro x hx
           rcases b3 x.ent (c2 x hx).1 with h0 | ⟨h0, h1⟩
           ·cases h0
           ·exact ⟨h0, nameOk_size _ (faultOf_name _ h1)⟩
          refine ⟨by omega, fun x hx => ?_, fun x hx => ⟨(hnm x hx).2.2, (hnm x hx).2.1⟩⟩
          obtain ⟨s1, s2, s3⟩ := spanAt_ok s _ _ _ _ (c2 x hx).2
          exact ⟨(hnm x hx).1.size, by omega, (hnm x hx).2.1⟩
end Go.Proofs.YtnmkmmgaoplfiaaGreatDoor
namespace Go.Proofs.YtnmkmmgaoplfiaaGreatDoor
open Go.RowKit Go.Shelf Go.Lib
theorem folder_last (s : ByteArray) (h : 0 < s.size) : folderB s = (((s[s.size - 1]'(by omega)).toNat : Int) == 47) := by
 unfold folderB
 rw [ByteArray.toList_eq, List.getLast?_eq_getElem?]
 have hl : s.data.toList.length = s.size := by simp
 rw [hl, List.getElem?_eq_getElem (by omega), Array.getElem_toList]
 have e : s.data[s.size - 1]'(by have : s.data.size = s.size := rfl; omega) = s[s.size - 1]'(by omega) := rfl
 rw [e]
 generalize s[s.size - 1]'(by omega) = c
 rw [Bool.eq_iff_iff]
 simp only [decide_eq_true_eq, Option.some.injEq, beq_iff_eq]
 constructor
 ·intro h; rw [h]; rfl
 ·intro h; apply UInt8.toNat_inj.1; simpa using (by omega : c.toNat = 47)
def refL (e : Ent) (four : Nat × Nat × Nat) (place from_ to : Nat) : List Value := [.string e.name, .int .i64 (e.method : Int), .int .i64 (e.sum : Int), .int .i64 (e.packed : Int), .int .i64 (e.size : Int), .int .i64 (place : Int), .int .i64 (e.flags : Int), .int .i64 (e.ahead : Int), .int .i64 (four.1 : Int), .int .i64 (four.2.1 : Int), .int .i64 (four.2.2 : Int), .int .i64 (from_ : Int), .int .i64 (to : Int)]
end Go.Proofs.YtnmkmmgaoplfiaaGreatDoor
