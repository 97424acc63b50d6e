/- Texts of this seat, joined. -/
import Derived.Test.YtnmkmmgaoplfiaaGreatDoorJ10
import Derived.Test.YtnmkmmgaoplfiaaGreatDoorShelfS
import Derived.Test.YtnmkmmgaoplfiaaGreatDoorJ11
import Derived.OwnWalk
import Derived.Maps.AppendAt
import Derived.Deep.Light
import Derived.Deep.QuietTactic
import Derived.BigQuiet
set_option linter.unusedSimpArgs false
set_option linter.unusedVariables false
set_option maxRecDepth 100000
set_option maxHeartbeats 20000000
namespace Go.Proofs.YtnmkmmgaoplfiaaGreatDoor
open Go.RowKit Go.Shelf Go.Lib Go.Sort
def encS (x : Nat × Nat) : List Value := [.int .i64 (x.1 : Int), .int .i64 (x.2 : Int)]
def cmpS (x y : Nat × Nat) : Int := Lib.compareInt (x.1 : Int) (y.1 : Int)
theorem cmpInt_c (x y : Int) (w : World) : Calls Tryz.prog 54 #[.int .i64 x, .int .i64 y] w fun e w' => e = .returned (.int .i64 (Lib.compareInt x y)) ∧ w = w' :=
 (Any.cmp_Compare_int Tryz.lays122 x y w).mono fun _ _ h => ⟨h.1, h.2.symm⟩
theorem closureS_c (x y : Nat × Nat) (W : World) : Calls Tryz.prog 53 #[.agg #[.int .i64 (x.1 : Int), .int .i64 (x.2 : Int)], .agg #[.int .i64 (y.1 : Int), .int .i64 (y.2 : Int)]] W fun e w' => e = .returned (.int .i64 (cmpS x y)) ∧ ∃ q os', w' = grow (W.drewN q) os' := by
 have hcon := fun W' => cmpInt_c (x.1 : Int) (y.1 : Int) W'
 unfold cmpS
 generalize Lib.compareInt (x.1 : Int) (y.1 : Int) = r at hcon ⊢
 go_enter Tryz.func53, Tryz.ntmps53
 go_wp2_with fail
 refine (hcon _).mono ?_
 rintro e w' ⟨rfl, rfl⟩
 go_wp2
 go_ret
 exact ⟨rfl, 0, _, by rw [alloc_eq_grow, alloc_eq_grow, grow_grow]; rfl⟩
theorem cmpLaysS (blk off size : Nat) (w : World) : CmpLays Tryz.prog 53 #[] encS 2 cmpS blk off size w :=
 fun _ _ _ _ x y => closureS_c x y _
theorem ltS (x y : Nat × Nat) : ltOf cmpS x y = decide (x.1 < y.1) := by
 unfold ltOf cmpS Lib.compareInt
 by_cases h1 : x.1 < y.1
 ·simp [h1]
 ·by_cases h2 : y.1 < x.1 <;> simp [h1, h2]
theorem swoS : SWO (ltOf cmpS) where
 irrefl x := by rw [ltS]; simp
 trans x y z h1 h2 := by rw [ltS] at *; simp at *; omega
 ntrans x y z h1 h2 := by rw [ltS] at *; simp at *; omega
theorem touch_sort {α : Type} [Inhabited α] (enc : α → List Value) (k : Nat) (w : World) (blk off n : Nat) (d : Array α) (os : Array Obj) : Touch (fun b => b = blk) w (sortWorldK enc k w blk off n d os) := by
 refine ⟨rfl, rfl, rfl, ?_, fun b hb hs => ?_⟩
 ·simp [sortWorldK, putRowK]
 ·unfold sortWorldK putRowK putRow mapBlock
  rw [heap_grow_old _ _ (by simpa using hb)]
  show (w.heap.modify blk _)[b]? = _
  rw [Array.getElem?_modify, if_neg (fun e => hs e.symm)]
theorem holds_sort {α : Type} [Inhabited α] (enc : α → List Value) (k : Nat) (w : World) (blk off n : Nat) (d0 d : Array α) (os : Array Obj) (hb : blk < w.heap.size) (h0 : HoldsK enc k w blk off d0) (hs : d.size = d0.size) : HoldsK enc k (sortWorldK enc k w blk off n d os) blk off d :=
 holdsK_grow enc k _ os blk off d (by simpa [putRowK] using hb) (holdsK_putRowK enc k _ blk off d0 d (holdsK_ahead enc k w n blk off d0 h0) hs)
/-! ### Pairs -/
def meetB (a b : Nat × Nat) : Bool := decide (a.1 < b.2) && decide (b.1 < a.2)
theorem anyPair_false {α : Type} (r : α → α → Bool) : ∀ l : List α, anyPair r l = false ↔ l.Pairwise fun a b => r a b = false
 | [] => by simp [anyPair]
 | a :: l => by
  rw [anyPair, Bool.or_eq_false_iff, List.pairwise_cons, anyPair_false r l]
  simp
theorem anyPair_perm {α : Type} (r : α → α → Bool) (hr : ∀ a b, r a b = r b a) {l l' : List α} (h : l.Perm l') : anyPair r l = anyPair r l' := by
 have h1 := anyPair_false r l
 have h2 := anyPair_false r l'
 have h3 : l.Pairwise (fun a b => r a b = false) ↔ l'.Pairwise (fun a b => r a b = false) := h.pairwise_iff (fun {a b} hab => by rw [hr]; exact hab)
 cases ha : anyPair r l <;> cases hb : anyPair r l' <;> simp_all
theorem neighbours (d : Array (Nat × Nat)) (hS : SortedIn (ltOf cmpS) 0 d.size d) (hne : ∀ x ∈ d.toList, x.1 < x.2) : anyPair meetB d.toList = false ↔ ∀ i, i + 1 < d.size → ¬ d[i + 1]!.1 < d[i]!.2 := by
 have hle : ∀ i j, i < j → j < d.size → d[i]!.1 ≤ d[j]!.1 := fun i j hij hj => by
  have := hS i j (Nat.zero_le _) hij hj
  rw [ltS] at this; simp at this; omega
 have hget : ∀ i (h : i < d.size), d.toList[i]'(by simpa using h) = d[i]! := fun i h => by rw [getElem!_pos d i h]; simp
 have hn : ∀ i, i < d.size → d[i]!.1 < d[i]!.2 := fun i h => by
  have := hne (d.toList[i]'(by simpa using h)) (List.getElem_mem _)
  rw [hget i h] at this; exact this
 rw [anyPair_false, List.pairwise_iff_getElem]
 constructor
 ·intro h i hi
  have h1 := h i (i + 1) (by simp; omega) (by simpa using hi) (by omega)
  rw [hget i (by omega), hget (i + 1) hi] at h1
  unfold meetB at h1
  have h2 := hle i (i + 1) (by omega) hi
  have h3 := hn (i + 1) hi
  rw [Bool.and_eq_false_iff] at h1
  simp at h1
  omega
 ·intro h i j hi hj hij
  rw [hget i (by simpa using hi), hget j (by simpa using hj)]
  have hj' : j < d.size := by simpa using hj
  have h1 := h i (by omega)
  have h2 : d[i + 1]!.1 ≤ d[j]!.1 := by
   by_cases e : i + 1 = j
   ·rw [e]; exact Nat.le_refl _
   ·exact hle (i + 1) j (by omega) hj'
  unfold meetB
  rw [Bool.and_eq_false_iff]
  simp
  omega
end Go.Proofs.YtnmkmmgaoplfiaaGreatDoor
namespace Go.Proofs.YtnmkmmgaoplfiaaGreatDoor
open Go.RowKit Go.Shelf Go.Lib Go.Sort
theorem Tryz.infoSpan : (Tryz.prog.info? 123).map (fun i => (i.zero, i.size, i.bytes)) = some (some (.agg #[.int .i64 0, .int .i64 0]), 2, 16) := by kernel_rfl
def spanOf (x : Spanned) : Nat × Nat := (x.ent.ahead, x.stop)
def spV (l : List (Nat × Nat)) : List Value := l.flatMap encS
theorem spV_snoc (l : List (Nat × Nat)) (x : Nat × Nat) : spV (l ++ [x]) = spV l ++ encS x := by simp [spV]
theorem spV_get (l : List (Nat × Nat)) : ∀ i (h : i < l.length), (spV l)[i * 2]? = some (.int .i64 (l[i].1 : Int)) ∧ (spV l)[i * 2 + 1]? = some (.int .i64 (l[i].2 : Int)) := by
 induction l with
 | nil => intro i h; simp at h
 | cons a l ih =>
  intro i h
  have e : spV (a :: l) = .int .i64 (a.1 : Int) :: .int .i64 (a.2 : Int) :: spV l := rfl
  cases i with
  | zero => rw [e]; exact ⟨rfl, rfl⟩
  | succ i =>
   have := ih i (by simpa using h)
   rw [e, show (i + 1) * 2 = i * 2 + 1 + 1 by omega]
   simpa using this
theorem cell_two_new (w : World) (u v : Value) (t : TypeId) : ∀ (j : Nat) (x : Value), [u, v][j]? = some x → (w.alloc (.cells #[u, v] t)).cell? ((⟨w.heap.size, 0, none⟩ : Addr).add j) = some x := by
 intro j x h
 have hb := heap_alloc_new w (.cells #[u, v] t)
 rcases j with _ | _ | j
 ·simp at h; subst h; rw [show ((⟨w.heap.size, 0, none⟩ : Addr).add 0) = ⟨w.heap.size, 0, none⟩ from rfl, row_cell hb 0]; rfl
 ·simp at h; subst h; rw [show ((⟨w.heap.size, 0, none⟩ : Addr).add 1) = ⟨w.heap.size, 1, none⟩ from rfl, row_cell hb 1]; rfl
 ·simp at h
theorem holds_owned {w : World} {base g cap : Nat} {l : List (Nat × Nat)} (h : w.ownsRow base 123 2 (.slice (some ⟨g, 0, none⟩) l.length cap) l.length (spV l)) : HoldsK encS 2 w g 0 l.toArray ∧ g < w.heap.size := by
 obtain ⟨h1, ⟨h2, _⟩ | ⟨g', cap', cur, e, hb, hg, h3, h4, h5, h6⟩⟩ := h
 ·cases h2
 ·cases e
  refine ⟨?_, (Array.getElem?_eq_some_iff.1 hg).1⟩
  intro j hj
  rw [size_flatK] at hj
  rw [get_flatK _ _ _ _ hj]
  have hj' : j < l.length * 2 := by simpa using hj
  have hi : j / 2 < l.length := by omega
  obtain ⟨a1, a2⟩ := spV_get l (j / 2) hi
  rw [Nat.zero_add]
  refine ⟨?_, frozen_row hg j⟩
  unfold World.cell?
  rw [hg]
  simp only
  have e1 : cur[j]? = (spV l)[j]? := by
   rw [← h6, List.getElem?_take_of_lt hj']; simp
  have e2 : l.toArray[j / 2]! = l[j / 2] := by rw [getElem!_pos _ _ (by simpa using hi)]; simp
  rw [e2]
  show cur[j]? = _
  rw [e1]
  rcases (by omega : j % 2 = 0 ∨ j % 2 = 1) with hm | hm
  ·rw [hm]
   exact (congrArg (fun t => (spV l)[t]?) (show j = j / 2 * 2 by omega)).trans a1
  ·rw [hm]
   exact (congrArg (fun t => (spV l)[t]?) (show j = j / 2 * 2 + 1 by omega)).trans a2
theorem anyOverlap_c (w : World) (a : Option Addr) (g cap : Nat) (L : List Spanned) (ha : 0 < L.length → a = some ⟨g, 0, none⟩) (hl : 0 < L.length → LstAt w g L) (hn : L.length ≤ 10000000000) (hne : ∀ x ∈ L, x.ent.ahead < x.stop) :
  Calls Tryz.prog 30 #[.slice a L.length cap] w fun r w' => r = .returned (.bool (anyPair meetB (L.map spanOf))) ∧ Touch (fun _ => False) w w' := by
 obtain ⟨i0, hi, hz0, hz1, hz2⟩ := info_parts Tryz.infoSpan
 obtain ⟨n, hN⟩ : ∃ n, n = L.length := ⟨_, rfl⟩
 rw [← hN]
 have ha' : Hid (0 < L.length → a = some ⟨g, 0, none⟩) := ha
 have hl' : Hid (0 < L.length → LstAt w g L) := hl
 have hN' : Hid (n = L.length) := hN
 have hn' : n ≤ 10000000000 := by omega
 have hby : i0.bytes * n ≤ 281474976710656 := by rw [hz2]; omega
 have hnm : n ≤ maxLen := by unfold maxLen; omega
 clear ha hl hN hn
 go_enter Tryz.func30, Tryz.ntmps30
 go_wp2_with (at_make; refine wpList_make_own _ rfl _ _ 131 rfl w.heap.size 123 i0 (.agg #[.int .i64 0, .int .i64 0]) 2 Tryz.underlying131 hi hz0 hz1 .i64 .i64 _ n rfl rfl rfl hby hnm (Nat.le_refl _) ?_; intro w0 ho0 hg0)
 have T0 : Touch (fun _ => False) w w0 := (Touch.refl (fun _ => False) w).grownNew hg0 (fun k e => by cases e)
 clear hg0
 go_loopw [3, 12] (fun v i wr => ∃ k : Nat, k ≤ n ∧ i = .int .i64 (k : Int) ∧ wr.ownsRow w.heap.size 123 2 v k (spV ((L.take k).map spanOf)) ∧ v ≠ .slice none 0 0 ∧ Touch (fun _ => False) w wr) (fun v i wr => n - (intOf i).toNat)
 case atStart => exact ⟨0, Nat.zero_le _, rfl, ho0, by simp, T0⟩
 case round =>
  obtain ⟨k, hk, rfl, ho, hnn, ht⟩ := hrel
  have hsz := ht.size
  by_cases hlt : k < n
  ·have hlt' : k < L.length := by have := hN'.out; omega
   obtain rfl := ha'.out (by omega)
   have hL := (hl'.out (by omega)).keep ht (fun e => e)
   have hC := hL.cells k hlt'
   have HX : Hid ((L.take (k + 1)).map spanOf = (L.take k).map spanOf ++ [(L[k].ent.ahead, L[k].stop)]) := by
    unfold Hid; rw [List.take_succ_eq_append_getElem hlt', List.map_append]; rfl
   revert hC HX
   generalize L[k] = x
   intro hC HX
   have c0 := hC 0 (by omega)
   have c1 := hC 1 (by omega)
   have c2 := hC 2 (by omega)
   have c3 := hC 3 (by omega)
   have c4 := hC 4 (by omega)
   have c5 := hC 5 (by omega)
   have c6 := hC 6 (by omega)
   have c7 := hC 7 (by omega)
   have c8 := hC 8 (by omega)
   have c9 := hC 9 (by omega)
   have c10 := hC 10 (by omega)
   have c11 := hC 11 (by omega)
   have c12 := hC 12 (by omega)
   simp only [listL, List.getElem?_cons_zero, List.getElem?_cons_succ, Nat.add_zero] at c0 c1 c2 c3 c4 c5 c6 c7 c8 c9 c10 c11 c12
   clear hC hlt' hL
   have b1 : k + 1 ≤ maxLen := by unfold maxLen; omega
   have b2 : (k + 1) * 16 ≤ 140737488355328 := by omega
   have hq : ∀ o, ∀ (j : Nat) (y : Value), [Value.int .i64 (x.ent.ahead : Int), Value.int .i64 (x.stop : Int)][j]? = some y → ((wr.alloc o).alloc (Obj.cells #[.int .i64 (x.ent.ahead : Int), .int .i64 (x.stop : Int)] 123)).cell? ((⟨wr.heap.size + 1, 0, none⟩ : Addr).add j) = some y := by
    intro o j y h
    have := cell_two_new (wr.alloc o) (.int .i64 (x.ent.ahead : Int)) (.int .i64 (x.stop : Int)) 123 j y h
    rwa [World.size_alloc] at this
   have HQ : Hid (∀ o, ∀ (j : Nat) (y : Value), [Value.int .i64 (x.ent.ahead : Int), Value.int .i64 (x.stop : Int)][j]? = some y → ((wr.alloc o).alloc (Obj.cells #[.int .i64 (x.ent.ahead : Int), .int .i64 (x.stop : Int)] 123)).cell? ((⟨wr.heap.size + 1, 0, none⟩ : Addr).add j) = some y) := hq
   clear hq
   go_wp2_with (at_builtin; refine wpList_append_own _ rfl _ _ 131 rfl w.heap.size 123 i0 (.agg #[.int .i64 0, .int .i64 0]) 2 16 Tryz.underlying131 hi hz0 hz1 hz2 rfl (by decide) _ _ _ rfl ((ho.alloc _).alloc _) ⟨_, 0, none⟩ 1 1 [.int .i64 (x.ent.ahead : Int), .int .i64 (x.stop : Int)] rfl rfl (HQ.out _) (by simp [Value.oneCell']) b1 b2 (by simp; omega) ?_; intro v' w1 hown' hgrow hnil)
   refine ⟨⟨k + 1, by omega, by go_num, ?_, ?_, ?_⟩, by simp [intOf]; omega⟩
   ·rw [HX.out, spV_snoc]; exact hown'
   ·intro e; have := (hnil.1 e).2; omega
   ·exact ((ht.alloc _).alloc _).grownNew hgrow (fun j hj => (ho.lt j hj).1)
  ·obtain rfl : k = n := by omega
   obtain ⟨g2, cap2, rfl⟩ : ∃ g2 cap2, u3 = .slice (some ⟨g2, 0, none⟩) k cap2 := by
    obtain ⟨_, ⟨h2, _⟩ | ⟨g', cap', cur, e, _⟩⟩ := ho
    ·exact absurd h2 hnn
    ·exact ⟨g', cap', e⟩
   have hlen : ((L.take k).map spanOf).length = k := by simp; have := hN'.out; omega
   have hall : (L.take k).map spanOf = L.map spanOf := by rw [List.take_of_length_le (by have := hN'.out; omega)]
   have hbase : w.heap.size ≤ g2 := by
    obtain ⟨_, ⟨h2, _⟩ | ⟨g', cap', cur, e, hb, _⟩⟩ := ho
    ·cases h2
    ·cases e; exact hb
   rw [hall] at hlen ho
   have hh : wr.ownsRow w.heap.size 123 2 (.slice (some ⟨g2, 0, none⟩) (L.map spanOf).length cap2) (L.map spanOf).length (spV (L.map spanOf)) := by rw [hlen]; exact ho
   obtain ⟨hH, hlt2⟩ := holds_owned hh
   have hcon := AnyQ.slices_SortFunc Tryz.sortSpan 2 Tryz.isAgg123 Tryz.sizeOf123 encS (fun _ => rfl) (fun x v hv => by simp [encS] at hv; rcases hv with rfl | rfl <;> rfl) cmpS swoS 53 #[] g2 0 cap2 (L.map spanOf).toArray wr (enters_of Tryz.func53 (by kernel_rfl) rfl) (cmpLaysS g2 0 _ wr) hH hlt2 (by simp; have := hN'.out; omega)
   have hsz2 : (L.map spanOf).toArray.size = k := by simpa using hlen
   rw [hsz2] at hcon
   have HC : Hid (Calls Tryz.prog 52 #[.slice (some ⟨g2, 0, none⟩) k cap2, .func (.func 53) #[] #[]] wr fun e w' => ∃ d' : Array (Nat × Nat), e = .returned (.tuple #[]) ∧ d'.size = k ∧ d'.toList.Perm (L.map spanOf) ∧ SortedIn (ltOf cmpS) 0 k d' ∧ HoldsK encS 2 w' g2 0 d' ∧ Touch (fun b => b = g2) wr w') := by
    refine hcon.mono ?_
    rintro e w' ⟨he, d', m, os, hp, hso, rfl⟩
    have hs' : d'.size = k := by rw [hp.1, hsz2]
    refine ⟨d', he, hs', ?_, hso, holds_sort encS 2 wr g2 0 m _ d' os hlt2 hH (by rw [hs', hsz2]), touch_sort encS 2 wr g2 0 m d' os⟩
    have h3 := hp.2.2
    have e1 : d'.extract 0 k = d' := by rw [← hs']; simp
    have e2 : ((L.map spanOf).toArray.extract 0 k).toList = L.map spanOf := by
     rw [Array.toList_extract, List.extract_eq_take_drop]; simp only [List.drop_zero, Nat.sub_zero]; exact List.take_of_length_le (by rw [hlen]; exact Nat.le_refl _)
    rw [e1, e2] at h3; exact h3
   clear hcon hH ho hh hall hnn
   go_wp2_with fail
   refine HC.out.mono ?_
   rintro e w2 ⟨d, rfl, hds, hperm, hsort, hold, t2⟩
   have T2 := ht.onNew t2 hbase
   have HF : Hid (anyPair meetB (L.map spanOf) = false ↔ ∀ i, i + 1 < d.size → ¬ d[i + 1]!.1 < d[i]!.2) := by
    unfold Hid
    rw [← anyPair_perm meetB (fun a b => by unfold meetB; rw [Bool.and_comm]) hperm]
    rw [← hds] at hsort
    refine neighbours d hsort (fun x hx => ?_)
    have hx' := hperm.mem_iff.1 hx
    rw [List.mem_map] at hx'
    obtain ⟨y, hy, rfl⟩ := hx'
    exact hne y hy
   obtain ⟨R, hR⟩ : ∃ R, R = anyPair meetB (L.map spanOf) := ⟨_, rfl⟩
   have FIN : Hid (∀ v : Bool, v = R → Ending.returned (.bool v) = Ending.returned (.bool (anyPair meetB (L.map spanOf)))) := fun v hv => by rw [hv, hR]
   rw [← hR] at HF
   have HH : Hid (∀ i, i + 1 < k → w2.cell? ⟨g2, (i + 1) * 2, none⟩ = some (.int .i64 (d[i + 1]!.1 : Int)) ∧ w2.cell? ⟨g2, i * 2 + 1, none⟩ = some (.int .i64 (d[i]!.2 : Int))) := by
    intro i hi
    have h1 := (hold.cell (i := i + 1) (c := 0) (by omega) (by omega)).1
    have h2 := (hold.cell (i := i) (c := 1) (by omega) (by omega)).1
    simp only [Nat.zero_add, Nat.add_zero] at h1 h2
    exact ⟨h1, h2⟩
   clear HC hperm hsort hold t2 hR hne
   go_wp2
   have HK : Hid (d.size = k) := hds
   clear hds
   go_loopw [6] (fun i wr => ∃ m : Nat, i = .int .i64 ((m : Int) + 1) ∧ (m = 0 ∨ m + 1 ≤ k) ∧ Hid (∀ j, j < m → ¬ d[j + 1]!.1 < d[j]!.2) ∧ ∃ q, wr = w2.drewN q) (fun i wr => k - (intOf i).toNat)
   case atStart => exact ⟨0, rfl, .inl rfl, (fun j hj => by omega), 0, rfl⟩
   case round =>
    obtain ⟨m, rfl, hm, HJ, q, rfl⟩ := hrel
    by_cases hmk : m + 1 < k
    ·obtain ⟨x1, x2⟩ := HH.out m hmk
     have y1 : (m : Int) + 1 < (k : Int) := by omega
     have y2 : (m : Int) + 1 - 1 = (m : Int) := by omega
     have y3 : (m : Int) < (k : Int) := by omega
     by_cases hov : (d[m + 1]!.1 : Int) < (d[m]!.2 : Int)
     ·have HE : Hid (R = true) := by
       unfold Hid
       cases hr : R with
       | true => rfl
       | false => exact absurd (by omega : d[m + 1]!.1 < d[m]!.2) (HF.out.1 hr m (by have := HK.out; omega))
      go_wp2
      go_quiet (fail)
      go_wp2
      go_ret
      exact ⟨FIN.out true HE.out.symm, (T2.drewN _).drewN _⟩
     ·go_wp2
      go_quiet (fail)
      go_wp2
      refine ⟨⟨m + 1, by go_num, .inr (by omega), ?_, _, rfl⟩, by simp [intOf]; omega⟩
      intro j hj
      by_cases e : j = m
      ·rw [e]; omega
      ·exact HJ.out j (by omega)
    ·have HE : Hid (R = false) := by
      unfold Hid
      refine HF.out.2 (fun i hi => HJ.out i ?_)
      have := HK.out; omega
     have y1 : ¬ (m : Int) + 1 < (k : Int) := by omega
     go_wp2
     go_ret
     exact ⟨FIN.out false HE.out.symm, T2.drewN _⟩
end Go.Proofs.YtnmkmmgaoplfiaaGreatDoor
