/- A code is made of its lengths: 'newCode'. -/
import Derived.Test.YtobfkhapeejkfaaGreatDoorWCode
namespace Go.Proofs.YtobfkhapeejkfaaGreatDoor
open Go.RowKit
set_option linter.unusedSimpArgs false
set_option linter.unusedVariables false

/-- 17 cells: 16 numbers, and a value. -/
def cArr (f : Nat → Nat) (v : Value) : Array Value :=
  #[.int .i64 (f 0 : Nat), .int .i64 (f 1 : Nat), .int .i64 (f 2 : Nat), .int .i64 (f 3 : Nat), .int .i64 (f 4 : Nat), .int .i64 (f 5 : Nat), .int .i64 (f 6 : Nat), .int .i64 (f 7 : Nat),
    .int .i64 (f 8 : Nat), .int .i64 (f 9 : Nat), .int .i64 (f 10 : Nat), .int .i64 (f 11 : Nat), .int .i64 (f 12 : Nat), .int .i64 (f 13 : Nat), .int .i64 (f 14 : Nat), .int .i64 (f 15 : Nat), v]
/-- 16 cells. -/
def pArr (f : Nat → Nat) : Array Value :=
  #[.int .i64 (f 0 : Nat), .int .i64 (f 1 : Nat), .int .i64 (f 2 : Nat), .int .i64 (f 3 : Nat), .int .i64 (f 4 : Nat), .int .i64 (f 5 : Nat), .int .i64 (f 6 : Nat), .int .i64 (f 7 : Nat),
    .int .i64 (f 8 : Nat), .int .i64 (f 9 : Nat), .int .i64 (f 10 : Nat), .int .i64 (f 11 : Nat), .int .i64 (f 12 : Nat), .int .i64 (f 13 : Nat), .int .i64 (f 14 : Nat), .int .i64 (f 15 : Nat)]
/-- A function turned at one place. -/
def upd (f : Nat → Nat) (x y : Nat) (j : Nat) : Nat := if j = x then y else f j
/-- A code's 17 cells. -/
def codeCells (L : List Nat) (v : Value) : Array Value := cArr (cnt L) v

theorem lt16 {x : Nat} (h : x < 16) : x = 0 ∨ x = 1 ∨ x = 2 ∨ x = 3 ∨ x = 4 ∨ x = 5 ∨ x = 6 ∨ x = 7 ∨ x = 8 ∨ x = 9 ∨ x = 10 ∨ x = 11 ∨ x = 12 ∨ x = 13 ∨ x = 14 ∨ x = 15 := by omega
theorem cArr_at (f : Nat → Nat) (v : Value) (x : Nat) (h : x < 16) : (cArr f v)[x]? = some (.int .i64 (f x : Nat)) := by
  rcases lt16 h with rfl | rfl | rfl | rfl | rfl | rfl | rfl | rfl | rfl | rfl | rfl | rfl | rfl | rfl | rfl | rfl <;> rfl
theorem cArr_set (f : Nat → Nat) (v : Value) (x y : Nat) (h : x < 16) : (cArr f v).setIfInBounds x (.int .i64 (y : Nat)) = cArr (upd f x y) v := by
  rcases lt16 h with rfl | rfl | rfl | rfl | rfl | rfl | rfl | rfl | rfl | rfl | rfl | rfl | rfl | rfl | rfl | rfl <;> simp [cArr, upd]
theorem cArr_set16 (f : Nat → Nat) (v u : Value) : (cArr f v).setIfInBounds 16 u = cArr f u := by simp [cArr]
theorem pArr_at (f : Nat → Nat) (x : Nat) (h : x < 16) : (pArr f)[x]? = some (.int .i64 (f x : Nat)) := by
  rcases lt16 h with rfl | rfl | rfl | rfl | rfl | rfl | rfl | rfl | rfl | rfl | rfl | rfl | rfl | rfl | rfl | rfl <;> rfl
theorem pArr_set (f : Nat → Nat) (x y : Nat) (h : x < 16) : (pArr f).setIfInBounds x (.int .i64 (y : Nat)) = pArr (upd f x y) := by
  rcases lt16 h with rfl | rfl | rfl | rfl | rfl | rfl | rfl | rfl | rfl | rfl | rfl | rfl | rfl | rfl | rfl | rfl <;> simp [pArr, upd]
theorem cArr_congr {f g : Nat → Nat} (v : Value) (h : ∀ j, j < 16 → f j = g j) : cArr f v = cArr g v := by
  simp only [cArr, h 0 (by omega), h 1 (by omega), h 2 (by omega), h 3 (by omega), h 4 (by omega), h 5 (by omega), h 6 (by omega), h 7 (by omega), h 8 (by omega), h 9 (by omega), h 10 (by omega), h 11 (by omega), h 12 (by omega), h 13 (by omega), h 14 (by omega), h 15 (by omega)]
theorem pArr_congr {f g : Nat → Nat} (h : ∀ j, j < 16 → f j = g j) : pArr f = pArr g := by
  simp only [pArr, h 0 (by omega), h 1 (by omega), h 2 (by omega), h 3 (by omega), h 4 (by omega), h 5 (by omega), h 6 (by omega), h 7 (by omega), h 8 (by omega), h 9 (by omega), h 10 (by omega), h 11 (by omega), h 12 (by omega), h 13 (by omega), h 14 (by omega), h 15 (by omega)]

/-- A row that is held: its cells, that none is frozen, a store. -/
theorem row_cell {w : World} {g : Nat} {cs : Array Value} {t : TypeId} (h : w.heap[g]? = some (.cells cs t (0, 0))) (j : Nat) : w.cell? ⟨g, j, none⟩ = cs[j]? := cell_of_row w g j cs t _ h
theorem row_fr {w : World} {g : Nat} {cs : Array Value} {t : TypeId} (h : w.heap[g]? = some (.cells cs t (0, 0))) (j : Nat) : w.frozen? ⟨g, j, none⟩ = false := frozen_of_row w g j cs t h
theorem row_set {w : World} {g : Nat} {cs : Array Value} {t : TypeId} (h : w.heap[g]? = some (.cells cs t (0, 0))) (j : Nat) (v : Value) : (w.setCell ⟨g, j, none⟩ v).heap[g]? = some (.cells (cs.setIfInBounds j v) t (0, 0)) := heap_setCell_same w g j cs t v h
theorem row_ne {w : World} {g k j : Nat} {v : Value} (h : k ≠ g) : (w.setCell ⟨g, j, none⟩ v).heap[k]? = w.heap[k]? := heap_setCell_other w ⟨g, j, none⟩ k v h

theorem take_count {L : List Nat} {k : Nat} (h : k < L.length) (j : Nat) : (L.take (k + 1)).count j = upd (fun i => (L.take k).count i) L[k] ((L.take k).count L[k] + 1) j := by
  rw [List.take_succ_eq_append_getElem h, List.count_append]
  unfold upd
  by_cases e : j = L[k]
  · rw [if_pos e, e]; simp
  · rw [if_neg e]; simp [List.count_cons]; omega

theorem rank_lt {L : List Nat} {q : Nat} (h : q < L.length) : (L.take q).count L[q] < L.count L[q] := by
  have e : L = L.take q ++ (L[q] :: L.drop (q + 1)) := by rw [← List.drop_eq_getElem_cons h, List.take_append_drop]
  have : L.count L[q] = (L.take q ++ (L[q] :: L.drop (q + 1))).count L[q] := by rw [← e]
  rw [this, List.count_append, List.count_cons_self]; omega

theorem rank_ne {L : List Nat} {i q : Nat} (hi : i < L.length) (hq : q < L.length) (hlt : i < q) (h1 : 1 ≤ L[i]) (h2 : 1 ≤ L[q]) (e : placeOf L L[q] + (L.take q).count L[q] = placeOf L L[i] + (L.take i).count L[i]) : False := by
  have ri := rank_lt hi
  have rq := rank_lt hq
  by_cases he : L[i] = L[q]
  · have hlt2 : (L.take i).count L[i] < (L.take q).count L[i] := by
      have h3 : i < (L.take q).length := by rw [List.length_take]; omega
      have h4 := rank_lt h3
      rw [List.getElem_take, List.take_take, Nat.min_eq_left (by omega)] at h4
      exact h4
    rw [he] at hlt2 e; omega
  · have ci : cnt L L[i] = L.count L[i] := by unfold cnt; rw [if_neg (by omega)]
    have cq : cnt L L[q] = L.count L[q] := by unfold cnt; rw [if_neg (by omega)]
    rcases Nat.lt_or_gt_of_ne he with h | h
    · have := placeOf_mono L (show L[i] + 1 ≤ L[q] by omega)
      simp only [placeOf] at this; omega
    · have := placeOf_mono L (show L[q] + 1 ≤ L[i] by omega)
      simp only [placeOf] at this; omega

theorem cArr_one (f : Nat → Nat) (a : Option Addr) (n c : Nat) : (cArr f (.slice a n c)).all (fun x => x.oneCell') = true := by simp [cArr, Value.oneCell']

theorem Tryz.infoInt : (Tryz.prog.info? 3).map (fun i => (i.zero, i.size, i.bytes)) = some (some (.int .i64 0), 1, 8) := by kernel_rfl

set_option maxRecDepth 100000 in
set_option maxHeartbeats 1000000 in
theorem newCode_c (w : World) (lb lo n cap : Nat) (L : List Nat) (hlen : L.length = n) (hn : n ≤ 400) (hL : ∀ x ∈ L, x ≤ 15) (hcells : ∀ j (h : j < L.length), w.cell? ⟨lb, lo + j, none⟩ = some (.int .i64 (L[j] : Nat))) :
    Calls Tryz.prog 180 #[.slice (some ⟨lb, lo, none⟩) n cap] w fun e w' => ∃ nb cap', e = .returned (.agg (codeCells L (.slice (some ⟨nb, 0, none⟩) (placeOf L 16) cap'))) ∧ w.heap.size ≤ nb ∧ nb < w'.heap.size ∧
      (∀ n r, 1 ≤ n → n < 16 → r < cnt L n → w'.cell? ⟨nb, placeOf L n + r, none⟩ = some (.int .i64 (nth L n r : Nat))) ∧ Typed w' nb 3 ∧ Touch (fun _ => False) w w' := by
  go_enter Tryz.func180, Tryz.ntmps180
  go_wp2
  go_loopw [14] (fun i wr => ∃ k : Nat, k ≤ n ∧ i = .int .i64 k ∧ wr.heap[w.heap.size]? = some (.cells (cArr (fun _ => 0) (.slice none 0 0)) 270 (0, 0)) ∧ wr.heap[w.heap.size + 1]? = some (.cells (cArr (fun j => (L.take k).count j) (.slice none 0 0)) 270 (0, 0)) ∧ wr.heap.size = w.heap.size + 2 ∧ Touch (fun _ => False) w wr) (fun i _ => n - (intOf i).toNat)
  case atStart => exact ⟨0, by omega, rfl, by rw [Below.heap_alloc _ _ _ (by simp)]; exact heap_alloc_new w _, by simp only [List.take_zero, List.count_nil]; exact heap_alloc2_new w _ _, by simp, ((Touch.refl _ _).alloc _).alloc _⟩
  case round =>
    obtain ⟨k, hk, rfl, r0, r1, hsz, ht⟩ := hrel
    by_cases hlt : k < n
    · have hk' : k < L.length := by omega
      have hin : L[k] ≤ 15 := hL _ (List.getElem_mem hk')
      have hcell : wr.cell? ⟨lb, lo + k, none⟩ = some (.int .i64 (L[k] : Nat)) := ht.at (hcells k hk') (fun h => h)
      have hle : (L.take k).count L[k] ≤ k := Nat.le_trans List.count_le_length (List.length_take_le _ _)
      obtain ⟨x, hx⟩ : ∃ x, x = L[k] := ⟨_, rfl⟩
      have HX : Hid (x = L[k]) := hx
      rw [← hx] at hcell hin hle
      clear hx
      have hc1 : wr.cell? ⟨w.heap.size + 1, x, none⟩ = some (.int .i64 ((L.take k).count x : Nat)) := by rw [row_cell r1, cArr_at _ _ _ (by omega)]
      have hf1 := row_fr r1 x
      go_wp2
      go_roundw
      case rel => 
        refine ⟨k + 1, by omega, by go_num, by rw [row_ne (by omega)]; exact r0, ?_, by rw [size_setCell]; exact hsz, ht.setNew (by simp) _⟩
        rw [row_set r1]
        have e : (((L.take k).count x : Nat) : Int) + 1 = (((L.take k).count x + 1 : Nat) : Int) := by omega
        rw [e, cArr_set _ _ _ _ (by omega)]
        congr 2
        refine cArr_congr _ fun j _ => ?_
        rw [take_count hk', HX.out]
      case measure => simp [intOf]; omega
    · obtain rfl : k = n := by omega
      have htk : L.take k = L := List.take_of_length_le (by omega)
      rw [htk] at r1
      have hc0 : wr.cell? ⟨w.heap.size + 1, 0, none⟩ = some (.int .i64 (L.count 0 : Nat)) := by rw [row_cell r1, cArr_at _ _ _ (by omega)]
      have hf0 := row_fr r1 0
      have hle0 : L.count 0 ≤ k := by have := List.count_le_length (a := 0) (l := L); omega
      go_wp2
      go_loopw [8] (fun i wr => ∃ l : Nat, 1 ≤ l ∧ l ≤ 15 ∧ i = .int .i64 l ∧ wr.heap[w.heap.size]? = some (.cells (cArr (fun _ => 0) (.slice none 0 0)) 270 (0, 0)) ∧ wr.heap[w.heap.size + 1]? = some (.cells (cArr (cnt L) (.slice none 0 0)) 270 (0, 0)) ∧ wr.heap[w.heap.size + 2]? = some (.cells (pArr (fun j => if j ≤ l then placeOf L j else 0)) 268 (0, 0)) ∧ wr.heap.size = w.heap.size + 3 ∧ Touch (fun _ => False) w wr) (fun i _ => 15 - (intOf i).toNat)
      case atStart =>
        refine ⟨1, by omega, by omega, rfl, ?_, ?_, ?_, ?_, ?_⟩
        · rw [Below.heap_alloc _ _ _ (by rw [size_setCell]; omega), row_ne (by omega)]; exact r0
        · rw [Below.heap_alloc _ _ _ (by rw [size_setCell]; omega), row_set r1]
          have := cArr_set (fun j => L.count j) (.slice none 0 0) 0 0 (by omega)
          rw [show (Value.int IntKind.i64 0) = (Value.int IntKind.i64 ((0 : Nat) : Int)) from rfl, this]
          congr 2
        · rw [show w.heap.size + 2 = (wr.setCell ⟨w.heap.size + 1, 0, none⟩ (Value.int IntKind.i64 0)).heap.size by rw [size_setCell]; omega, heap_alloc_new]
          congr 2
        · simp [size_setCell]; omega
        · exact (ht.setNew (by simp) _).alloc _
      case round =>
        clear r0 r1 ht hc0 hf0 hsz
        obtain ⟨l, hl1, hl2, rfl, r0, r1, r2, hsz, ht⟩ := hrel
        by_cases hlt : l < 15
        · have q1 : wr.cell? ⟨w.heap.size + 1, l, none⟩ = some (.int .i64 (cnt L l : Nat)) := by rw [row_cell r1, cArr_at _ _ _ (by omega)]
          have q2 : wr.cell? ⟨w.heap.size + 2, l, none⟩ = some (.int .i64 (placeOf L l : Nat)) := by rw [row_cell r2, pArr_at _ _ (by omega)]; simp
          have q3 : wr.cell? ⟨w.heap.size + 2, l + 1, none⟩ = some (.int .i64 0) := by rw [row_cell r2, pArr_at _ _ (by omega), if_neg (by omega)]; rfl
          have q4 := row_fr r2 (l + 1)
          have b1 := placeOf_bd L (by omega) l (by omega)
          have b2 := cnt_le L l
          go_wp2
          go_region
          all_goals go_wp2
          all_goals go_roundw
          case rel =>
            refine ⟨l + 1, by omega, by omega, by go_num, ?_, ?_, ?_, ?_, ?_⟩
            · show (wr.setCell _ _).heap[_]? = _
              rw [row_ne (by omega)]; exact r0
            · show (wr.setCell _ _).heap[_]? = _
              rw [row_ne (by omega)]; exact r1
            · show (wr.setCell _ _).heap[_]? = _
              have e : ((placeOf L l : Nat) : Int) + ((cnt L l : Nat) : Int) = ((placeOf L l + cnt L l : Nat) : Int) := by omega
              rw [row_set r2, e, pArr_set _ _ _ (by omega)]
              congr 2
              refine pArr_congr fun j _ => ?_
              unfold upd
              by_cases hj : j = l + 1
              · rw [if_pos hj, if_pos (by omega), hj]; rfl
              · rw [if_neg hj]
                show (if j ≤ l then placeOf L j else 0) = _
                by_cases h2 : j ≤ l
                · rw [if_pos h2, if_pos (by omega)]
                · rw [if_neg h2, if_neg (by omega)]
            · show (wr.setCell _ _).heap.size = _
              rw [size_setCell]; exact hsz
            · exact (ht.setNew (by simp) _).drew
          case measure => simp [intOf]; omega
        · obtain rfl : l = 15 := by omega
          have htot := placeOf_total L hL
          obtain ⟨i0, hi, hz0, hz1, hz2⟩ := info_parts Tryz.infoInt
          have hc16 : wr.cell? ⟨w.heap.size + 1, 16, none⟩ = some (.slice none 0 0) := by rw [row_cell r1]; rfl
          have hf16 := row_fr r1 16
          have hbs : w.heap.size + 3 ≤ wr.heap.size := by omega
          have hp16 := placeOf_bd L (by omega) 16 (by omega)
          have hm1 : i0.bytes * placeOf L 16 ≤ 281474976710656 := by rw [hz2]; omega
          have hm2 : placeOf L 16 ≤ maxLen := by unfold maxLen; omega
          have hm3 : (k : Int) - (L.count 0 : Nat) = (placeOf L 16 : Nat) := by omega
          have HM : Hid ((k : Int) - (L.count 0 : Nat) = (placeOf L 16 : Nat)) := hm3
          clear hm3
          go_wp2_with (at_make; refine wpList_make_full _ rfl _ _ 66 rfl (w.heap.size + 3) 3 i0 (.int .i64 0) 1 Tryz.underlying66 hi hz0 hz1 .i64 .i64 _ _ (placeOf L 16) rfl rfl HM.out HM.out hm1 hm2 hbs ?_; intro w1 hown1 hgrow1; have hc16' := hgrow1.cell hc16 (by simp); have hf16' : w1.frozen? ⟨w.heap.size + 1, 16, none⟩ = false := (World.frozen?_of_block (hgrow1.block (w.heap.size + 1) (by omega) (by simp))).trans hf16)
          go_loopw [54] (fun i wr => ∃ (q : Nat) (xs : List Value), q ≤ k ∧ i = .int .i64 q ∧ wr.heap[w.heap.size]? = some (.cells (cArr (fun _ => 0) (.slice none 0 0)) 270 (0, 0)) ∧ wr.heap[w.heap.size + 1]? = some (.cells (cArr (cnt L) (.slice (some ⟨w.heap.size + 3, 0, none⟩) (placeOf L 16) (placeOf L 16))) 270 (0, 0)) ∧ wr.heap[w.heap.size + 2]? = some (.cells (pArr (fun j => if j = 0 then 0 else placeOf L j + (L.take q).count j)) 268 (0, 0)) ∧ wr.ownsRow (w.heap.size + 3) 3 1 (.slice (some ⟨w.heap.size + 3, 0, none⟩) (placeOf L 16) (placeOf L 16)) (placeOf L 16) xs ∧ (∀ i (h : i < L.length), i < q → 1 ≤ L[i] → xs[placeOf L L[i] + (L.take i).count L[i]]? = some (.int .i64 (i : Nat))) ∧ Touch (fun _ => False) w wr) (fun i _ => k - (intOf i).toNat)
          case atStart =>
            rw [hsz] at hown1
            have g0 := hgrow1.block w.heap.size (by omega) (by simp)
            have g1 := hgrow1.block (w.heap.size + 1) (by omega) (by simp)
            have g2 := hgrow1.block (w.heap.size + 2) (by omega) (by simp)
            refine ⟨0, _, by omega, rfl, ?_, ?_, ?_, ownsRow_setCell_below (a := ⟨w.heap.size + 1, 16, none⟩) hown1 (by show w.heap.size + 1 < w.heap.size + 3; omega) _, ?_, ?_⟩
            · rw [row_ne (by omega), g0]; exact r0
            · rw [row_set (g1.trans r1), cArr_set16]
            · rw [row_ne (by omega), g2, r2]
              congr 1
            · intro i h h0; omega
            · exact (ht.grownNew hgrow1 (by intro k e; cases e)).setNew (by simp) _
          case round =>
            clear r0 r1 r2 ht hsz hc16 hf16 hbs hc16' hf16' hown1 hgrow1
            obtain ⟨q, xs, hq, rfl, r0, r1, r2, hown, hxs, ht⟩ := hrel
            by_cases hlt : q < k
            · have hq' : q < L.length := by omega
              have hin : L[q] ≤ 15 := hL _ (List.getElem_mem hq')
              have hcell : wr.cell? ⟨lb, lo + q, none⟩ = some (.int .i64 (L[q] : Nat)) := ht.at (hcells q hq') (fun h => h)
              have hpos := rank_lt hq'
              obtain ⟨x, hx⟩ : ∃ x, x = L[q] := ⟨_, rfl⟩
              have HX : Hid (x = L[q]) := hx
              rw [← hx] at hcell hin hpos
              clear hx
              by_cases h0 : x = 0
              · subst h0
                go_wp2
                go_roundw
                case rel =>
                  refine ⟨q + 1, xs, by omega, by go_num, r0, r1, ?_, hown, ?_, ht⟩
                  · rw [r2]
                    congr 2
                    refine pArr_congr fun j hj => ?_
                    by_cases hj0 : j = 0
                    · rw [if_pos hj0, if_pos hj0]
                    · rw [if_neg hj0, if_neg hj0, take_count hq', ← HX.out]; unfold upd; rw [if_neg hj0]
                  · intro i h hi h1
                    by_cases e : i = q
                    · subst e; rw [← HX.out] at h1; omega
                    · exact hxs i h (by omega) h1
                case measure => simp [intOf]; omega
              · have hx0 : (0 : Int) < (x : Int) := by omega
                have e1 : wr.cell? ⟨w.heap.size + 1, 16, none⟩ = some (.slice (some ⟨w.heap.size + 3, 0, none⟩) (placeOf L 16) (placeOf L 16)) := by rw [row_cell r1]; rfl
                have e2 : wr.cell? ⟨w.heap.size + 2, x, none⟩ = some (.int .i64 (placeOf L x + (L.take q).count x : Nat)) := by rw [row_cell r2, pArr_at _ _ (by omega), if_neg h0]
                have hlt16 : placeOf L x + (L.take q).count x < placeOf L 16 := placeOf_end L (by omega) (by unfold cnt; rw [if_neg h0]; exact hpos)
                obtain ⟨old, e3⟩ : ∃ v, wr.cell? ⟨w.heap.size + 3, placeOf L x + (L.take q).count x, none⟩ = some v := by
                  rw [hown.cellAt _ (by omega)]
                  have := hown.1
                  exact ⟨_, List.getElem?_eq_getElem (by omega)⟩
                have e4 := hown.frozenAt (placeOf L x + (L.take q).count x)
                have e5 := row_fr r2 x
                go_wp2
                go_region
                all_goals go_wp2
                all_goals go_roundw
                case rel =>
                  have hst := (hown.stored (placeOf L x + (L.take q).count x) (.int .i64 (q : Nat))).1
                  refine ⟨q + 1, _, by omega, by go_num, ?_, ?_, ?_, ownsRow_setCell_below (a := ⟨w.heap.size + 2, x, none⟩) (h := hst) (by show w.heap.size + 2 < w.heap.size + 3; omega) _, ?_, ?_⟩
                  · show ((wr.setCell _ _).setCell _ _).heap[_]? = _
                    rw [row_ne (by omega), row_ne (by omega)]; exact r0
                  · show ((wr.setCell _ _).setCell _ _).heap[_]? = _
                    rw [row_ne (by omega), row_ne (by omega)]; exact r1
                  · show ((wr.setCell _ _).setCell _ _).heap[_]? = _
                    have r2' := r2
                    rw [← row_ne (w := wr) (g := w.heap.size + 3) (j := placeOf L x + (L.take q).count x) (v := .int .i64 (q : Nat)) (by omega)] at r2'
                    have e : ((placeOf L x : Nat) : Int) + (((L.take q).count x : Nat) : Int) + 1 = ((placeOf L x + (L.take q).count x + 1 : Nat) : Int) := by omega
                    rw [row_set r2', e, pArr_set _ _ _ (by omega)]
                    congr 2
                    refine pArr_congr fun j hj => ?_
                    rw [take_count hq', ← HX.out]
                    unfold upd
                    by_cases hj0 : j = x
                    · rw [if_pos hj0, if_pos hj0, if_neg (by omega), hj0]; omega
                    · rw [if_neg hj0, if_neg hj0]
                  · intro i h hi h1
                    by_cases e : i = q
                    · subst e
                      rw [← HX.out, List.getElem?_set_self (by have := hown.1; omega)]
                    · rw [List.getElem?_set_ne, hxs i h (by omega) h1]
                      intro e'
                      exact rank_ne h hq' (by omega) h1 (by rw [← HX.out]; omega) (by rw [← HX.out]; omega)
                  · exact ((ht.setNew (by simp) _).setNew (by simp) _).drew
                case measure => simp [intOf]; omega
            · obtain rfl : q = k := by omega
              go_wp2_with (first | (refine wpList_load_row rfl 270 (.tmp 3) rfl (w.heap.size + 1) rfl 270 _ (0, 0) _ r1 Tryz.underlying270 rfl (by kernel_rfl) ?_) | (refine wpList_store_row rfl 270 (.tmp 2) (.tmp 74) rfl w.heap.size _ rfl rfl 270 _ r0 (by kernel_rfl) rfl (cArr_one _ _ _ _) ?_))
              have hlt3 := hown.lt (w.heap.size + 3) rfl
              have hcl : ∀ j, (wr.setRow w.heap.size (cArr (cnt L) (.slice (some ⟨w.heap.size + 3, 0, none⟩) (placeOf L 16) (placeOf L 16)))).cell? ⟨w.heap.size + 3, j, none⟩ = wr.cell? ⟨w.heap.size + 3, j, none⟩ := fun j => World.cell?_of_block (setRow_other _ _ _ _ (by simp))
              refine bodyPost_ret (v := .agg (codeCells L (.slice (some ⟨w.heap.size + 3, 0, none⟩) (placeOf L 16) (placeOf L 16)))) (results_cell_row Tryz.results180 _ _ w.heap.size 270 _ (0, 0) _ rfl (setRow_heap _ _ _ _ _ _ r0) Tryz.underlying270 rfl (by kernel_rfl)) rfl ⟨w.heap.size + 3, placeOf L 16, rfl, by omega, ?_, ?_, ?_, ?_⟩
              · simp; exact hlt3.2
              · intro n r h1 h16 hr
                have hr' : r < L.count n := by unfold cnt at hr; rwa [if_neg (by omega)] at hr
                obtain ⟨i, hi, e1, e2⟩ := nth_ex L n r hr'
                have hx := hxs i hi (by omega) (by omega)
                rw [e1, e2] at hx
                rw [hcl, hown.cellAt _ (by have := placeOf_end L h16 hr; omega), hx, ← e2, nth_at L n i hi e1]
              · obtain ⟨cs, fr, hh⟩ := Typed.owned hown (k := w.heap.size + 3) rfl
                exact ⟨cs, fr, (setRow_other _ _ _ _ (by omega)).trans hh⟩
              · exact ht.setRow (by omega) _
end Go.Proofs.YtobfkhapeejkfaaGreatDoor
