/- Lists of lengths; the two codes of a FIXED block. -/
import Derived.Test.YtobfkhapeejkfaaGreatDoorWNew
namespace Go.Proofs.YtobfkhapeejkfaaGreatDoor
open Go.RowKit
set_option linter.unusedSimpArgs false
set_option linter.unusedVariables false

/-- Numbers as cells. -/
def ints (l : List Nat) : List Value := l.map fun (x : Nat) => Value.int .i64 (x : Int)
theorem ints_len (l : List Nat) : (ints l).length = l.length := List.length_map ..
theorem ints_app (a b : List Nat) : ints (a ++ b) = ints a ++ ints b := List.map_append ..
theorem rep_snoc (l : List Nat) (x k : Nat) : (l ++ List.replicate k x) ++ [x] = l ++ List.replicate (k + 1) x := by
  rw [List.append_assoc, List.replicate_succ']

set_option maxHeartbeats 400000 in
theorem appendTimes_c (w : World) (base : Nat) (v : Value) (l : List Nat) (x t : Nat) (hown : w.ownsRow base 3 1 v l.length (ints l)) (hl : l.length + t ≤ 1000) (hb : base ≤ w.heap.size) :
    Calls Tryz.prog 179 #[v, .int .i64 (x : Int), .int .i64 (t : Int)] w fun e w' => ∃ v', e = .returned v' ∧ w'.ownsRow base 3 1 v' (l ++ List.replicate t x).length (ints (l ++ List.replicate t x)) ∧ Touch (fun k => base ≤ k) w w' := by
  obtain ⟨i0, hi, hz0, hz1, hz2⟩ := info_parts Tryz.infoInt
  go_enter Tryz.func179, Tryz.ntmps179
  go_wp2
  go_loopw [0, 8] (fun v i wr => ∃ k : Nat, k ≤ t ∧ i = .int .i64 (k : Int) ∧ wr.ownsRow base 3 1 v (l ++ List.replicate k x).length (ints (l ++ List.replicate k x)) ∧ Touch (fun k => base ≤ k) w wr) (fun _ i _ => t - (intOf i).toNat)
  case atStart => exact ⟨0, by omega, rfl, by simpa using hown, Touch.refl _ _⟩
  case round =>
    obtain ⟨k, hk, rfl, ho, ht⟩ := hrel
    have hlen : (l ++ List.replicate k x).length = l.length + k := by simp
    have hsz := ht.size
    by_cases hlt : k < t
    · have c3 : (l ++ List.replicate k x).length + 1 ≤ maxLen := by unfold maxLen; omega
      have c4 : ((l ++ List.replicate k x).length + 1) * 8 ≤ 140737488355328 := by omega
      go_wp2_with (at_builtin; refine wpList_append_own _ rfl _ _ 66 rfl base 3 i0 (.int .i64 0) 1 8 Tryz.underlying66 hi hz0 hz1 hz2 rfl (by decide) _ _ _ rfl (ho.alloc _) ⟨_, 0, none⟩ 1 1 [.int .i64 (x : Int)] rfl rfl (cell_one_new _ _ _) (by simp [Value.oneCell']) c3 c4 (by simp; omega) ?_; intro v' w1 hown' hgrow _)
      go_roundw
      case rel =>
        refine ⟨k + 1, by omega, by go_num, ?_, ?_⟩
        · rw [← rep_snoc, ints_app, List.length_append]; exact hown'
        · refine (ht.alloc _).grown hgrow ?_
          intro j hj
          exact (ho.lt j hj).1
      case measure => simp [intOf]; omega
    · obtain rfl : k = t := by omega
      go_wp2
      go_ret
      exact ⟨_, rfl, ho, ht⟩

theorem owned_some {w : World} {base : Nat} {e : TypeId} {size n : Nat} {v : Value} {xs : List Value} (h : w.ownsRow base e size v n xs) (hn : 0 < n) : ∃ g cap, v = .slice (some ⟨g, 0, none⟩) n cap ∧ base ≤ g := by
  rcases h.2 with ⟨_, h0⟩ | ⟨g, cap, cur, rfl, hb, _⟩
  · omega
  · exact ⟨g, cap, rfl, hb⟩

theorem appendTimes_s (w : World) (base : Nat) (v : Value) (l : List Nat) (x t : Nat) (X T : Int) (hX : X = (x : Int)) (hT : T = (t : Int)) (hown : w.ownsRow base 3 1 v l.length (ints l)) (hl : l.length + t ≤ 1000) (ht : 0 < t) (hb : base ≤ w.heap.size) :
    Calls Tryz.prog 179 #[v, .int .i64 X, .int .i64 T] w fun e w' => ∃ (l' : List Nat) (g cap : Nat), e = .returned (.slice (some ⟨g, 0, none⟩) l'.length cap) ∧ Hid (l' = l ++ List.replicate t x) ∧ base ≤ g ∧ w'.ownsRow base 3 1 (.slice (some ⟨g, 0, none⟩) l'.length cap) l'.length (ints l') ∧ Touch (fun k => base ≤ k) w w' := by
  subst hX hT
  refine (appendTimes_c w base v l x t hown hl hb).mono ?_
  rintro e w' ⟨v', rfl, ho, ht'⟩
  obtain ⟨g, cap, rfl, hg⟩ := owned_some ho (by simp; omega)
  exact ⟨_, g, cap, rfl, rfl, hg, ho, ht'⟩

def fixLetters : List Nat := ((([] ++ List.replicate 144 8) ++ List.replicate 112 9) ++ List.replicate 24 7) ++ List.replicate 8 8
def fixDist : List Nat := [] ++ List.replicate 32 5

theorem fix_le : ∀ x ∈ fixLetters, x ≤ 15 := by
  intro x hx
  simp only [fixLetters, List.mem_append, List.mem_replicate, List.not_mem_nil, false_or] at hx
  omega
theorem dist_le : ∀ x ∈ fixDist, x ≤ 15 := by
  intro x hx
  simp only [fixDist, List.mem_append, List.mem_replicate, List.not_mem_nil, false_or] at hx
  omega

/-- The two codes of a block, in the block fb. -/
structure Codes (w : World) (fb n1 c1 n2 c2 : Nat) (L D : List Nat) : Prop where
  lt : IsCode w fb 0 n1 c1 L
  ds : IsCode w fb 17 n2 c2 D
  tb : Typed w fb 273
  t1 : Typed w n1 3
  t2 : Typed w n2 3

/-- The 34 cells of two codes. -/
def two (L D : List Nat) (v u : Value) : Array Value := codeCells L v ++ codeCells D u

theorem cArr_16 (f : Nat → Nat) (v : Value) : (cArr f v)[16]? = some v := rfl

theorem codes_new {w : World} {n1 c1 n2 c2 : Nat} {L D : List Nat} (hL : L.length ≤ 400) (hD : D.length ≤ 400)
    (h1 : ∀ n r, 1 ≤ n → n < 16 → r < cnt L n → w.cell? ⟨n1, placeOf L n + r, none⟩ = some (.int .i64 (nth L n r : Nat))) (t1 : Typed w n1 3)
    (h2 : ∀ n r, 1 ≤ n → n < 16 → r < cnt D n → w.cell? ⟨n2, placeOf D n + r, none⟩ = some (.int .i64 (nth D n r : Nat))) (t2 : Typed w n2 3) :
    Codes (w.alloc (.cells (two L D (.slice (some ⟨n1, 0, none⟩) (placeOf L 16) c1) (.slice (some ⟨n2, 0, none⟩) (placeOf D 16) c2)) 273)) w.heap.size n1 c1 n2 c2 L D := by
  have hc : ∀ j, (w.alloc (.cells (two L D (.slice (some ⟨n1, 0, none⟩) (placeOf L 16) c1) (.slice (some ⟨n2, 0, none⟩) (placeOf D 16) c2)) 273)).cell? ⟨w.heap.size, j, none⟩ = (two L D (.slice (some ⟨n1, 0, none⟩) (placeOf L 16) c1) (.slice (some ⟨n2, 0, none⟩) (placeOf D 16) c2))[j]? := fun j => row_cell (heap_alloc_new w _) j
  have s1 : ∀ v, (codeCells L v).size = 17 := fun _ => rfl
  refine ⟨⟨?_, ?_, ?_, hL⟩, ⟨?_, ?_, ?_, hD⟩, ⟨_, _, heap_alloc_new w _⟩, t1.alloc _, t2.alloc _⟩
  · intro i hi
    rw [hc, Nat.zero_add, two, Array.getElem?_append_left (by rw [s1]; omega)]
    exact cArr_at _ _ _ hi
  · rw [hc, two, Array.getElem?_append_left (by rw [s1]; omega)]
    exact cArr_16 _ _
  · intro n r a b c
    rw [World.cell?_alloc_past _ _ _ t1.lt]; exact h1 n r a b c
  · intro i hi
    rw [hc, two, Array.getElem?_append_right (by rw [s1]; omega), s1, show 17 + i - 17 = i by omega]
    exact cArr_at _ _ _ hi
  · rw [hc, two, Array.getElem?_append_right (by rw [s1]; omega), s1]
    exact cArr_16 _ _
  · intro n r a b c
    rw [World.cell?_alloc_past _ _ _ t2.lt]; exact h2 n r a b c

theorem owned_ints {w : World} {base g cap : Nat} {l : List Nat} (h : w.ownsRow base 3 1 (.slice (some ⟨g, 0, none⟩) l.length cap) l.length (ints l)) : ∀ j (hj : j < l.length), w.cell? ⟨g, 0 + j, none⟩ = some (.int .i64 (l[j] : Nat)) := by
  intro j hj
  rw [Nat.zero_add, h.cellAt j (by omega)]
  simp [ints, hj]

theorem wpList_build_run {P : Program} {ops : Array Oper} {rest : List Oper} {o : Oper} {a : Act} {w : World} {Q : Exit → Act → World → Prop} (hg : o.guard = none) (t : TypeId) (parts : Array (Nat × Operand)) (ho : o.op = .build t parts) {vals : Array (Nat × Value)} {cells : Array Value}
    (hrun : (Instr.build t vals).run P w = .ok (.agg cells) w) (hv : (parts.map fun (i, x) => (i, a.eval x)) = vals) (h : wpList P ops Q rest (a.put o.dst (.agg cells)) w) : wpList P ops Q (o :: rest) a w :=
  wpList_plain hg fun _ hK => by
    subst hv
    unfold Oper.wp execOp
    simp only [ho, Sem.run_bind, hrun, Result.andThen_ok]
    exact hK _ _ h
theorem wpList_box_run {P : Program} {ops : Array Oper} {rest : List Oper} {o : Oper} {a : Act} {w w' : World} {Q : Exit → Act → World → Prop} (hg : o.guard = none) (t : TypeId) (x : Operand) (ho : o.op = .box t x) (v : Value) (hv : a.eval x = v) (p : Value)
    (hrun : (Instr.box t v).run P w = .ok p w') (h : wpList P ops Q rest (a.put o.dst p) w') : wpList P ops Q (o :: rest) a w :=
  wpList_plain hg fun _ hK => by
    subst hv
    unfold Oper.wp execOp
    simp only [ho, Sem.run_bind, hrun, Result.andThen_ok]
    exact hK _ _ h

/-- Two doors: they fit where a build, or a box, stands next, and nowhere else. -/
theorem at_build {P : Program} {ops : Array Oper} {rest : List Oper} {d : Option Tmp} {t ty : TypeId} {parts : Array (Nat × Operand)} {ps : String} {af : Array Edge} {g : Option (Nat × Bool)} {a : Act} {w : World} {Q : Exit → Act → World → Prop} (h : wpList P ops Q (⟨d, .build t parts, ty, ps, af, g⟩ :: rest) a w) : wpList P ops Q (⟨d, .build t parts, ty, ps, af, g⟩ :: rest) a w := h
theorem at_box {P : Program} {ops : Array Oper} {rest : List Oper} {d : Option Tmp} {t ty : TypeId} {x : Operand} {ps : String} {af : Array Edge} {g : Option (Nat × Bool)} {a : Act} {w : World} {Q : Exit → Act → World → Prop} (h : wpList P ops Q (⟨d, .box t x, ty, ps, af, g⟩ :: rest) a w) : wpList P ops Q (⟨d, .box t x, ty, ps, af, g⟩ :: rest) a w := h

theorem build_two (L D : List Nat) (v u : Value) (w : World) : (Instr.build 273 #[(0, .agg (codeCells L v)), (1, .agg (codeCells D u))]).run Tryz.prog w = .ok (.agg (two L D v u)) w := by kernel_rfl
theorem box_two (L D : List Nat) (a b : Option Addr) (m n c d : Nat) (w : World) : (Instr.box 273 (.agg (two L D (.slice a m c) (.slice b n d)))).run Tryz.prog w = .ok (.pointer (some ⟨w.heap.size, 0, none⟩)) (w.alloc (.cells (two L D (.slice a m c) (.slice b n d)) 273)) := by kernel_rfl

set_option maxRecDepth 100000 in
set_option maxHeartbeats 1000000 in
theorem fixedCodes_c (w : World) :
    Calls Tryz.prog 123 #[] w fun e w' => ∃ fb n1 c1 n2 c2, e = .returned (.pointer (some ⟨fb, 0, none⟩)) ∧ Codes w' fb n1 c1 n2 c2 fixLetters fixDist ∧ w.heap.size ≤ fb ∧ w.heap.size ≤ n1 ∧ w.heap.size ≤ n2 ∧ Touch (fun _ => False) w w' := by
  go_enter Tryz.func123, Tryz.ntmps123
  go_wp2_with fail
  go_at_call 179
  refine (appendTimes_s w w.heap.size _ [] 8 144 _ _ rfl rfl (World.ownsRow_nil _ _ _ _) (by decide) (by decide) (Nat.le_refl _)).mono ?_
  rintro e w1 ⟨l1, g1, k1, rfl, e1, hg1, ho1, ht1⟩
  have n1 : l1.length ≤ 144 := by rw [e1.out, List.length_append, List.length_replicate]; simp
  go_wp2_with fail
  refine (appendTimes_s w1 w.heap.size _ l1 9 112 _ _ rfl rfl ho1 (by omega) (by decide) ht1.size).mono ?_
  rintro e w2 ⟨l2, g2, k2, rfl, e2, hg2, ho2, ht2⟩
  have n2 : l2.length ≤ 256 := by rw [e2.out, List.length_append, List.length_replicate]; omega
  go_wp2_with fail
  refine (appendTimes_s w2 w.heap.size _ l2 7 24 _ _ rfl rfl ho2 (by omega) (by decide) (Nat.le_trans ht1.size ht2.size)).mono ?_
  rintro e w3 ⟨l3, g3, k3, rfl, e3, hg3, ho3, ht3⟩
  have n3 : l3.length ≤ 280 := by rw [e3.out, List.length_append, List.length_replicate]; omega
  go_wp2_with fail
  refine (appendTimes_s w3 w.heap.size _ l3 8 8 _ _ rfl rfl ho3 (by omega) (by decide) (Nat.le_trans (Nat.le_trans ht1.size ht2.size) ht3.size)).mono ?_
  rintro e w4 ⟨l4, g4, k4, rfl, e4, hg4, ho4, ht4⟩
  have n4 : l4.length ≤ 288 := by rw [e4.out, List.length_append, List.length_replicate]; omega
  have sz4 : w.heap.size ≤ w4.heap.size := Nat.le_trans (Nat.le_trans (Nat.le_trans ht1.size ht2.size) ht3.size) ht4.size
  have T4 : Touch (fun _ => False) w w4 := (((ht1.trans ht2).trans ht3).trans ht4).fresh
  have E4 : Hid (l4 = fixLetters) := by unfold Hid; rw [e4.out, e3.out, e2.out, e1.out]; rfl
  go_wp2_with fail
  refine (appendTimes_s w4 w4.heap.size _ [] 5 32 _ _ rfl rfl (World.ownsRow_nil _ _ _ _) (by decide) (by decide) (Nat.le_refl _)).mono ?_
  rintro e w5 ⟨l5, g5, k5, rfl, e5, hg5, ho5, ht5⟩
  have n5 : l5.length ≤ 32 := by rw [e5.out, List.length_append, List.length_replicate]; simp
  have E5 : Hid (l5 = fixDist) := by unfold Hid; rw [e5.out]; rfl
  have lt4 := (ho4.lt g4 rfl).2
  have ho4' := ht5.owns ho4 (by intro k hk; cases hk; show ¬ w4.heap.size ≤ g4; omega)
  have T5 : Touch (fun _ => False) w w5 := T4.trans ht5.fresh
  have m4 : ∀ x ∈ l4, x ≤ 15 := by rw [E4.out]; exact fix_le
  have m5 : ∀ x ∈ l5, x ≤ 15 := by rw [E5.out]; exact dist_le
  clear e1 e2 e3 e4 e5 ho1 ho2 ho3 ht1 ht2 ht3 ht4
  go_wp2_with fail
  refine (newCode_c w5 g4 0 _ k4 l4 rfl (by omega) m4 (owned_ints ho4')).mono ?_
  rintro e w6 ⟨b1, c1, rfl, hb1, hs1, hn1, t1, ht6⟩
  have ho5' := ht6.owns ho5 (by intro k _; exact fun h => h)
  go_wp2_with fail
  refine (newCode_c w6 g5 0 _ k5 l5 rfl (by omega) m5 (owned_ints ho5')).mono ?_
  rintro e w7 ⟨b2, c2, rfl, hb2, hs2, hn2, t2, ht7⟩
  go_wp2_with (first | ((with_reducible refine at_build ?_); refine wpList_build_run rfl 273 _ rfl (build_two l4 l5 (.slice (some ⟨b1, 0, none⟩) (placeOf l4 16) c1) (.slice (some ⟨b2, 0, none⟩) (placeOf l5 16) c2) _) (by simp [Act.eval]) ?_) | ((with_reducible refine at_box ?_); refine wpList_box_run rfl 273 _ rfl _ rfl _ (box_two l4 l5 (some ⟨b1, 0, none⟩) (some ⟨b2, 0, none⟩) (placeOf l4 16) (placeOf l5 16) c1 c2 _) ?_))
  go_ret
  have lt7 := ht7.size
  have lt6 := ht6.size
  have lt5 := ht5.size
  have hc := codes_new (c1 := c1) (c2 := c2) (by omega) (by omega) (fun n r a b c => ht7.at (hn1 n r a b c) (fun h => h)) (t1.keep ht7 (fun h => h)) hn2 t2
  rw [E4.out, E5.out] at hc ⊢
  exact ⟨_, _, _, _, _, rfl, hc, by omega, by omega, by omega, ((T5.trans ht6).trans ht7).alloc _⟩
end Go.Proofs.YtobfkhapeejkfaaGreatDoor
