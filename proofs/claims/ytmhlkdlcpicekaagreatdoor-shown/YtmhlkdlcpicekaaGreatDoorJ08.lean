/- Texts of this seat, joined. -/
import Derived.Test.YtmhlkdlcpicekaaGreatDoorJ06
import Derived.Test.YtmhlkdlcpicekaaGreatDoorJ07
import Derived.Deep.AppendSrc
set_option linter.unusedSimpArgs false
set_option linter.unusedVariables false
set_option maxRecDepth 100000
set_option maxHeartbeats 20000000
namespace Go.Proofs.YtmhlkdlcpicekaaGreatDoor
open Go.RowKit Go.Maps
theorem oper_append_src {P : Program} {o : Oper} {a : Act} {w : World} {K : Act → World → Prop} {Q : Exit → Act → World → Prop} (s x : Operand) (t tx : TypeId)
  (hop : o.op = .call { callee := .builtin .append, args := #[s, x], argTypes := #[t, tx] })
  (base : Nat) (e : TypeId) (i : TypeInfo) (z : Value) (bytes : Nat) (h1 : P.underlying t = some (.slice e)) (h2 : P.info? e = some i) (h3 : i.zero = some z) (h4 : i.size = 1) (h5 : i.bytes = bytes) (h6 : z.cells.size = 1)
  (v : Value) (n : Nat) (xs : List Value) (hv : a.eval s = v) (hown : w.ownsRow base e 1 v n xs) (y : Value) (m : Nat) (news : List Value) (hy : a.eval x = y) (hs : Src P 1 tx y m news w)
  (b1 : n + m ≤ maxLen) (b2 : (n + m) * bytes ≤ 140737488355328) (b3 : base ≤ w.heap.size)
  (h : ∀ v' w', w'.ownsRow base e 1 v' (n + m) (xs ++ news) → w.grownBy w' v.ownBlock → K (a.put o.dst v') w') : Oper.wp P o a w K Q := by
 obtain ⟨v', w', hrun, r1, r2⟩ := run_append_own_src (P := P) w base t tx o.type e i z bytes h1 h2 h3 h4 h5 h6 v n xs hown y m news hs b1 b2 b3
 unfold Oper.wp
 simp [execOp, hop, resolve, invoke, builtin, hv, hy, hrun, Result.andThen]
 exact h v' w' r1 r2
theorem byteCells_B (s : ByteArray) : byteCells s = byteV s.data.toList := rfl
theorem owns_row {w : World} {base : Nat} {e : TypeId} {size : Nat} {v : Value} {n : Nat} {xs : List Value} (h : w.ownsRow base e size v n xs) {k : Nat} (hk : v.ownBlock = some k) : ∃ cs z, w.heap[k]? = some (.cells cs e z) := by
 obtain ⟨_, ⟨h2, h3⟩ | ⟨g, cap, cur, e1, hb, hg, _⟩⟩ := h
 ·rw [h2] at hk; cases hk
 ·rw [e1] at hk
  cases hk
  exact ⟨_, _, hg⟩
theorem zeroTree (w : World) : (zeroValue 114).run Tryz.prog w = .ok nilS w := by kernel_rfl
theorem do_write (w : World) (S b n lim len : Nat) (f : List UInt8 → Option Value) (v : Value) (bs : List UInt8) (sh : Option Nat) (c : CutS) (np : Bool) (h : SB w S 1 sh (some b) c np) (hb : RawMap w b n f) (hn : n < maxLen) (hp : passB c = true) (path bytes : ByteArray) (hpa : path.size ≤ maxLen)
  (hf : f path.data.toList = some v) (hown : w.ownsRow lim 5 1 v len (byteV bs)) (hlim : lim ≤ w.heap.size) (hS : S < lim) (hlen : len + bytes.size ≤ 140737488355328) :
  Calls Tryz.prog 76 #[.pointer (some ⟨S, 0, none⟩), .agg #[.int .i64 2, .string path, .string bytes]] w fun r w' => r = .returned (.bool true) ∧ SB w' S 1 sh (some b) (passC c) np ∧ ∃ v', RawMap w' b n (updM f path.data.toList (some v')) ∧ w'.ownsRow lim 5 1 v' (len + bytes.size) (byteV (bs ++ bytes.data.toList)) ∧ Touch (fun k => k = S ∨ k = b ∨ v.ownBlock = some k) w w' := by
 obtain ⟨i0, hi, hz0, hz1, hz2⟩ := info_parts Tryz.infoByte
 have ta : Touch (fun _ => False) w (w.alloc (.cells #[.int .i64 2, .string path, .string bytes] 161)) := (Touch.refl _ _).alloc _
 have h1 := h.keep ta (fun e => e)
 have hb1 := hb.keep ta (fun e => e)
 have ho1 := ta.owns hown (fun _ _ e => e)
 have hne := hb.ne_row h.hp
 have hlt := h.lt
 have hblt := hb.lt
 have hbo : v.ownBlock ≠ some b := fun e => by
  obtain ⟨g1, g2, g3⟩ := owns_row hown e
  exact hb.ne_row g3 rfl
 have bx : (w.alloc (.cells #[.int .i64 2, .string path, .string bytes] 161)).heap[w.heap.size]? = some (.cells #[.int .i64 2, .string path, .string bytes] 161 (0, 0)) := heap_alloc_new w _
 have x0 := row_cell bx 0
 have x1 := row_cell bx 1
 have x2 := row_cell bx 2
 have sne : ¬ w.heap.size = S := by omega
 have HB : Hid (n < maxLen) := hn
 have HO : Hid (∀ k, v.ownBlock = some k → lim ≤ k ∧ k < w.heap.size) := fun k hk => hown.lt k hk
 clear hn bx
 go_enter Tryz.func76, Tryz.ntmps76
 go_wp2_with (go_at_call 129; refine (passes_c _ S 1 sh (some b) c np h1).mono ?_; rintro e w2 ⟨rfl, h2, t2⟩; rw [hp]; have y0 := t2.at x0 sne; have y1 := t2.at x1 sne; have y2 := t2.at x2 sne; have hb2 := hb1.keep t2 hne; obtain ⟨d0, d2, d3, d4, d5, d6, d7⟩ := h2.cs)
 have ho2 : w2.ownsRow lim 5 1 v len (byteV bs) := t2.owns ho1 (fun k hk e => by have h1 := HO.out k hk; have h2 : k = S := e; omega)
 have hlook : (Instr.lookup 86 (.map (some b)) (.string path) false).run Tryz.prog w2.drew = .ok v w2.drew := by
  have := RawMap.get (w := w2.drew) hb2 Tryz.underlying86 (zeroTree _) path hpa
  rw [hf] at this
  exact this
 have hsz := t2.size
 rw [World.size_alloc] at hsz
 have CB : w2.drew.cell? ⟨S, 3, none⟩ = some (.map (some b)) ∧ w2.drew.cell? ⟨w.heap.size, 1, none⟩ = some (.string path) ∧ w2.drew.cell? ⟨w.heap.size, 2, none⟩ = some (.string bytes) := ⟨d3, y1, y2⟩
 refine wp_region_until (fun X => X.cell? ⟨S, 3, none⟩ = some (.map (some b)) ∧ X.cell? ⟨w.heap.size, 1, none⟩ = some (.string path) ∧ X.cell? ⟨w.heap.size, 2, none⟩ = some (.string bytes)) 16 (by kernel_rfl) ?_
 refine wpAnyU_take (i := 0) (v := ?va0) rfl (by kernel_rfl) (by kernel_rfl) (by kernel_rfl) (by kernel_rfl) (by kernel_rfl) (fun _ _ _ h => h) (Or.inl ⟨by rfl, ?hya0⟩) CB ?resta0
 case hya0 => ((intro wx hSw; (try dsimp only at hSw); (try obtain ⟨hs1, hs2, hs3⟩ := hSw); go_simp) <;> (with_reducible rfl))
 try simp only [Act.put, List.setIfInBounds_toArray, List.set_cons_zero, List.set_cons_succ]
 refine wpAnyU_take (i := 1) (v := ?va1) rfl (by kernel_rfl) (by kernel_rfl) (by kernel_rfl) (by kernel_rfl) (by kernel_rfl) (fun _ _ _ h => h) (Or.inl ⟨by rfl, ?hya1⟩) CB ?resta1
 case hya1 => ((intro wx hSw; (try dsimp only at hSw); (try obtain ⟨hs1, hs2, hs3⟩ := hSw); go_simp) <;> (with_reducible rfl))
 try simp only [Act.put, List.setIfInBounds_toArray, List.set_cons_zero, List.set_cons_succ]
 refine wpAnyU_take (i := 2) (v := ?va2) rfl (by kernel_rfl) (by kernel_rfl) (by kernel_rfl) (by kernel_rfl) (by kernel_rfl) (fun _ _ _ h => h) (Or.inl ⟨by rfl, ?hya2⟩) CB ?resta2
 case hya2 => ((intro wx hSw; (try dsimp only at hSw); (try obtain ⟨hs1, hs2, hs3⟩ := hSw); go_simp) <;> (with_reducible rfl))
 try simp only [Act.put, List.setIfInBounds_toArray, List.set_cons_zero, List.set_cons_succ]
 refine wpAnyU_take (i := 3) (v := ?va3) rfl (by kernel_rfl) (by kernel_rfl) (by kernel_rfl) (by kernel_rfl) (by kernel_rfl) (fun _ _ _ h => h) (Or.inl ⟨by rfl, ?hya3⟩) CB ?resta3
 case hya3 => ((intro wx hSw; (try dsimp only at hSw); (try obtain ⟨hs1, hs2, hs3⟩ := hSw); go_simp) <;> (with_reducible rfl))
 try simp only [Act.put, List.setIfInBounds_toArray, List.set_cons_zero, List.set_cons_succ]
 refine wpAnyU_take (i := 4) (v := ?va4) rfl (by kernel_rfl) (by kernel_rfl) (by kernel_rfl) (by kernel_rfl) (by kernel_rfl) (fun _ _ _ h => h) (Or.inl ⟨by rfl, ?hya4⟩) CB ?resta4
 case hya4 => ((intro wx hSw; (try dsimp only at hSw); (try obtain ⟨hs1, hs2, hs3⟩ := hSw); go_simp) <;> (with_reducible rfl))
 try simp only [Act.put, List.setIfInBounds_toArray, List.set_cons_zero, List.set_cons_succ]
 refine wpAnyU_take (i := 5) (v := ?va5) rfl (by kernel_rfl) (by kernel_rfl) (by kernel_rfl) (by kernel_rfl) (by kernel_rfl) (fun _ _ _ h => h) (Or.inl ⟨by rfl, ?hya5⟩) CB ?resta5
 case hya5 => ((intro wx hSw; (try dsimp only at hSw); (try obtain ⟨hs1, hs2, hs3⟩ := hSw); go_simp) <;> (with_reducible rfl))
 try simp only [Act.put, List.setIfInBounds_toArray, List.set_cons_zero, List.set_cons_succ]
 refine wpAnyU_take (i := 6) (v := ?va6) rfl (by kernel_rfl) (by kernel_rfl) (by kernel_rfl) (by kernel_rfl) (by kernel_rfl) (fun _ _ _ h => h) (Or.inl ⟨by rfl, ?hya6⟩) CB ?resta6
 case hya6 => ((intro wx hSw; (try dsimp only at hSw); (try obtain ⟨hs1, hs2, hs3⟩ := hSw); go_simp) <;> (with_reducible rfl))
 try simp only [Act.put, List.setIfInBounds_toArray, List.set_cons_zero, List.set_cons_succ]
 refine wpAnyU_take (i := 7) (v := ?va7) rfl (by kernel_rfl) (by kernel_rfl) (by kernel_rfl) (by kernel_rfl) (by kernel_rfl) (fun _ _ _ h => h) (Or.inl ⟨by rfl, ?hya7⟩) CB ?resta7
 case hya7 => ((intro wx hSw; (try dsimp only at hSw); (try obtain ⟨hs1, hs2, hs3⟩ := hSw); go_simp) <;> (with_reducible rfl))
 try simp only [Act.put, List.setIfInBounds_toArray, List.set_cons_zero, List.set_cons_succ]
 refine wpAnyU_take (i := 8) (v := ?va8) rfl (by kernel_rfl) (by kernel_rfl) (by kernel_rfl) (by kernel_rfl) (by kernel_rfl) (fun _ _ _ h => h) (Or.inl ⟨by rfl, ?hya8⟩) CB ?resta8
 case hya8 => ((intro wx hSw; (try dsimp only at hSw); (try obtain ⟨hs1, hs2, hs3⟩ := hSw); go_simp) <;> (with_reducible rfl))
 try simp only [Act.put, List.setIfInBounds_toArray, List.set_cons_zero, List.set_cons_succ]
 refine wpAnyU_take (i := 9) (v := ?va9) rfl (by kernel_rfl) (by kernel_rfl) (by kernel_rfl) (by kernel_rfl) (by kernel_rfl) (fun _ _ _ h => h) (Or.inl ⟨by rfl, ?hya9⟩) CB ?resta9
 case hya9 => ((intro wx hSw; (try dsimp only at hSw); (try obtain ⟨hs1, hs2, hs3⟩ := hSw); go_simp) <;> (with_reducible rfl))
 try simp only [Act.put, List.setIfInBounds_toArray, List.set_cons_zero, List.set_cons_succ]
 refine wpAnyU_take (i := 10) (v := ?va10) rfl (by kernel_rfl) (by kernel_rfl) (by kernel_rfl) (by kernel_rfl) (by kernel_rfl) (fun _ _ _ h => h) (Or.inl ⟨by rfl, ?hya10⟩) CB ?resta10
 case hya10 => ((intro wx hSw; (try dsimp only at hSw); (try obtain ⟨hs1, hs2, hs3⟩ := hSw); go_simp) <;> (with_reducible rfl))
 try simp only [Act.put, List.setIfInBounds_toArray, List.set_cons_zero, List.set_cons_succ]
 refine wpAnyU_take (i := 11) (v := ?va11) rfl (by kernel_rfl) (by kernel_rfl) (by kernel_rfl) (by kernel_rfl) (by kernel_rfl) (fun _ _ _ h => h) (Or.inl ⟨by rfl, ?hya11⟩) CB ?resta11
 case hya11 => ((intro wx hSw; (try dsimp only at hSw); (try obtain ⟨hs1, hs2, hs3⟩ := hSw); go_simp) <;> (with_reducible rfl))
 try simp only [Act.put, List.setIfInBounds_toArray, List.set_cons_zero, List.set_cons_succ]
 refine wpAnyU_take (i := 13) (v := ?va13) rfl (by kernel_rfl) (by kernel_rfl) (by kernel_rfl) (by kernel_rfl) (by kernel_rfl) (fun _ _ _ h => h) (Or.inl ⟨by rfl, ?hya13⟩) CB ?resta13
 case hya13 => ((intro wx hSw; (try dsimp only at hSw); (try obtain ⟨hs1, hs2, hs3⟩ := hSw); go_simp) <;> (with_reducible rfl))
 try simp only [Act.put, List.setIfInBounds_toArray, List.set_cons_zero, List.set_cons_succ]
 refine wpAnyU_take (i := 14) (v := ?va14) rfl (by kernel_rfl) (by kernel_rfl) (by kernel_rfl) (by kernel_rfl) (by kernel_rfl) (fun _ _ _ h => h) (Or.inl ⟨by rfl, ?hya14⟩) CB ?resta14
 case hya14 => ((intro wx hSw; (try dsimp only at hSw); (try obtain ⟨hs1, hs2, hs3⟩ := hSw); go_simp) <;> (with_reducible rfl))
 try simp only [Act.put, List.setIfInBounds_toArray, List.set_cons_zero, List.set_cons_succ]
 refine wpAnyU_one (i := 12) (by kernel_rfl) rfl (fun K hK => ?_)
 go_simp
 refine hK.out _ _ (fun _ => CB) ?_
 clear hK K
 try simp only [Act.put, List.setIfInBounds_toArray, List.set_cons_zero, List.set_cons_succ]
 refine wpAnyU_one (i := 15) (by kernel_rfl) rfl (fun K hK => ?_)
 rw [if_pos (by rfl)]
 refine oper_append_src (.tmp 35) (.tmp 37) 114 9 rfl lim 5 i0 (.int .u8 0) 1 Tryz.underlying114 hi hz0 hz1 hz2 rfl v len (byteV bs) rfl ho2.drew (.string bytes) bytes.size (byteCells bytes) rfl (Src.ofString _ Tryz.underlying9 bytes) (by unfold maxLen; omega) (by omega) (by show lim ≤ w2.heap.size; omega) ?_
 intro v' w4 hown' hgrow
 rw [byteCells_B, ← byteV_app] at hown'
 have t4 : Touch (fun k => v.ownBlock = some k) w2 w4 := (Touch.refl _ w2).drew.grown hgrow (fun k hk => hk)
 have nS : ¬ v.ownBlock = some S := fun e => by have := HO.out S e; omega
 have nX : ¬ v.ownBlock = some w.heap.size := fun e => by have := HO.out _ e; omega
 replace CB : w4.cell? ⟨S, 3, none⟩ = some (.map (some b)) ∧ w4.cell? ⟨w.heap.size, 1, none⟩ = some (.string path) ∧ w4.cell? ⟨w.heap.size, 2, none⟩ = some (.string bytes) := ⟨t4.at d3 nS, t4.at y1 nX, t4.at y2 nX⟩
 have hb4 := hb2.keep t4 hbo
 have h4 := h2.keep t4 nS
 refine hK.out _ _ (fun _ => CB) ?_
 clear hK K
 try simp only [Act.put, List.setIfInBounds_toArray, List.set_cons_zero, List.set_cons_succ]
 obtain ⟨w5, hput, hb5, hg5⟩ := hb4.put_old Tryz.underlying86 path hpa HB.out v' (by rw [hf]; rfl)
 refine wpAnyU_one (i := 16) (by kernel_rfl) rfl (fun K hK => ?_)
 go_simp
 refine hK.out _ _ (fun h => absurd rfl h) ?_
 clear hK K
 try simp only [Act.put, List.setIfInBounds_toArray, List.set_cons_zero, List.set_cons_succ]
 refine wpAnyU_done (by kernel_rfl) ?_ _
 have t5 := Touch.turned hg5
 have hvb : ∀ k, v'.ownBlock = some k → ¬ k = b := fun k hk e => by
  subst e
  obtain ⟨g1, g2, g3⟩ := owns_row hown' hk
  exact hb4.ne_row g3 rfl
 go_wp2
 go_ret
 exact ⟨rfl, h4.keep t5 (fun e => hne e.symm), v', hb5, t5.owns hown' hvb, (((ta.wide (fun k e => e.elim)).trans (t2.wide (fun k e => Or.inl e))).trans (t4.wide (fun k e => Or.inr (Or.inr e)))).trans (t5.wide (fun k e => Or.inr (Or.inl e)))⟩
end Go.Proofs.YtmhlkdlcpicekaaGreatDoor
