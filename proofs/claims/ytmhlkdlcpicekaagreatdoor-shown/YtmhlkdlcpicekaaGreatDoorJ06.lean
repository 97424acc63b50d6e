/- Texts of this seat, joined. -/
import Derived.Test.YtmhlkdlcpicekaaGreatDoorJ04
import Derived.Test.YtmhlkdlcpicekaaGreatDoorJ05
import Derived.BigRegion
import Derived.RegionTactic
set_option linter.unusedSimpArgs false
set_option linter.unusedVariables false
set_option maxRecDepth 100000
set_option maxHeartbeats 20000000
namespace Go.Proofs.YtmhlkdlcpicekaaGreatDoor
open Go.RowKit Go.Maps
theorem makeMaps_old (w : World) (S m : Nat) (be : Option Nat) (c : CutS) (np : Bool) (h : SB w S 1 (some m) be c np) :
  Calls Tryz.prog 73 #[.pointer (some ⟨S, 0, none⟩)] w fun r w' => r = .returned (.tuple #[]) ∧ w' = w := by
 have heq := run_eql_map_nil (P := Tryz.prog) w 84 9 30 (some m) Tryz.underlying84
 obtain ⟨c0, c2, c3, c4, c5, c6, c7⟩ := h.cs
 go_enter Tryz.func73, Tryz.ntmps73
 go_wp2
 go_end0
 exact ⟨rfl, rfl⟩
theorem passC_no {c : CutS} (h : passB c = false) : passC c = c := by
 rcases c with _ | ⟨_ | n, f⟩
 ·rfl
 ·rfl
 ·cases h
theorem do_no (w : World) (S : Nat) (sh be : Option Nat) (c : CutS) (np : Bool) (h : SB w S 1 sh be c np) (hp : passB c = false) (kd : Int) (path bytes : ByteArray) :
  Calls Tryz.prog 76 #[.pointer (some ⟨S, 0, none⟩), .agg #[.int .i64 kd, .string path, .string bytes]] w fun r w' => r = .returned (.bool false) ∧ SB w' S 1 sh be c np ∧ Touch (fun k => k = S) w w' := by
 have ta : Touch (fun k => k = S) w (w.alloc (.cells #[.int .i64 kd, .string path, .string bytes] 161)) := (Touch.refl _ _).alloc _
 have h1 := h.keep ((Touch.refl (fun _ => False) w).alloc (.cells #[.int .i64 kd, .string path, .string bytes] 161)) (fun e => e)
 go_enter Tryz.func76, Tryz.ntmps76
 go_wp2_with (go_at_call 129; refine (passes_c _ S 1 sh be c np h1).mono ?_; rintro e w2 ⟨rfl, h2, t2⟩; rw [passC_no hp] at h2; rw [hp])
 go_ret
 exact ⟨rfl, h2, ta.trans t2⟩
theorem do_make (w : World) (S b n : Nat) (f : List UInt8 → Option Value) (sh : Option Nat) (c : CutS) (np : Bool) (h : SB w S 1 sh (some b) c np) (hb : RawMap w b n f) (hn : n < maxLen) (hp : passB c = true) (kd : Int) (hk : kd = 0 ∨ kd = 1) (path bytes : ByteArray) (hpa : path.size ≤ maxLen) :
  Calls Tryz.prog 76 #[.pointer (some ⟨S, 0, none⟩), .agg #[.int .i64 kd, .string path, .string bytes]] w fun r w' => r = .returned (.bool true) ∧ SB w' S 1 sh (some b) (passC c) np ∧ RawMap w' b (n + 1) (updM f path.data.toList (some nilS)) ∧ Touch (fun k => k = S ∨ k = b) w w' := by
 have ta : Touch (fun _ => False) w (w.alloc (.cells #[.int .i64 kd, .string path, .string bytes] 161)) := (Touch.refl _ _).alloc _
 have h1 := h.keep ta (fun e => e)
 have hb1 := hb.keep ta (fun e => e)
 have hne := hb.ne_row h.hp
 have hlt := h.lt
 have bx : (w.alloc (.cells #[.int .i64 kd, .string path, .string bytes] 161)).heap[w.heap.size]? = some (.cells #[.int .i64 kd, .string path, .string bytes] 161 (0, 0)) := heap_alloc_new w _
 have x0 := row_cell bx 0
 have x1 := row_cell bx 1
 have sne : ¬ w.heap.size = S := by omega
 have HB : Hid (n < maxLen) := hn
 clear hn bx
 rcases hk with rfl | rfl
 all_goals
  go_enter Tryz.func76, Tryz.ntmps76
  go_wp2_with (go_at_call 129; refine (passes_c _ S 1 sh (some b) c np h1).mono ?_; rintro e w2 ⟨rfl, h2, t2⟩; rw [hp]; have y0 := t2.at x0 sne; have y1 := t2.at x1 sne; have hb2 := hb1.keep t2 hne; obtain ⟨d0, d2, d3, d4, d5, d6, d7⟩ := h2.cs)
  obtain ⟨w3, hput, hb3, hg3⟩ := RawMap.put (w := w2.drew) hb2 Tryz.underlying86 path hpa HB.out nilS
  go_region
  all_goals
   go_wp2
   go_ret
   exact ⟨rfl, h2.keep ((Touch.refl (fun k => k = b) w2).drew.trans (Touch.turned hg3)) (fun e => hne e.symm), hb3, ((ta.wide (fun k e => e.elim)).trans (t2.wide (fun k e => Or.inl e))).trans (((Touch.refl _ w2).drew.trans (Touch.turned hg3)).wide (fun k e => Or.inr e))⟩
end Go.Proofs.YtmhlkdlcpicekaaGreatDoor
