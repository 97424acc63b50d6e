/- Texts of this seat, joined. -/
import Derived.Test.YtnmkmmgaoplfiaaGreatDoorJ13
import Derived.Test.YtnmkmmgaoplfiaaGreatDoorJ19
import Derived.Test.YtnmkmmgaoplfiaaGreatDoorJ04
import Derived.Deep.RegionHeld3
set_option linter.unusedSimpArgs false
set_option linter.unusedVariables false
set_option maxRecDepth 100000
set_option maxHeartbeats 20000000
namespace Go.Proofs.YtnmkmmgaoplfiaaGreatDoor
open Go.RowKit Go.Shelf
theorem copyStep_err (D : List Nat) (s : ByteArray) (q : Nat) (out : List UInt8) (most x k : Nat) (h : copyStep D s q out most x = .inl k) : k = 1 ∨ k = 2 := by
 unfold copyStep at h
 split at h
 ·cases h; exact .inl rfl
 ·split at h
  ·cases h; exact .inl rfl
  ·split at h
   ·cases h; exact .inl rfl
   ·split at h
    ·cases h; exact .inl rfl
    ·split at h
     ·cases h; exact .inr rfl
     ·cases h
theorem codedGo_err (L D : List Nat) (s : ByteArray) (most : Nat) : ∀ f p out k, codedGo L D s most f p out = .inl k → k = 1 ∨ k = 2
 | 0, _, _, k, h => by simp [codedGo] at h; exact .inl h.symm
 | f + 1, p, out, k, h => by
  cases hd : dec L s p with
  | none => rw [codedGo_none _ _ _ _ _ _ _ hd] at h; cases h; exact .inl rfl
  | some xq =>
   obtain ⟨x, q⟩ := xq
   rw [codedGo_some _ _ _ _ _ _ _ _ _ hd] at h
   split at h
   ·cases h
   ·split at h
    ·split at h
     ·cases h; exact .inr rfl
     ·exact codedGo_err L D s most f _ _ k h
    ·split at h
     ·rename_i he; cases h; exact copyStep_err _ _ _ _ _ _ _ he
     ·exact codedGo_err L D s most f _ _ k h
theorem blockOf_err (s : ByteArray) (kind p : Nat) (out : List UInt8) (most k : Nat) (h : blockOf s kind p out most = .inl k) : k = 1 ∨ k = 2 := by
 unfold blockOf at h
 split at h
 ·unfold plainOf at h
  split at h
  ·cases h; exact .inl rfl
  ·split at h
   ·cases h
   ·split at h
    ·cases h; exact .inl rfl
    ·cases h; exact .inr rfl
 ·split at h
  ·exact codedGo_err _ _ _ _ _ _ _ _ h
  ·split at h
   ·split at h
    ·cases h; exact .inl rfl
    ·exact codedGo_err _ _ _ _ _ _ _ _ h
   ·cases h; exact .inl rfl
theorem blocksGo_err (s : ByteArray) (most : Nat) : ∀ f p out k, blocksGo s most f p out = .inl k → k = 1 ∨ k = 2
 | 0, _, _, k, h => by simp [blocksGo] at h; exact .inl h.symm
 | f + 1, p, out, k, h => by
  unfold blocksGo at h
  split at h
  ·cases h; exact .inl rfl
  ·split at h
   ·rename_i he; cases h; exact blockOf_err _ _ _ _ _ _ he
   ·split at h
    ·cases h
    ·exact blocksGo_err s most f _ _ k h
theorem inflateOf_err (s : ByteArray) (most : Int) (k : Nat) (h : inflateOf s most = .inl k) : k = 1 ∨ k = 2 := blocksGo_err _ _ _ _ _ _ h
def wholeOf (s : ByteArray) (size : Nat) : Sum Nat (List UInt8) := match inflateOf s (size : Int) with
 | .inl k => .inl (if k = 2 then 11 else 1)
 | .inr (out, q) => if out.length ≠ size then .inl 11 else if (q + 7) / 8 ≠ s.size then .inl 1 else .inr out
def bytesV (r : Sum Nat (List UInt8)) : Value := match r with
 | .inl k => .tuple #[.string ⟨#[]⟩, .int .i64 (k : Int)]
 | .inr l => .tuple #[.string ⟨l.toArray⟩, .int .i64 0]
theorem inflateWhole_c (w : World) (s : ByteArray) (size : Nat) (hz : size ≤ 1099511627776) (hs : s.size ≤ 2147483648) (ho : Ord w) (hb : 0 < w.heap.size) :
  Calls Tryz.prog 102 #[.string s, .int .i64 (size : Int)] w fun r w' => r = .returned (bytesV (wholeOf s size)) ∧ Touch (fun _ => False) w w' := by
 have HI : Hid (Calls Tryz.prog 15 #[.string s, .int .i64 (size : Int)] w fun e w' => e = .returned (inflateVal (inflateOf s (size : Int))) ∧ Below w.heap.size w w') := inflate_c w s (size : Int) (by omega) hs ho hb
 cases hi : inflateOf s (size : Int) with
 | inl k =>
  have hk := inflateOf_err s _ k hi
  have HW : Hid (wholeOf s size = .inl (if k = 2 then 11 else 1)) := by unfold Hid wholeOf; rw [hi]
  rw [hi] at HI
  have HI' : Hid (Calls Tryz.prog 15 #[.string s, .int .i64 (size : Int)] w fun e w' => e = .returned (.tuple #[.string ⟨#[]⟩, .int .i64 0, .int .i64 (k : Int)]) ∧ Below w.heap.size w w') := HI
  clear HI hi
  rcases hk with rfl | rfl
  ·go_enter Tryz.func102, Tryz.ntmps102
   go_wp2_with fail
   refine HI'.out.mono ?_
   rintro e w1 ⟨rfl, t1⟩
   go_wp2
   go_ret2
   exact ⟨by rw [HW.out]; rfl, Touch.ofBelow t1 _⟩
  ·go_enter Tryz.func102, Tryz.ntmps102
   go_wp2_with fail
   refine HI'.out.mono ?_
   rintro e w1 ⟨rfl, t1⟩
   go_wp2
   go_ret2
   exact ⟨by rw [HW.out]; rfl, Touch.ofBelow t1 _⟩
 | inr oq =>
  obtain ⟨out, q⟩ := oq
  have HW : Hid (wholeOf s size = if out.length ≠ size then .inl 11 else if (q + 7) / 8 ≠ s.size then .inl 1 else .inr out) := by unfold Hid wholeOf; rw [hi]
  rw [hi] at HI
  obtain ⟨t, ht⟩ : ∃ t, t = (q + 7) / 8 := ⟨_, rfl⟩
  rw [← ht] at HW
  have HI' : Hid (Calls Tryz.prog 15 #[.string s, .int .i64 (size : Int)] w fun e w' => e = .returned (.tuple #[.string ⟨out.toArray⟩, .int .i64 (t : Int), .int .i64 0]) ∧ Below w.heap.size w w') := by rw [ht]; exact HI
  have hl : (⟨out.toArray⟩ : ByteArray).size = out.length := by show out.toArray.size = _; simp
  obtain ⟨o, ho'⟩ : ∃ o : ByteArray, o = ⟨out.toArray⟩ := ⟨_, rfl⟩
  rw [← ho'] at HI' hl
  have HV : Hid (bytesV (.inr out) = .tuple #[.string o, .int .i64 0]) := by rw [ho']; rfl
  clear HI hi ht ho'
  by_cases h1 : (o.size : Int) = (size : Int)
  ·have h1' : ((o.size : Int) != (size : Int)) = false := by simpa using h1
   by_cases h2 : (t : Int) = (s.size : Int)
   ·have h2' : ((t : Int) != (s.size : Int)) = false := by simpa using h2
    have HE : Hid (bytesV (wholeOf s size) = .tuple #[.string o, .int .i64 0]) := by
     unfold Hid; rw [HW.out, if_neg (by omega), if_neg (by omega)]; exact HV.out
    clear h1 h2 HW hl
    go_enter Tryz.func102, Tryz.ntmps102
    go_wp2_with fail
    refine HI'.out.mono ?_
    rintro e w1 ⟨rfl, t1⟩
    go_wp2
    go_ret2
    exact ⟨by rw [HE.out]; rfl, Touch.ofBelow t1 _⟩
   ·have h2' : ((t : Int) != (s.size : Int)) = true := by simpa using h2
    have HE : Hid (wholeOf s size = .inl 1) := by unfold Hid; rw [HW.out, if_neg (by omega), if_pos (by omega)]
    clear h1 h2 HW hl
    go_enter Tryz.func102, Tryz.ntmps102
    go_wp2_with fail
    refine HI'.out.mono ?_
    rintro e w1 ⟨rfl, t1⟩
    go_wp2
    go_ret2
    exact ⟨by rw [HE.out]; rfl, Touch.ofBelow t1 _⟩
  ·have h1' : ((o.size : Int) != (size : Int)) = true := by simpa using h1
   have HE : Hid (wholeOf s size = .inl 11) := by unfold Hid; rw [HW.out, if_pos (by omega)]
   clear h1 HW hl
   go_enter Tryz.func102, Tryz.ntmps102
   go_wp2_with fail
   refine HI'.out.mono ?_
   rintro e w1 ⟨rfl, t1⟩
   go_wp2
   go_ret2
   exact ⟨by rw [HE.out]; rfl, Touch.ofBelow t1 _⟩
def givenOf (b : ByteArray) (e : Ent) : Sum Nat (List UInt8) := if e.method = 0 then .inr b.data.toList else wholeOf b e.size
theorem given_c (w : World) (b : ByteArray) (x : Spanned) (hz : x.ent.size ≤ 1099511627776) (hs : b.size ≤ 2147483648) (ho : Ord w) (hb : 0 < w.heap.size) :
  Calls Tryz.prog 79 #[.string b, .agg #[.string x.ent.name, .int .i64 (x.ent.method : Int), .int .u32 (x.ent.sum : Int), .int .i64 (x.ent.packed : Int), .int .i64 (x.ent.size : Int), .int .i64 (x.place : Int)]] w fun r w' => r = .returned (bytesV (givenOf b x.ent)) ∧ Touch (fun _ => False) w w' := by
 have T0 := (Touch.refl (fun _ => False) w).alloc (Obj.cells #[.string x.ent.name, .int .i64 (x.ent.method : Int), .int .u32 (x.ent.sum : Int), .int .i64 (x.ent.packed : Int), .int .i64 (x.ent.size : Int), .int .i64 (x.place : Int)] 44)
 by_cases hm : (x.ent.method : Int) = 0
 ·have HG : Hid (bytesV (givenOf b x.ent) = .tuple #[.string b, .int .i64 0]) := by unfold Hid givenOf; rw [if_pos (by omega)]; rfl
  have hm' : ((x.ent.method : Int) == 0) = true := by simpa using hm
  clear hm
  go_enter Tryz.func79, Tryz.ntmps79
  go_wp2_with fail
  refine (clone_c _ b (by omega)).mono ?_
  rintro e w1 ⟨rfl, t1⟩
  go_wp2
  go_ret2
  exact ⟨by rw [HG.out]; rfl, T0.trans t1⟩
 ·have hm' : ((x.ent.method : Int) == 0) = false := by simpa using hm
  have HG : Hid (givenOf b x.ent = wholeOf b x.ent.size) := by unfold Hid givenOf; rw [if_neg (by omega)]
  have HO := ho.keep T0 (fun h => h)
  go_enter Tryz.func79, Tryz.ntmps79
  go_wp2_with fail
  refine (inflateWhole_c _ b x.ent.size hz hs HO (by simp)).mono ?_
  rintro e w1 ⟨rfl, t1⟩
  cases hw : wholeOf b x.ent.size with
  | inl k =>
   unfold bytesV
   go_wp2
   go_ret2
   exact ⟨by rw [HG.out, hw]; rfl, T0.trans t1⟩
  | inr l =>
   unfold bytesV
   go_wp2
   go_ret2
   exact ⟨by rw [HG.out, hw]; rfl, T0.trans t1⟩
theorem givenOf_err (b : ByteArray) (e : Ent) (k : Nat) (h : givenOf b e = .inl k) : k = 1 ∨ k = 11 := by
 unfold givenOf at h
 split at h
 ·cases h
 ·unfold wholeOf at h
  split at h
  ·cases h; split
   ·exact .inr rfl
   ·exact .inl rfl
  ·split at h
   ·cases h; exact .inr rfl
   ·split at h
    ·cases h; exact .inl rfl
    ·cases h
theorem six_new (w : World) (x : Spanned) : (w.alloc (Obj.cells #[.string x.ent.name, .int .i64 (x.ent.method : Int), .int .u32 (x.ent.sum : Int), .int .i64 (x.ent.packed : Int), .int .i64 (x.ent.size : Int), .int .i64 (x.place : Int)] 44)).cell? ⟨w.heap.size, 0, none⟩ = some (.string x.ent.name) ∧ (w.alloc (Obj.cells #[.string x.ent.name, .int .i64 (x.ent.method : Int), .int .u32 (x.ent.sum : Int), .int .i64 (x.ent.packed : Int), .int .i64 (x.ent.size : Int), .int .i64 (x.place : Int)] 44)).cell? ⟨w.heap.size, 1, none⟩ = some (.int .i64 (x.ent.method : Int)) ∧ (w.alloc (Obj.cells #[.string x.ent.name, .int .i64 (x.ent.method : Int), .int .u32 (x.ent.sum : Int), .int .i64 (x.ent.packed : Int), .int .i64 (x.ent.size : Int), .int .i64 (x.place : Int)] 44)).cell? ⟨w.heap.size, 2, none⟩ = some (.int .u32 (x.ent.sum : Int)) ∧ (w.alloc (Obj.cells #[.string x.ent.name, .int .i64 (x.ent.method : Int), .int .u32 (x.ent.sum : Int), .int .i64 (x.ent.packed : Int), .int .i64 (x.ent.size : Int), .int .i64 (x.place : Int)] 44)).cell? ⟨w.heap.size, 3, none⟩ = some (.int .i64 (x.ent.packed : Int)) ∧ (w.alloc (Obj.cells #[.string x.ent.name, .int .i64 (x.ent.method : Int), .int .u32 (x.ent.sum : Int), .int .i64 (x.ent.packed : Int), .int .i64 (x.ent.size : Int), .int .i64 (x.place : Int)] 44)).cell? ⟨w.heap.size, 4, none⟩ = some (.int .i64 (x.ent.size : Int)) ∧ (w.alloc (Obj.cells #[.string x.ent.name, .int .i64 (x.ent.method : Int), .int .u32 (x.ent.sum : Int), .int .i64 (x.ent.packed : Int), .int .i64 (x.ent.size : Int), .int .i64 (x.place : Int)] 44)).cell? ⟨w.heap.size, 5, none⟩ = some (.int .i64 (x.place : Int)) := by
 have hb := heap_alloc_new w (Obj.cells #[.string x.ent.name, .int .i64 (x.ent.method : Int), .int .u32 (x.ent.sum : Int), .int .i64 (x.ent.packed : Int), .int .i64 (x.ent.size : Int), .int .i64 (x.place : Int)] 44)
 exact ⟨by rw [row_cell hb 0]; rfl, by rw [row_cell hb 1]; rfl, by rw [row_cell hb 2]; rfl, by rw [row_cell hb 3]; rfl, by rw [row_cell hb 4]; rfl, by rw [row_cell hb 5]; rfl⟩
theorem six_keep {w w' : World} {b : Nat} {x : Spanned} (ht : Touch (fun _ => False) w w') (h : w.cell? ⟨b, 0, none⟩ = some (.string x.ent.name) ∧ w.cell? ⟨b, 1, none⟩ = some (.int .i64 (x.ent.method : Int)) ∧ w.cell? ⟨b, 2, none⟩ = some (.int .u32 (x.ent.sum : Int)) ∧ w.cell? ⟨b, 3, none⟩ = some (.int .i64 (x.ent.packed : Int)) ∧ w.cell? ⟨b, 4, none⟩ = some (.int .i64 (x.ent.size : Int)) ∧ w.cell? ⟨b, 5, none⟩ = some (.int .i64 (x.place : Int))) : w'.cell? ⟨b, 0, none⟩ = some (.string x.ent.name) ∧ w'.cell? ⟨b, 1, none⟩ = some (.int .i64 (x.ent.method : Int)) ∧ w'.cell? ⟨b, 2, none⟩ = some (.int .u32 (x.ent.sum : Int)) ∧ w'.cell? ⟨b, 3, none⟩ = some (.int .i64 (x.ent.packed : Int)) ∧ w'.cell? ⟨b, 4, none⟩ = some (.int .i64 (x.ent.size : Int)) ∧ w'.cell? ⟨b, 5, none⟩ = some (.int .i64 (x.place : Int)) :=
 ⟨ht.at h.1 (fun e => e), ht.at h.2.1 (fun e => e), ht.at h.2.2.1 (fun e => e), ht.at h.2.2.2.1 (fun e => e), ht.at h.2.2.2.2.1 (fun e => e), ht.at h.2.2.2.2.2 (fun e => e)⟩
def dataOfE (s : ByteArray) (x : Spanned) : Sum Nat (List UInt8) := match givenOf (s.extract x.place (x.place + x.ent.packed)) x.ent with
 | .inl k => .inl k
 | .inr l => if sumOf ⟨l.toArray⟩ = x.ent.sum then .inr l else .inl 12
theorem dataOf_c (w : World) (s : ByteArray) (x : Spanned) (hz : x.ent.size ≤ 1099511627776) (hs : s.size ≤ 2147483648) (hp : x.place + x.ent.packed ≤ s.size) (ho : Ord w) (hb : 0 < w.heap.size) (hg : ∀ l, givenOf (s.extract x.place (x.place + x.ent.packed)) x.ent = .inr l → l.length ≤ 1099511627776) :
  Calls Tryz.prog 57 #[.string s, .agg #[.string x.ent.name, .int .i64 (x.ent.method : Int), .int .u32 (x.ent.sum : Int), .int .i64 (x.ent.packed : Int), .int .i64 (x.ent.size : Int), .int .i64 (x.place : Int)]] w fun r w' => r = .returned (bytesV (dataOfE s x)) ∧ Touch (fun _ => False) w w' := by
 have T0 := (Touch.refl (fun _ => False) w).alloc (Obj.cells #[.string x.ent.name, .int .i64 (x.ent.method : Int), .int .u32 (x.ent.sum : Int), .int .i64 (x.ent.packed : Int), .int .i64 (x.ent.size : Int), .int .i64 (x.place : Int)] 44)
 have HO := ho.keep T0 (fun h => h)
 have hz2 : (s.extract x.place (x.place + x.ent.packed)).size ≤ 2147483648 := by rw [ByteArray.size_extract]; omega
 have y1 : (x.place : Int) + (x.ent.packed : Int) ≤ (s.size : Int) := by omega
 have y2 : (x.place : Int) ≤ (x.place : Int) + (x.ent.packed : Int) := by omega
 have y3 : (0 : Int) ≤ (x.place : Int) := by omega
 have y4 : IntKind.i64.wrap ((x.place : Int) + (x.ent.packed : Int)) = (x.place : Int) + (x.ent.packed : Int) := by simp [IntKind.wrap, IntKind.bits, IntKind.signed]; omega
 have y5 : (0 : Int) ≤ (x.place : Int) + (x.ent.packed : Int) := by omega
 have HGC : Hid (∀ W, Ord W → 0 < W.heap.size → Calls Tryz.prog 79 #[.string (s.extract x.place (x.place + x.ent.packed)), .agg #[.string x.ent.name, .int .i64 (x.ent.method : Int), .int .u32 (x.ent.sum : Int), .int .i64 (x.ent.packed : Int), .int .i64 (x.ent.size : Int), .int .i64 (x.place : Int)]] W fun r w' => r = .returned (bytesV (givenOf (s.extract x.place (x.place + x.ent.packed)) x.ent)) ∧ Touch (fun _ => False) W w') := fun W h1 h2 => given_c W _ x hz hz2 h1 h2
 have HOD : Hid (Ord (w.alloc (Obj.cells #[.string x.ent.name, .int .i64 (x.ent.method : Int), .int .u32 (x.ent.sum : Int), .int .i64 (x.ent.packed : Int), .int .i64 (x.ent.size : Int), .int .i64 (x.place : Int)] 44)).drew) := HO
 have HD : Hid (dataOfE s x = match givenOf (s.extract x.place (x.place + x.ent.packed)) x.ent with | .inl k => .inl k | .inr l => if sumOf ⟨l.toArray⟩ = x.ent.sum then .inr l else .inl 12) := rfl
 cases hgv : givenOf (s.extract x.place (x.place + x.ent.packed)) x.ent with
 | inl k =>
  have hk := givenOf_err _ _ _ hgv
  rw [hgv] at HGC HD
  unfold bytesV at HGC
  simp only at HGC
  have k0 : ((k : Int) != 0) = true := by simp; omega
  have HE : Hid (bytesV (dataOfE s x) = .tuple #[.string ⟨#[]⟩, .int .i64 (k : Int)]) := by unfold Hid; rw [HD.out]; rfl
  clear hgv hk hg HO HD
  go_enter Tryz.func57, Tryz.ntmps57
  go_wp2
  go_region_held3 (fun X => X.cell? ⟨w.heap.size, 0, none⟩ = some (.string x.ent.name) ∧ X.cell? ⟨w.heap.size, 1, none⟩ = some (.int .i64 (x.ent.method : Int)) ∧ X.cell? ⟨w.heap.size, 2, none⟩ = some (.int .u32 (x.ent.sum : Int)) ∧ X.cell? ⟨w.heap.size, 3, none⟩ = some (.int .i64 (x.ent.packed : Int)) ∧ X.cell? ⟨w.heap.size, 4, none⟩ = some (.int .i64 (x.ent.size : Int)) ∧ X.cell? ⟨w.heap.size, 5, none⟩ = some (.int .i64 (x.place : Int))) (first | exact six_new w x | exact six_keep t2 (six_new w x) | assumption | go_keep) (first | (go_at_call 79; refine (HGC.out _ HOD.out (by simp)).mono ?_; rintro e w2 ⟨rfl, t2⟩))
  all_goals
   go_wp2
   go_ret2
   refine ⟨by rw [HE.out]; rfl, ?_⟩
   exact T0.drew.trans t2
 | inr l =>
  have hlen := hg l hgv
  rw [hgv] at HGC HD
  unfold bytesV at HGC
  simp only at HGC
  clear hgv hg HO
  go_enter Tryz.func57, Tryz.ntmps57
  go_wp2
  go_region_held3 (fun X => X.cell? ⟨w.heap.size, 0, none⟩ = some (.string x.ent.name) ∧ X.cell? ⟨w.heap.size, 1, none⟩ = some (.int .i64 (x.ent.method : Int)) ∧ X.cell? ⟨w.heap.size, 2, none⟩ = some (.int .u32 (x.ent.sum : Int)) ∧ X.cell? ⟨w.heap.size, 3, none⟩ = some (.int .i64 (x.ent.packed : Int)) ∧ X.cell? ⟨w.heap.size, 4, none⟩ = some (.int .i64 (x.ent.size : Int)) ∧ X.cell? ⟨w.heap.size, 5, none⟩ = some (.int .i64 (x.place : Int))) (first | exact six_new w x | exact six_keep t2 (six_new w x) | assumption | go_keep) (first | (go_at_call 79; refine (HGC.out _ HOD.out (by simp)).mono ?_; rintro e w2 ⟨rfl, t2⟩))
  have T2 : Touch (fun _ => False) w w2 := T0.drew.trans t2
  have S2 := six_keep t2 (six_new w x)
  have c2 := S2.2.2.1
  have hln : (⟨l.toArray⟩ : ByteArray).size ≤ maxLen := by unfold maxLen; show l.toArray.size ≤ _; simp; omega
  obtain ⟨D, hD⟩ : ∃ D : ByteArray, D = ⟨l.toArray⟩ := ⟨_, rfl⟩
  have HSM : Hid (∀ W, Calls Tryz.prog 13 #[.string D] W fun e w' => e = .returned (.int .u32 (sumOf D : Nat)) ∧ Touch (fun _ => False) W w') := fun W => (sum_c W D (by rw [hD]; exact hln)).mono fun _ _ h => ⟨h.1, Touch.ofBelow h.2 _⟩
  have HV : Hid (bytesV (.inr l) = .tuple #[.string D, .int .i64 0]) := by rw [hD]; rfl
  have HD' : Hid (dataOfE s x = if sumOf D = x.ent.sum then .inr l else .inl 12) := by unfold Hid; rw [HD.out, hD]
  rw [← hD]
  clear hD HD HGC HOD hln hlen S2 t2 T0
  revert HSM HD'
  generalize sumOf D = sm
  intro HSM HD'
  by_cases hq : (sm : Int) = (x.ent.sum : Int)
  ·have hq' : ((sm : Int) != (x.ent.sum : Int)) = false := by simpa using hq
   have HE : Hid (bytesV (dataOfE s x) = .tuple #[.string D, .int .i64 0]) := by unfold Hid; rw [HD'.out, if_pos (by omega)]; exact HV.out
   clear hq HD'
   go_wp2
   go_region_held3 (fun X => X.cell? ⟨w.heap.size, 2, none⟩ = some (.int .u32 (x.ent.sum : Int))) (first | exact c2 | exact d3 | assumption | go_keep) (first | (go_at_call 13; refine (HSM.out _).mono ?_; rintro e w3 ⟨rfl, t3⟩; have d3 := t3.at (w := w2.drew) c2 (fun e => e)))
   all_goals
    go_wp2
    go_ret2
    exact ⟨by rw [HE.out]; rfl, T2.drew.trans t3⟩
  ·have hq' : ((sm : Int) != (x.ent.sum : Int)) = true := by simpa using hq
   have HE : Hid (bytesV (dataOfE s x) = .tuple #[.string ⟨#[]⟩, .int .i64 12]) := by unfold Hid; rw [HD'.out, if_neg (by omega)]; rfl
   clear hq HD'
   go_wp2
   go_region_held3 (fun X => X.cell? ⟨w.heap.size, 2, none⟩ = some (.int .u32 (x.ent.sum : Int))) (first | exact c2 | exact d3 | assumption | go_keep) (first | (go_at_call 13; refine (HSM.out _).mono ?_; rintro e w3 ⟨rfl, t3⟩; have d3 := t3.at (w := w2.drew) c2 (fun e => e)))
   all_goals
    go_wp2
    go_ret2
    exact ⟨by rw [HE.out]; rfl, T2.drew.trans t3⟩
end Go.Proofs.YtnmkmmgaoplfiaaGreatDoor
namespace Go.Proofs.YtnmkmmgaoplfiaaGreatDoor
open Go.RowKit Go.Shelf
theorem Tryz.infoFile : (Tryz.prog.info? 39).map (fun i => (i.zero, i.size, i.bytes)) = some (some (.agg #[.string ⟨#[]⟩, .string ⟨#[]⟩]), 2, 32) := by kernel_rfl
structure EntsAt (w : World) (g : Nat) (L : List Spanned) : Prop where
 cells : ∀ i (h : i < L.length) j, j < 6 → w.cell? ⟨g, i * 6 + j, none⟩ = (entL L[i])[j]?
 lt : g < w.heap.size
theorem EntsAt.keep {S : Nat → Prop} {w w' : World} {g : Nat} {L : List Spanned} (h : EntsAt w g L) (ht : Touch S w w') (hs : ¬ S g) : EntsAt w' g L := by
 refine ⟨fun i hi j hj => ?_, Nat.lt_of_lt_of_le h.lt ht.size⟩
 have h1 := h.cells i hi j hj
 have h2 : (entL L[i])[j]? = some ((entL L[i])[j]'(by simpa [entL] using hj)) := List.getElem?_eq_getElem _
 rw [h2] at h1 ⊢
 exact ht.at h1 hs
theorem entV_get (l : List Spanned) : ∀ i (h : i < l.length) j, j < 6 → (entV l)[i * 6 + j]? = (entL l[i])[j]? := by
 induction l with
 | nil => intro i h; simp at h
 | cons a l ih =>
  intro i h j hj
  have e : entV (a :: l) = entL a ++ entV l := rfl
  have hl : (entL a).length = 6 := rfl
  cases i with
  | zero =>
   rw [e, Nat.zero_mul, Nat.zero_add, List.getElem?_append_left (by omega)]; rfl
  | succ i =>
   rw [e, show (i + 1) * 6 + j = 6 + (i * 6 + j) by omega, List.getElem?_append_right (by omega), hl, Nat.add_sub_cancel_left]
   exact ih i (by simpa using h) j hj
theorem EntsAt.owned {w : World} {base g cap : Nat} {L : List Spanned} (h : w.ownsRow base 44 6 (.slice (some ⟨g, 0, none⟩) L.length cap) L.length (entV L)) : EntsAt w g L := by
 obtain ⟨h1, ⟨h2, _⟩ | ⟨g', cap', cur, e, hb, hg, h3, h4, h5, h6⟩⟩ := h
 ·cases h2
 ·cases e
  refine ⟨fun i hi j hj => ?_, (Array.getElem?_eq_some_iff.1 hg).1⟩
  have hlt : i * 6 + j < L.length * 6 := by omega
  rw [← entV_get L i hi j hj, ← h6, List.getElem?_take_of_lt hlt]
  unfold World.cell?; rw [hg]; simp
def fileL (f : ByteArray × List UInt8) : List Value := [.string f.1, .string ⟨f.2.toArray⟩]
def fileV (l : List (ByteArray × List UInt8)) : List Value := l.flatMap fileL
theorem fileV_snoc (l : List (ByteArray × List UInt8)) (x : ByteArray × List UInt8) : fileV (l ++ [x]) = fileV l ++ fileL x := by simp [fileV]
def filesGo (s : ByteArray) : List Spanned → List (ByteArray × List UInt8) → Sum Nat (List (ByteArray × List UInt8))
 | [], acc => .inr acc
 | x :: l, acc => if folderB x.ent.name then filesGo s l acc else match dataOfE s x with
  | .inl k => .inl k
  | .inr d => filesGo s l (acc ++ [(x.ent.name, d)])
theorem dataOfE_err (s : ByteArray) (x : Spanned) (k : Nat) (h : dataOfE s x = .inl k) : k = 1 ∨ k = 11 ∨ k = 12 := by
 unfold dataOfE at h
 split at h
 ·rename_i he; cases h
  rcases givenOf_err _ _ _ he with h | h
  ·exact .inl h
  ·exact .inr (.inl h)
 ·split at h
  ·cases h
  ·cases h; exact .inr (.inr rfl)
structure FileOk (s : ByteArray) (x : Spanned) : Prop where
 size : x.ent.size ≤ 1099511627776
 inside : x.place + x.ent.packed ≤ s.size
 name : x.ent.name.size ≤ 60
theorem givenOf_len (s : ByteArray) (x : Spanned) (h : FileOk s x) (hs : s.size ≤ 2147483648) : ∀ l, givenOf (s.extract x.place (x.place + x.ent.packed)) x.ent = .inr l → l.length ≤ 1099511627776 := by
 intro l hl
 unfold givenOf at hl
 split at hl
 ·cases hl
  rw [← Lib.size_eq, ByteArray.size_extract]; omega
 ·unfold wholeOf at hl
  split at hl
  ·cases hl
  ·split at hl
   ·cases hl
   ·split at hl
    ·cases hl
    ·rename_i h1 _; cases hl
     have := h.size
     simp at h1; omega
def filesPost (base : Nat) (R : Sum Nat (List (ByteArray × List UInt8))) (r : Ending) (w' : World) : Prop := match R with
 | .inl k => r = .returned (.tuple #[.slice none 0 0, .int .i64 (k : Int)])
 | .inr fs => ∃ v, r = .returned (.tuple #[v, .int .i64 0]) ∧ w'.ownsRow base 39 2 v fs.length (fileV fs)
theorem filesOf_c (w : World) (s : ByteArray) (a : Option Addr) (g cap : Nat) (L : List Spanned) (ha : 0 < L.length → a = some ⟨g, 0, none⟩) (hl : 0 < L.length → EntsAt w g L) (hn : L.length ≤ 1000000000) (hok : ∀ x ∈ L, FileOk s x) (hs : s.size ≤ 2147483648) (ho : Ord w) (hb : 0 < w.heap.size) :
  Calls Tryz.prog 33 #[.string s, .slice a L.length cap] w fun r w' => Touch (fun _ => False) w w' ∧ filesPost w.heap.size (filesGo s L []) r w' := by
 obtain ⟨i0, hi, hz0, hz1, hz2⟩ := info_parts Tryz.infoFile
 obtain ⟨n, hN⟩ : ∃ n, n = L.length := ⟨_, rfl⟩
 rw [← hN]
 have ha' : Hid (0 < L.length → a = some ⟨g, 0, none⟩) := ha
 have hl' : Hid (0 < L.length → EntsAt w g L) := hl
 have hN' : Hid (n = L.length) := hN
 have hn' : n ≤ 1000000000 := by omega
 obtain ⟨R, hR⟩ : ∃ R, R = filesGo s L [] := ⟨_, rfl⟩
 have HR : Hid (R = filesGo s (L.drop 0) []) := hR
 rw [← hR]
 clear ha hl hN hn hR
 go_enter Tryz.func33, Tryz.ntmps33
 go_wp2
 go_loopw [6, 13] (fun v i wr => ∃ (k : Nat) (acc : List (ByteArray × List UInt8)), k ≤ n ∧ acc.length ≤ k ∧ i = .int .i64 (k : Int) ∧ wr.ownsRow w.heap.size 39 2 v acc.length (fileV acc) ∧ Hid (R = filesGo s (L.drop k) acc) ∧ Touch (fun _ => False) w wr) (fun v i wr => n - (intOf i).toNat)
 case atStart => exact ⟨0, [], Nat.zero_le _, Nat.zero_le _, rfl, World.ownsRow_nil _ _ _ _, HR, Touch.refl _ _⟩
 case round =>
  obtain ⟨k, acc, hk, hacc, rfl, hro, HK, ht⟩ := hrel
  have hsz := ht.size
  by_cases hlt : k < n
  ·have hlt' : k < L.length := by have := hN'.out; omega
   obtain rfl := ha'.out (by omega)
   have hE := (hl'.out (by omega)).keep ht (fun e => e)
   have hC := hE.cells k hlt'
   have HX : Hid (R = if folderB L[k].ent.name then filesGo s (L.drop (k + 1)) acc else match dataOfE s L[k] with | .inl k => .inl k | .inr d => filesGo s (L.drop (k + 1)) (acc ++ [(L[k].ent.name, d)])) := by
    unfold Hid; rw [HK.out, List.drop_eq_getElem_cons hlt']; rfl
   have hfo := hok L[k] (List.getElem_mem hlt')
   revert hC HX hfo
   generalize L[k] = x
   intro hC HX hfo
   have c0 := hC 0 (by omega)
   have c1 := hC 1 (by omega)
   have c2 := hC 2 (by omega)
   have c3 := hC 3 (by omega)
   have c4 := hC 4 (by omega)
   have c5 := hC 5 (by omega)
   simp only [entL, List.getElem?_cons_zero, List.getElem?_cons_succ, Nat.add_zero] at c0 c1 c2 c3 c4 c5
   have hwr := (Touch.refl (fun _ => False) wr).alloc (Obj.cells #[.string x.ent.name, .int .i64 (x.ent.method : Int), .int .u32 (x.ent.sum : Int), .int .i64 (x.ent.packed : Int), .int .i64 (x.ent.size : Int), .int .i64 (x.place : Int)] 44)
   have HO : Hid (Ord (wr.alloc (Obj.cells #[.string x.ent.name, .int .i64 (x.ent.method : Int), .int .u32 (x.ent.sum : Int), .int .i64 (x.ent.packed : Int), .int .i64 (x.ent.size : Int), .int .i64 (x.place : Int)] 44))) := (ho.keep ht (fun e => e)).keep hwr (fun e => e)
   have HNm : Hid (x.ent.name.size ≤ 140737488355328) := by have := hfo.name; unfold Hid; omega
   clear hC hlt' hE
   go_wp2_with fail
   refine (isFolder_c _ x.ent.name HNm.out).mono ?_
   rintro e w' ⟨rfl, rfl⟩
   cases hf : folderB x.ent.name with
   | true =>
    rw [hf] at HX
    have HX' : Hid (R = filesGo s (L.drop (k + 1)) acc) := HX
    clear HX HK
    go_wp2
    exact ⟨⟨k + 1, acc, by omega, by omega, by go_num, hro.alloc _, HX', ht.alloc _⟩, by simp [intOf]; omega⟩
   | false =>
    rw [hf] at HX
    have HX' : Hid (R = match dataOfE s x with | .inl k => .inl k | .inr d => filesGo s (L.drop (k + 1)) (acc ++ [(x.ent.name, d)])) := HX
    clear HX HK
    have hc := dataOf_c _ s x hfo.size hs hfo.inside HO.out (by simp) (givenOf_len s x hfo hs)
    cases hd : dataOfE s x with
    | inl q =>
     rw [hd] at HX' hc
     simp only [bytesV] at hc
     have HC : Hid (Calls Tryz.prog 57 #[.string s, .agg #[.string x.ent.name, .int .i64 (x.ent.method : Int), .int .u32 (x.ent.sum : Int), .int .i64 (x.ent.packed : Int), .int .i64 (x.ent.size : Int), .int .i64 (x.place : Int)]] (wr.alloc (Obj.cells #[.string x.ent.name, .int .i64 (x.ent.method : Int), .int .u32 (x.ent.sum : Int), .int .i64 (x.ent.packed : Int), .int .i64 (x.ent.size : Int), .int .i64 (x.place : Int)] 44)) fun r w' => r = .returned (.tuple #[.string ⟨#[]⟩, .int .i64 (q : Int)]) ∧ Touch (fun _ => False) (wr.alloc (Obj.cells #[.string x.ent.name, .int .i64 (x.ent.method : Int), .int .u32 (x.ent.sum : Int), .int .i64 (x.ent.packed : Int), .int .i64 (x.ent.size : Int), .int .i64 (x.place : Int)] 44)) w') := hc
     have hq := dataOfE_err s x q hd
     have q0 : ((q : Int) != 0) = true := by simp; omega
     have HX2 : Hid (R = .inl q) := HX'
     clear hc HX' hd
     go_wp2_with fail
     refine HC.out.mono ?_
     rintro e w1 ⟨rfl, t1⟩
     have T1 := (ht.alloc _).trans t1
     clear t1 c0 c1 c2 c3 c4 c5 hwr
     go_wp2
     go_ret2
     refine ⟨T1, ?_⟩
     rw [HX2.out]; rfl
    | inr d =>
     rw [hd] at HX' hc
     simp only [bytesV] at hc
     have HX2 : Hid (R = filesGo s (L.drop (k + 1)) (acc ++ [(x.ent.name, d)])) := HX'
     obtain ⟨D, hD⟩ : ∃ D : ByteArray, D = ⟨d.toArray⟩ := ⟨_, rfl⟩
     rw [← hD] at hc
     have HC : Hid (Calls Tryz.prog 57 #[.string s, .agg #[.string x.ent.name, .int .i64 (x.ent.method : Int), .int .u32 (x.ent.sum : Int), .int .i64 (x.ent.packed : Int), .int .i64 (x.ent.size : Int), .int .i64 (x.place : Int)]] (wr.alloc (Obj.cells #[.string x.ent.name, .int .i64 (x.ent.method : Int), .int .u32 (x.ent.sum : Int), .int .i64 (x.ent.packed : Int), .int .i64 (x.ent.size : Int), .int .i64 (x.place : Int)] 44)) fun r w' => r = .returned (.tuple #[.string D, .int .i64 0]) ∧ Touch (fun _ => False) (wr.alloc (Obj.cells #[.string x.ent.name, .int .i64 (x.ent.method : Int), .int .u32 (x.ent.sum : Int), .int .i64 (x.ent.packed : Int), .int .i64 (x.ent.size : Int), .int .i64 (x.place : Int)] 44)) w') := hc
     have HFL : Hid ([Value.string x.ent.name, Value.string D] = fileL (x.ent.name, d)) := by rw [hD]; rfl
     have b1 : acc.length + 1 ≤ maxLen := by unfold maxLen; omega
     have b2 : (acc.length + 1) * 32 ≤ 140737488355328 := by omega
     clear hD hc HX' hd
     go_wp2_with fail
     refine HC.out.mono ?_
     rintro e w1 ⟨rfl, t1⟩
     have T1 := (ht.alloc _).trans t1
     have ho1 := t1.owns (hro.alloc _) (fun k _ h => h)
     have g0 := (six_keep t1 (six_new wr x)).1
     have hsz1 : w.heap.size ≤ w1.heap.size := T1.size
     clear t1 c0 c1 c2 c3 c4 c5 hwr
     go_wp2_with (at_builtin; refine wpList_append_own _ rfl _ _ 24 rfl w.heap.size 39 i0 (.agg #[.string ⟨#[]⟩, .string ⟨#[]⟩]) 2 32 Tryz.underlying24 hi hz0 hz1 hz2 rfl (by decide) _ _ _ rfl (ho1.alloc _) ⟨w1.heap.size, 0, none⟩ 1 1 [.string x.ent.name, .string D] rfl rfl (cell_two_new _ _ _ _) (by simp [Value.oneCell']) b1 b2 (by simp; omega) ?_; intro v' w2 hown' hgrow hnil)
     refine ⟨⟨k + 1, acc ++ [(x.ent.name, d)], by omega, by simp; omega, by go_num, ?_, HX2, ?_⟩, by simp [intOf]; omega⟩
     ·rw [fileV_snoc, ← HFL.out, List.length_append]; exact hown'
     ·exact (T1.alloc _).grownNew hgrow (fun j hj => (hro.lt j hj).1)
  ·obtain rfl : k = n := by omega
   have HE : Hid (R = .inr acc) := by unfold Hid; rw [HK.out, List.drop_of_length_le (by have := hN'.out; omega)]; rfl
   go_wp2
   go_ret2
   refine ⟨ht, ?_⟩
   rw [HE.out]; exact ⟨_, rfl, hro⟩
end Go.Proofs.YtnmkmmgaoplfiaaGreatDoor
