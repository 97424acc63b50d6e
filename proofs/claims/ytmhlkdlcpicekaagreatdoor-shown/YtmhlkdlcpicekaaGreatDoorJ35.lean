/- Texts of this seat, joined. -/
import Derived.Test.YtmhlkdlcpicekaaGreatDoorJ33
import Derived.Test.YtmhlkdlcpicekaaGreatDoorJ34
import Derived.Test.YtmhlkdlcpicekaaGreatDoorJ19
import Derived.Test.YtmhlkdlcpicekaaGreatDoorJ21
import Derived.BigQuiet
set_option linter.unusedSimpArgs false
set_option linter.unusedVariables false
set_option maxRecDepth 100000
set_option maxHeartbeats 20000000
namespace Go.Proofs.YtmhlkdlcpicekaaGreatDoor
open Go.RowKit Go.Maps Go.MuLone
def atF (l : List Fold) (folder : ByteArray) : Option (List Fil) := (l.find? fun x => keyF x == folder.data.toList).map (·.2)
theorem atF_none {l : List Fold} {folder : ByteArray} (h : atF l folder = none) : folder.data.toList ∉ l.map keyF := by
 unfold atF at h
 rw [Option.map_eq_none_iff, List.find?_eq_none] at h
 intro hm
 obtain ⟨x, hx, e⟩ := List.mem_map.1 hm
 exact h x hx (by simp [e])
theorem atF_some {l : List Fold} {folder : ByteArray} {o : List Fil} (h : atF l folder = some o) : ∃ x ∈ l, keyF x = folder.data.toList ∧ x.2 = o := by
 unfold atF at h
 rw [Option.map_eq_some_iff] at h
 obtain ⟨x, hx, e⟩ := h
 have h1 := List.find?_some hx
 exact ⟨x, List.mem_of_find?_eq_some hx, by simpa using h1, e⟩
theorem files_no (w : World) (S : Nat) (sh be : Option Nat) (c : CutS) (np : Bool) (folder : ByteArray) (h : SB w S 0 sh be c np)
  (HLK : Hid (∀ W, Touch (fun k => k = S) w W → (Instr.lookup 84 (.map sh) (.string folder) true).run Tryz.prog W = .ok (.tuple #[nilS, .bool false]) W)) :
  Calls Tryz.prog 16 #[.pointer (some ⟨S, 0, none⟩), .string folder] w fun r w' => r = .returned (.tuple #[.slice none 0 0, .int .i64 16]) ∧ SB w' S 0 sh be c np ∧ Touch (fun k => k = S) w w' := by
 have h1 := h.lock 1
 obtain ⟨c0, c2, c3, c4, c5, c6, c7⟩ := h.cs
 have f0 := h.fr 0
 obtain ⟨d0, d2, d3, d4, d5, d6, d7⟩ := h1.cs
 have t1 := touch_cell w S 0 (.int .i32 1)
 have hlk := HLK.out _ t1
 go_enter_defers Tryz.func16, Tryz.ntmps16
 go_wp2_with (go_at_call 33; refine (lock_free muLib ⟨S, 0, none⟩ _ c0 f0).mono ?_; rintro e w' ⟨rfl, rfl⟩)
 refine leaves_cons (f := 34) (args := #[.pointer (some ⟨S, 0, none⟩)]) (by simp) (by simp [go_sem]) ?_
 refine (unlock_deferred muLib ⟨S, 0, none⟩ .returning _ d0 (h1.fr 0)).mono ?_
 rintro e u' w'' ⟨rfl, rfl, rfl⟩
 refine ⟨_, ?_, rfl, h1.lock 0, t1.trans (touch_cell _ _ _ _)⟩
 first | exact results_two rfl _ _ _ | (simp [results, Tryz.results16, go_sem])
theorem files_yes (w : World) (S : Nat) (sh be : Option Nat) (c : CutS) (np : Bool) (folder : ByteArray) (v : Value) (fl : List Fil) (h : SB w S 0 sh be c np) (hfl : fl.length ≤ 1000000000000)
  (HLK : Hid (∀ W, Touch (fun k => k = S) w W → (Instr.lookup 84 (.map sh) (.string folder) true).run Tryz.prog W = .ok (.tuple #[v, .bool true]) W ∧ W.ownsRow 0 41 2 v fl.length (fileV fl))) :
  Calls Tryz.prog 16 #[.pointer (some ⟨S, 0, none⟩), .string folder] w fun r w' => ∃ v', r = .returned (.tuple #[v', .int .i64 0]) ∧ w'.ownsRow w.heap.size 41 2 v' fl.length (fileV fl) ∧ SB w' S 0 sh be c np ∧ Touch (fun k => k = S) w w' := by
 have h1 := h.lock 1
 obtain ⟨c0, c2, c3, c4, c5, c6, c7⟩ := h.cs
 have f0 := h.fr 0
 have hlt := h.lt
 obtain ⟨d0, d2, d3, d4, d5, d6, d7⟩ := h1.cs
 have t1 := touch_cell w S 0 (.int .i32 1)
 have hs1 : (w.setCell ⟨S, 0, none⟩ (.int .i32 1)).heap.size = w.heap.size := by simp
 obtain ⟨hlk, hrow⟩ := HLK.out _ t1
 have HCL : Hid (Calls Tryz.prog 40 #[v] (w.setCell ⟨S, 0, none⟩ (.int .i32 1)) fun r w' => ∃ v', r = .returned v' ∧ w'.ownsRow w.heap.size 41 2 v' fl.length (fileV fl) ∧ Touch (fun _ => False) (w.setCell ⟨S, 0, none⟩ (.int .i32 1)) w') := by
  have := clone_files _ v fl hrow hfl
  rw [hs1] at this
  exact this
 obtain ⟨W1, hW1⟩ : ∃ W1, W1 = w.setCell ⟨S, 0, none⟩ (.int .i32 1) := ⟨_, rfl⟩
 have HW1 : Hid (W1 = w.setCell ⟨S, 0, none⟩ (.int .i32 1)) := hW1
 rw [← hW1] at h1 hlk hrow HCL t1 d0 d2 d3 d4 d5 d6 d7
 clear hW1 hrow hs1 HLK
 go_enter_defers Tryz.func16, Tryz.ntmps16
 go_wp2_with fail
 refine (lock_free muLib ⟨S, 0, none⟩ _ c0 f0).mono ?_
 rintro e w' ⟨rfl, rfl⟩
 rw [← HW1.out]
 clear c0 c2 c3 c4 c5 c6 c7 f0
 go_wp2_with (go_at_call 40; refine HCL.out.mono ?_; rintro e w2 ⟨v2, rfl, o2, t2⟩)
 have h2 := h1.keep t2 (fun e => e)
 refine leaves_cons (f := 34) (args := #[.pointer (some ⟨S, 0, none⟩)]) (by simp) (by simp [go_sem]) ?_
 refine (unlock_deferred muLib ⟨S, 0, none⟩ .returning _ h2.cs.1 (h2.fr 0)).mono ?_
 rintro e u' w'' ⟨rfl, rfl, rfl⟩
 refine ⟨.tuple #[v2, .int .i64 0], ?_, v2, rfl, ?_, h2.lock 0, (t1.trans (t2.wide (fun k e => e.elim))).trans (touch_cell _ _ _ _)⟩
 ·simp [results, Tryz.results16, go_sem]
 ·exact (touch_cell _ _ _ _).owns o2 (fun q hq e => by
   have := (o2.lt q hq).1
   omega)
theorem sto_files (w : World) (S : Nat) (G : Nat → Prop) (l : List Fold) (c : CutS) (np : Bool) (h : Sto w S G l c np) (folder : ByteArray) (hfs : folder.size ≤ 140737488355328) (hll : ∀ x ∈ l, x.2.length ≤ 1000000000000) :
  Calls Tryz.prog 16 #[.pointer (some ⟨S, 0, none⟩), .string folder] w fun r w' => (match atF l folder with
   | none => r = .returned (.tuple #[.slice none 0 0, .int .i64 16])
   | some o => ∃ v, r = .returned (.tuple #[v, .int .i64 0]) ∧ w'.ownsRow w.heap.size 41 2 v o.length (fileV o)) ∧ Sto w' S G l c np ∧ Touch G w w' := by
 obtain ⟨sh, be, hS, hG, hin⟩ := h.box
 have hfin : ∀ w', SB w' S 0 sh be c np → Touch (fun k => k = S) w w' → Sto w' S G l c np ∧ Touch G w w' := fun w' h3 t => ⟨⟨fun q hq => Nat.lt_of_lt_of_le (h.low q hq) t.size, h.srt, sh, be, h3, hG, hin.box hS t (fun e => e)⟩, t.wide (fun k e => by rw [e]; exact hG)⟩
 cases hat : atF l folder with
 | none =>
  have hni := atF_none hat
  refine (files_no w S sh be c np folder hS (fun W t => ?_)).mono ?_
  ·rcases hin.box hS t (np' := np) (fun e => e) with ⟨rfl, rfl, rfl⟩ | ⟨m, b, ns, fs, nb, fb, rfl, rfl, hne, gm, gb, hm, hns, hsh, hbb, h00⟩
   ·exact Maps.look_nil true strK Tryz.underlying84 (zeroShown _) (Go.WideMaps.keyOf_string_mk Tryz.underlying9 (show folder.size ≤ maxLen by unfold maxLen; omega))
   ·have hk := hm.look Tryz.underlying84 (zeroShown _) folder (by unfold maxLen; omega)
    have hf : fs folder.data.toList = none := by
     cases hx : fs folder.data.toList with
     | none => rfl
     | some v => exact absurd ((hsh.keys _).1 (by rw [hx]; rfl)) hni
    rw [hf] at hk
    exact hk
  ·rintro r w' ⟨rfl, h3, t⟩
   exact ⟨rfl, hfin w' h3 t⟩
 | some o =>
  obtain ⟨x, hx, hk, rfl⟩ := atF_some hat
  rcases id hin with ⟨rfl, rfl, rfl⟩ | ⟨m, b, ns, fs, nb, fb, rfl, rfl, hne, gm, gb, hm, hns, hsh, hbb, h00⟩
  ·cases hx
  ·obtain ⟨v, e1, e2, e3⟩ := hsh.rows x hx
   refine (files_yes w S (some m) (some b) c np folder v x.2 hS (hll x hx) (fun W t => ?_)).mono ?_
   ·have hkk := (hm.keep t (hm.ne_row hS.hp)).look Tryz.underlying84 (zeroShown _) folder (by unfold maxLen; omega)
    rw [← hk, e1] at hkk
    refine ⟨hkk, t.owns e2 (fun q hq e => ?_)⟩
    subst e
    exact absurd ((Typed.owned e2 hq).ne ⟨_, _, hS.hp⟩) (by decide)
   ·rintro r w' ⟨v', rfl, o', h3, t⟩
    exact ⟨⟨v', rfl, o'⟩, hfin w' h3 t⟩
def nameV (l : List Fold) : List Value := l.map fun x => .string x.1
theorem names_enc (l : List Fold) : (l.map keyF).map encStr = nameV l := by
 unfold nameV
 rw [List.map_map]
 refine List.map_congr_left fun x _ => ?_
 show encStr x.1.data.toList = .string x.1
 simp [encStr]
theorem folders_b (w : World) (S : Nat) (sh be : Option Nat) (c : CutS) (np : Bool) (n : Nat) (X : List Value) (h : SB w S 0 sh be c np)
  (HK : Hid (∀ W, Touch (fun k => k = S) w W → Calls Tryz.prog 38 #[.func (.func 80) #[] #[.pointer (some ⟨W.heap.size, 0, none⟩)]] (W.alloc (.cells #[.map sh] 84)) fun e w' => ∃ v, e = .returned v ∧ w'.ownsRow W.heap.size 9 1 v n X ∧ Touch (fun _ => False) W w')) :
  Calls Tryz.prog 15 #[.pointer (some ⟨S, 0, none⟩)] w fun r w' => ∃ v', r = .returned v' ∧ w'.ownsRow w.heap.size 9 1 v' n X ∧ SB w' S 0 sh be c np ∧ Touch (fun k => k = S) w w' := by
 have h1 := h.lock 1
 obtain ⟨c0, c2, c3, c4, c5, c6, c7⟩ := h.cs
 have f0 := h.fr 0
 have hlt := h.lt
 obtain ⟨d0, d2, d3, d4, d5, d6, d7⟩ := h1.cs
 have t1 := touch_cell w S 0 (.int .i32 1)
 have hs1 : (w.setCell ⟨S, 0, none⟩ (.int .i32 1)).heap.size = w.heap.size := by simp
 have HS := HK.out _ t1
 obtain ⟨W1, hW1⟩ : ∃ W1, W1 = w.setCell ⟨S, 0, none⟩ (.int .i32 1) := ⟨_, rfl⟩
 have HW1 : Hid (W1 = w.setCell ⟨S, 0, none⟩ (.int .i32 1)) := hW1
 rw [← hW1] at h1 HS t1 d0 d2 d3 d4 d5 d6 d7 hs1
 have HS1 : Hid (Calls Tryz.prog 38 #[.func (.func 80) #[] #[.pointer (some ⟨W1.heap.size, 0, none⟩)]] (W1.alloc (.cells #[.map sh] 84)) fun e w' => ∃ v, e = .returned v ∧ w'.ownsRow W1.heap.size 9 1 v n X ∧ Touch (fun _ => False) W1 w') := HS
 have HSZ : Hid (W1.heap.size = w.heap.size) := hs1
 clear hW1 hs1 HK HS
 go_enter_defers Tryz.func15, Tryz.ntmps15
 go_wp2_with fail
 refine (lock_free muLib ⟨S, 0, none⟩ _ c0 f0).mono ?_
 rintro e w' ⟨rfl, rfl⟩
 rw [← HW1.out]
 clear c0 c2 c3 c4 c5 c6 c7 f0
 go_wp2_with fail
 refine (keys_c sh W1).mono ?_
 rintro e w' ⟨rfl, rfl⟩
 go_wp2_with fail
 refine HS1.out.mono ?_
 rintro e w2 ⟨v2, rfl, o2, t2⟩
 go_wp2_with fail
 have h2 := h1.keep t2 (fun e => e)
 refine leaves_cons (f := 34) (args := #[.pointer (some ⟨S, 0, none⟩)]) (by simp) (by simp [go_sem]) ?_
 refine (unlock_deferred muLib ⟨S, 0, none⟩ .returning _ h2.cs.1 (h2.fr 0)).mono ?_
 rintro e u' w'' ⟨rfl, rfl, rfl⟩
 rw [HSZ.out] at o2
 refine ⟨_, results_tmp rfl _ _ _, v2, rfl, ?_, h2.lock 0, (t1.trans (t2.wide (fun k e => e.elim))).trans (touch_cell _ _ _ _)⟩
 exact (touch_cell _ _ _ _).owns o2 (fun q hq e => by
  have := (o2.lt q hq).1
  omega)
theorem sto_folders (w : World) (S : Nat) (G : Nat → Prop) (l : List Fold) (c : CutS) (np : Bool) (h : Sto w S G l c np) (hl : l.length ≤ 1000000000) :
  Calls Tryz.prog 15 #[.pointer (some ⟨S, 0, none⟩)] w fun r w' => ∃ v, r = .returned v ∧ w'.ownsRow w.heap.size 9 1 v l.length (nameV l) ∧ Sto w' S G l c np ∧ Touch G w w' := by
 obtain ⟨sh, be, hS, hG, hin⟩ := h.box
 refine (folders_b w S sh be c np l.length (nameV l) hS (fun W t => ?_)).mono ?_
 ·rcases hin.box hS t (np' := np) (fun e => e) with ⟨rfl, rfl, rfl⟩ | ⟨m, b, ns, fs, nb, fb, rfl, rfl, hne, gm, gb, hm, hns, hsh, hbb, h00⟩
  ·refine (sorted_nil_c W).mono ?_
   rintro e w' ⟨rfl, t'⟩
   exact ⟨_, rfl, World.ownsRow_nil _ _ _ _, t'⟩
  ·obtain ⟨D, ho, hh, hv⟩ := hm
   have hsz := ho.size_le
   have hnd : (l.map keyF).Nodup := h.srt.imp fun {a b} hab e => by rw [e] at hab; exact List.lt_irrefl _ hab
   have hC : Collected D (fun _ => false) (l.map keyF) := ⟨hnd, fun x => by rw [hh x, hsh.keys x]; simp⟩
   have hpk := hC.perm ho strK Tryz.underlying9 (fun _ => rfl)
   refine (sorted_c m ns D rawM W ho (by unfold maxLen; omega) (by omega)).mono ?_
   rintro e w' ⟨v, ss, rfl, hp, hrow, t'⟩
   have hps := hp.trans hpk.symm
   have e1 : ss.mergeSort leB = l.map keyF := by
    rw [mergeSort_of_perm hps]
    refine List.mergeSort_of_pairwise (h.srt.imp fun {a b} hab => ?_)
    exact decide_eq_true (List.le_of_lt hab)
   have e2 : ss.length = l.length := by rw [hps.length_eq, List.length_map]
   rw [e1, names_enc, e2] at hrow
   exact ⟨v, rfl, owns_low hrow (by simp), t'⟩
 ·rintro r w' ⟨v, rfl, ho, h3, t⟩
  exact ⟨v, rfl, ho, ⟨fun q hq => Nat.lt_of_lt_of_le (h.low q hq) t.size, h.srt, sh, be, h3, hG, hin.box hS t (fun e => e)⟩, t.wide (fun k e => by rw [e]; exact hG)⟩
end Go.Proofs.YtmhlkdlcpicekaaGreatDoor
namespace Go.Proofs.YtmhlkdlcpicekaaGreatDoor
open Go.RowKit Go.Maps
theorem build_any (w W : World) (S g cap : Nat) (a : Option Addr) (G : Nat → Prop) (l : List Fold) (c : CutS) (sh be : Option Nat) (folder : ByteArray) (o : List Fil) (h : SB w S 0 sh be c false) (hin : Inner w G l false sh be) (t : Touch (fun k => k = S) w W) (hW : SB W S 1 sh be c false) (hok : FilesOk o) (hl : l.length ≤ 1000000000) (hfo : folder.size ≤ maxLen) (hF : 0 < o.length → a = some ⟨g, 0, none⟩ ∧ FilesAt W g o) :
  Calls Tryz.prog 36 #[.pointer (some ⟨S, 0, none⟩), .string folder, .slice a o.length cap] W fun r w' => ∃ m b ns fs, m ≠ b ∧ m ≠ S ∧ b ≠ S ∧ ns ≤ l.length ∧ (G m ∨ W.heap.size ≤ m) ∧ (G b ∨ W.heap.size ≤ b) ∧ Shows w' G fs l ∧ BuildPost S m b ns fs c false folder o W.heap.size r w' ∧ Touch (fun k => k = S ∨ k = m ∨ k = b) W w' := by
 have hi := hin.box h t (np' := false) (fun e => e)
 rcases hi with ⟨rfl, rfl, rfl⟩ | ⟨m, b, ns, fs, nb, fb, rfl, rfl, hne, gm, gb, hm, hns, hsh, hb, h0⟩
 ·refine (build_new W S g cap a c false folder o hok hW hfo hF).mono ?_
  rintro r w' ⟨hp, t6⟩
  have hlt := hW.lt
  exact ⟨W.heap.size, W.heap.size + 1, 0, fun _ => none, by omega, by omega, by omega, Nat.zero_le _, .inr (Nat.le_refl _), .inr (by omega), ⟨fun key => (by simp), fun x hx => (by cases hx)⟩, hp, t6⟩
 ·refine (build_old W S m b ns nb g cap a fs fb c false folder o hok hW hm hb (h0 rfl) hne (by unfold maxLen; omega) hfo hF).mono ?_
  rintro r w' ⟨hp, t6⟩
  refine ⟨m, b, ns, fs, hne, hm.ne_row hW.hp, hb.ne_row hW.hp, hns, .inl gm, .inl gb, hsh.keepG t6 (fun q _ e cs z hc => ?_), hp, t6⟩
  rcases e with rfl | rfl | rfl
  ·rw [hW.hp] at hc; cases hc
  ·exact hm.ne_row hc rfl
  ·exact hb.ne_row hc rfl
def extOf (l : List Fold) (c : CutS) (np : Bool) (folder : ByteArray) (U : Sum Nat (List Fil)) : Nat × List Fold × CutS × Bool :=
 if np then (14, l, c, true) else if folderNameB folder = false then (15, l, c, false) else if isIn l folder then (8, l, c, false) else match U with
  | .inl k => (k, l, c, false)
  | .inr o => match takeC c (stepsTo o + 1) with
   | some d => (0, insF l (folder, o), d, false)
   | none => (14, l, if cutF c then none else some (0, false), !cutF c)
def ExtP (S : Nat) (G : Nat → Prop) (l : List Fold) (c : CutS) (folder : ByteArray) (o : List Fil) (W : World) (k : Int) (sh' be' : Option Nat) (c' : CutS) (np' : Bool) (w6 : World) : Prop :=
 ∃ m b ns fs, sh' = some m ∧ be' = some b ∧ m ≠ b ∧ m ≠ S ∧ b ≠ S ∧ ns ≤ l.length ∧ (G m ∨ W.heap.size ≤ m) ∧ (G b ∨ W.heap.size ≤ b) ∧ Shows w6 G fs l ∧ Touch (fun k => k = S ∨ k = m ∨ k = b) W w6 ∧
  match takeC c (stepsTo o + 1) with
  | some d => k = 0 ∧ c' = d ∧ np' = false ∧ (∃ v, RawMap w6 m (ns + 1) (updM fs folder.data.toList (some v)) ∧ w6.ownsRow W.heap.size 41 2 v o.length (fileV o)) ∧ RawMap w6 b 0 (fun _ => none)
  | none => k = 14 ∧ c' = (if cutF c then none else some (0, false)) ∧ np' = (!cutF c) ∧ RawMap w6 m ns fs ∧ ∃ n' f', RawMap w6 b n' f' ∧ (cutF c = true → ∀ key, f' key = none)
theorem sto_extract (w : World) (S : Nat) (G : Nat → Prop) (l : List Fold) (c : CutS) (np : Bool) (h : Sto w S G l c np) (folder A : ByteArray) (qe qn qb : Int) (hn : -9223372036854775808 ≤ qn ∧ qn ≤ 9223372036854775807) (hb : -9223372036854775808 ≤ qb ∧ qb ≤ 9223372036854775807) (hA : A.size ≤ 2147483648) (hfs : folder.size ≤ 140737488355328) (hl : l.length ≤ 1000000000) (ho : Ord w) (h0 : 1 < w.heap.size) :
  Calls Tryz.prog 14 #[.pointer (some ⟨S, 0, none⟩), .string folder, .string A, .agg #[.int .i64 qe, .int .i64 qn, .int .i64 qb]] w fun r w' => ∃ G', r = .returned (.int .i64 ((extOf l c np folder (unpOf A qe qn qb)).1 : Int)) ∧ Sto w' S G' (extOf l c np folder (unpOf A qe qn qb)).2.1 (extOf l c np folder (unpOf A qe qn qb)).2.2.1 (extOf l c np folder (unpOf A qe qn qb)).2.2.2 ∧ Touch G w w' ∧ (∀ q, G q → G' q) ∧ ∀ q, G' q → G q ∨ w.heap.size ≤ q := by
 obtain ⟨sh, be, hS, hG, hin⟩ := h.box
 have hOS : 1 ≠ S := fun e => by
  have h1 := ho 2 (by omega)
  rw [e, hS.cs.2.1] at h1
  cases h1
 have hlow : ∀ w', Touch (fun k => k = S) w w' → ∀ q, G q → q < w'.heap.size := fun w' t q hq => Nat.lt_of_lt_of_le (h.low q hq) t.size
 cases np with
 | true =>
  refine (extract_off w S sh be c folder A _ _ _ hS).mono ?_
  rintro r w' ⟨rfl, h3, t⟩
  exact ⟨G, rfl, ⟨hlow w' t, h.srt, sh, be, h3, hG, hin.box hS t (fun e => e)⟩, t.wide (fun k e => by rw [e]; exact hG), fun q e => e, fun q e => .inl e⟩
 | false =>
  cases hfn : folderNameB folder with
  | false =>
   have e : extOf l c false folder (unpOf A qe qn qb) = (15, l, c, false) := by unfold extOf; rw [if_neg (by simp), if_pos hfn]
   rw [e]
   refine (extract_arg w S sh be c folder A _ _ _ hS hfs hfn).mono ?_
   rintro r w' ⟨rfl, h3, t⟩
   exact ⟨G, rfl, ⟨hlow w' t, h.srt, sh, be, h3, hG, hin.box hS t (fun e => e)⟩, t.wide (fun k e => by rw [e]; exact hG), fun q e => e, fun q e => .inl e⟩
  | true =>
   cases hii : isIn l folder with
   | true =>
    have e : extOf l c false folder (unpOf A qe qn qb) = (8, l, c, false) := by unfold extOf; rw [if_neg (by simp), if_neg (by simp [hfn]), if_pos hii]
    rw [e]
    rcases id hin with ⟨rfl, rfl, rfl⟩ | ⟨m, b, ns, fs, nb, fb, rfl, rfl, hne, gm, gb, hm, hns, hsh, hbb, h00⟩
    ·cases hii
    ·refine (extract_twice w S m ns fs (some b) c folder A _ _ _ hS hm hfs hfn ((hsh.keys _).2 ((isIn_iff l folder).1 hii))).mono ?_
     rintro r w' ⟨rfl, h3, t⟩
     exact ⟨G, rfl, ⟨hlow w' t, h.srt, _, _, h3, hG, hin.box hS t (fun e => e)⟩, t.wide (fun k e => by rw [e]; exact hG), fun q e => e, fun q e => .inl e⟩
   | false =>
    have hni : folder.data.toList ∉ l.map keyF := fun e => by rw [(isIn_iff l folder).2 e] at hii; cases hii
    have HLK : ∀ W, Touch (fun k => k = S) w W → (Instr.lookup 84 (.map sh) (.string folder) true).run Tryz.prog W = .ok (.tuple #[nilS, .bool false]) W := fun W t => by
     rcases hin.box hS t (np' := false) (fun e => e) with ⟨rfl, rfl, rfl⟩ | ⟨m, b, ns, fs, nb, fb, rfl, rfl, hne, gm, gb, hm, hns, hsh, hbb, h00⟩
     ·exact Maps.look_nil true strK Tryz.underlying84 (zeroShown _) (Go.WideMaps.keyOf_string_mk Tryz.underlying9 (show folder.size ≤ maxLen by unfold maxLen; omega))
     ·have hk := hm.look Tryz.underlying84 (zeroShown _) folder (by unfold maxLen; omega)
      have hf : fs folder.data.toList = none := by
       cases hx : fs folder.data.toList with
       | none => rfl
       | some v => exact absurd ((hsh.keys _).1 (by rw [hx]; rfl)) hni
      rw [hf] at hk
      exact hk
    have HUU : ∀ W, Touch (fun k => k = S) w W → Calls Tryz.prog 11 #[.string A, .agg #[.int .i64 qe, .int .i64 qn, .int .i64 qb]] W fun r w' => Touch (fun _ => False) W w' ∧ unpPost W.heap.size (unpOf A qe qn qb) r w' := fun W t => unpack_t W A qe qn qb hn hb hA (ho.keep t hOS) (Nat.lt_of_lt_of_le h0 t.size)
    cases hU : unpOf A qe qn qb with
    | inl k =>
     have hkp := unpOf_err hA hU
     have e : extOf l c false folder (.inl k) = (k, l, c, false) := by unfold extOf; rw [if_neg (by simp), if_neg (by simp [hfn]), if_neg (by simp [hii])]
     rw [e]
     refine (extract_err w S sh be c folder A _ _ _ (k : Int) hS hfs hfn (by omega) HLK (fun W t => (HUU W t).mono ?_)).mono ?_
     ·rintro r w' ⟨t', hp⟩
      rw [hU] at hp
      exact ⟨t', hp⟩
     ·rintro r w' ⟨rfl, h3, t⟩
      exact ⟨G, rfl, ⟨hlow w' t, h.srt, sh, be, h3, hG, hin.box hS t (fun e => e)⟩, t.wide (fun k e => by rw [e]; exact hG), fun q e => e, fun q e => .inl e⟩
    | inr o =>
     have hok := (unpOf_ok hA hU).1
     refine (extract_ok w S sh be c folder A _ _ _ o (ExtP S G l c folder o) hS hfs hfn HLK (fun W t => (HUU W t).mono ?_) (fun W a g cap t hW hF => (build_any w W S g cap a G l c sh be folder o hS hin t hW hok hl (by unfold maxLen; omega) hF).mono ?_)).mono ?_
     ·rintro r w' ⟨t', hp⟩
      rw [hU] at hp
      obtain ⟨v, hr, a, cap, hv, hown, hat⟩ := hp
      rw [hv] at hr
      refine ⟨t', a, cap, ?_⟩
      by_cases hd : 0 < o.length
      ·obtain ⟨g, _, q2, q3, q4⟩ := hat hd
       exact ⟨g, hr, fun _ => ⟨q3, q4⟩⟩
      ·exact ⟨0, hr, fun e => absurd e hd⟩
     ·rintro r w' ⟨m, b, ns, fs, h1, h2, h3, h4, h5, h6, h7, hp, t6⟩
      unfold BuildPost at hp
      cases htk : takeC c (stepsTo o + 1) with
      | some d =>
       rw [htk] at hp
       obtain ⟨rfl, p1, p2, p3⟩ := hp
       refine ⟨0, some m, some b, d, false, rfl, p1, m, b, ns, fs, rfl, rfl, h1, h2, h3, h4, h5, h6, h7, t6, ?_⟩
       rw [htk]
       exact ⟨rfl, rfl, rfl, p2, p3⟩
      | none =>
       rw [htk] at hp
       obtain ⟨rfl, p1, p2, p3⟩ := hp
       refine ⟨14, some m, some b, _, _, rfl, p1, m, b, ns, fs, rfl, rfl, h1, h2, h3, h4, h5, h6, h7, t6, ?_⟩
       rw [htk]
       exact ⟨rfl, rfl, (by cases cutF c <;> rfl), p2, p3⟩
     ·rintro r w' ⟨W, k, sh', be', c', np', w6, tW, rfl, ⟨m, b, ns, fs, rfl, rfl, h1, h2, h3, h4, h5, h6, h7, t6, hp⟩, hw', hS'⟩
      have t7 : Touch (fun k => k = S) w6 w' := by rw [hw']; exact touch_cell _ _ _ _
      have hTG : Touch G w w' := by
       have q1 : Touch (fun k => G k ∨ w.heap.size ≤ k) w W := tW.wide (fun k e => by rw [e]; exact .inl hG)
       have q2 : Touch (fun k => G k ∨ w.heap.size ≤ k) W w6 := t6.wide (fun k e => by
        have := tW.size
        rcases e with rfl | rfl | rfl
        ·exact .inl hG
        ·rcases h5 with h5 | h5
         ·exact .inl h5
         ·exact .inr (by omega)
        ·rcases h6 with h6 | h6
         ·exact .inl h6
         ·exact .inr (by omega))
       have q3 : Touch (fun k => G k ∨ w.heap.size ≤ k) w6 w' := t7.wide (fun k e => by rw [e]; exact .inl hG)
       exact ((q1.trans q2).trans q3).mono (fun k hk e => e.elim (fun e => e) (fun e => by omega))
      have hWs := tW.size
      have h6s := t6.size
      have h7s := t7.size
      have hsz := hTG.size
      have hgl : ∀ q, G q → q < w'.heap.size := fun q hq => Nat.lt_of_lt_of_le (h.low q hq) hsz
      have hsh' := h7.keepG t7 (fun q _ e cs z hc => by
       subst e
       have ty2 := (show Typed w6 q 41 from ⟨cs, z, hc⟩).set ⟨q, 0, none⟩ (.int .i32 0)
       rw [← hw'] at ty2
       exact absurd (ty2.ne ⟨_, _, hS'.hp⟩) (by decide))
      have hmG : G m ∨ (w.heap.size ≤ m) := h5.imp (fun e => e) (fun e => by omega)
      have hbG : G b ∨ (w.heap.size ≤ b) := h6.imp (fun e => e) (fun e => by omega)
      cases htk : takeC c (stepsTo o + 1) with
      | some d =>
       rw [htk] at hp
       obtain ⟨rfl, rfl, rfl, ⟨v, p1, p2⟩, p3⟩ := hp
       have e : extOf l c false folder (.inr o) = (0, insF l (folder, o), c', false) := by unfold extOf; rw [if_neg (by simp), if_neg (by simp [hfn]), if_neg (by simp [hii])]; simp only [htk]
       rw [e]
       have p1' := p1.keep t7 h2
       have p3' := p3.keep t7 h3
       have p2' := t7.owns p2 (fun q hq e => by
        have b1 := (p2.lt q hq).1
        have b2 := hS.lt
        omega)
       refine ⟨fun q => G q ∨ (w.heap.size ≤ q ∧ q < w'.heap.size), rfl, ⟨fun q hq => hq.elim (hgl q) (fun e => e.2), insF_srt l _ h.srt hni, some m, some b, hS', .inl hG, .inr ⟨m, b, ns + 1, _, 0, fun _ => none, rfl, rfl, h1, hmG.imp (fun e => e) (fun e => ⟨e, p1'.lt⟩), hbG.imp (fun e => e) (fun e => ⟨e, p3'.lt⟩), p1', by rw [insF_len]; omega, ⟨fun key => ?_, fun x hx => ?_⟩, p3', fun _ _ => rfl⟩⟩, hTG, fun q e => .inl e, fun q e => e.imp (fun e => e) (fun e => e.1)⟩
       ·rw [insF_keys]
        unfold updM
        by_cases ek : key = folder.data.toList
        ·rw [if_pos ek]; exact ⟨fun _ => .inl ek, fun _ => rfl⟩
        ·rw [if_neg ek, hsh'.keys key]
         exact ⟨fun e => .inr e, fun e => e.elim (fun e => absurd e ek) (fun e => e)⟩
       ·rcases (insF_mem l (folder, o) x).1 hx with rfl | hx
        ·refine ⟨v, by unfold updM; rw [if_pos (show keyF (folder, o) = folder.data.toList from rfl)], owns_low p2' (Nat.zero_le _), fun q hq => .inr ⟨?_, (p2'.lt q hq).2⟩⟩
         have b1 := (p2'.lt q hq).1
         omega
        ·obtain ⟨u, a1, a2, a3⟩ := hsh'.rows x hx
         refine ⟨u, ?_, a2, fun q hq => .inl (a3 q hq)⟩
         unfold updM
         rw [if_neg (fun e => hni (by rw [← e]; exact List.mem_map.2 ⟨x, hx, rfl⟩))]
         exact a1
      | none =>
       rw [htk] at hp
       obtain ⟨rfl, rfl, rfl, p1, n', f', p2, p3⟩ := hp
       have e : extOf l c false folder (.inr o) = (14, l, if cutF c then none else some (0, false), !cutF c) := by unfold extOf; rw [if_neg (by simp), if_neg (by simp [hfn]), if_neg (by simp [hii])]; simp only [htk]
       rw [e]
       have p1' := p1.keep t7 h2
       have p2' := p2.keep t7 h3
       refine ⟨fun q => G q ∨ (w.heap.size ≤ q ∧ q < w'.heap.size), rfl, ⟨fun q hq => hq.elim (hgl q) (fun e => e.2), h.srt, some m, some b, hS', .inl hG, .inr ⟨m, b, ns, fs, n', f', rfl, rfl, h1, hmG.imp (fun e => e) (fun e => ⟨e, p1'.lt⟩), hbG.imp (fun e => e) (fun e => ⟨e, p2'.lt⟩), p1', h4, ⟨hsh'.keys, fun x hx => by obtain ⟨u, a1, a2, a3⟩ := hsh'.rows x hx; exact ⟨u, a1, a2, fun q hq => .inl (a3 q hq)⟩⟩, p2', fun e => p3 (by simpa using e)⟩⟩, hTG, fun q e => .inl e, fun q e => e.imp (fun e => e) (fun e => e.1)⟩
end Go.Proofs.YtmhlkdlcpicekaaGreatDoor
namespace Go.Proofs.YtmhlkdlcpicekaaGreatDoor
open Go.RowKit Go.Maps
structure SX (w7 : World) (S : Nat) (G : Nat → Prop) (W : World) (l : List Fold) (c : CutS) (np : Bool) : Prop where
 sto : Sto W S G l c np
 own : ∀ q, G q → q = S ∨ w7.heap.size ≤ q
 tch : Touch (fun q => q = S) w7 W
theorem SX.step {w7 W W' : World} {S : Nat} {G G' : Nat → Prop} {l l' : List Fold} {c c' : CutS} {np np' : Bool} (h : SX w7 S G W l c np) (h' : Sto W' S G' l' c' np') (t : Touch G W W') (hg : ∀ q, G' q → G q ∨ W.heap.size ≤ q) : SX w7 S G' W' l' c' np' :=
 ⟨h', fun q hq => (hg q hq).elim (h.own q) (fun e => .inr (Nat.le_trans h.tch.size e)), ((h.tch.wide (G := fun q => q = S ∨ w7.heap.size ≤ q) (fun k e => .inl e)).trans (t.wide (fun k e => h.own k e))).mono (fun k hk e => e.elim (fun e => e) (fun e => by omega))⟩
theorem SX.same {w7 W W' : World} {S : Nat} {G : Nat → Prop} {l : List Fold} {c : CutS} {np : Bool} (h : SX w7 S G W l c np) (t : Touch (fun _ => False) W W') : SX w7 S G W' l c np := ⟨h.sto.same t, h.own, h.tch.trans (t.wide (fun k e => e.elim))⟩
theorem SX.drewN {w7 W : World} {S : Nat} {G : Nat → Prop} {l : List Fold} {c : CutS} {np : Bool} (h : SX w7 S G W l c np) (k : Nat) : SX w7 S G (W.drewN k) l c np := ⟨h.sto.same ((Touch.refl _ W).drewN k), h.own, h.tch.drewN k⟩
theorem SX.drew {w7 W : World} {S : Nat} {G : Nat → Prop} {l : List Fold} {c : CutS} {np : Bool} (h : SX w7 S G W l c np) : SX w7 S G W.drew l c np := ⟨h.sto.same ((Touch.refl _ W).drew), h.own, h.tch.drew⟩
theorem sx_cut (w7 W : World) (S : Nat) (G : Nat → Prop) (l : List Fold) (c : CutS) (np : Bool) (h : SX w7 S G W l c np) (n : Nat) (f : Bool) (hn : n ≤ 1099511627776) :
  Calls Tryz.prog 13 #[.pointer (some ⟨S, 0, none⟩), .int .i64 (n : Int), .bool f] W fun r w' => r = .returned (.int .i64 0) ∧ SX w7 S G w' l (some (n, f)) np := by
 refine (sto_cut W S G l c np h.sto (n : Int) f (by omega)).mono ?_
 rintro r w' ⟨rfl, h', t⟩
 rw [if_neg (by omega)] at h' ⊢
 exact ⟨rfl, h.step h' t (fun q e => .inl e)⟩
theorem sx_boot (w7 W : World) (S : Nat) (G : Nat → Prop) (l : List Fold) (c : CutS) (np : Bool) (h : SX w7 S G W l c np) :
  Calls Tryz.prog 18 #[.pointer (some ⟨S, 0, none⟩)] W fun r w' => r = .returned (.tuple #[]) ∧ SX w7 S G w' l none false := by
 refine (sto_boot W S G l c np h.sto).mono ?_
 rintro r w' ⟨rfl, h', t⟩
 exact ⟨rfl, h.step h' t (fun q e => .inl e)⟩
theorem sx_files (w7 W : World) (S : Nat) (G : Nat → Prop) (l : List Fold) (c : CutS) (np : Bool) (h : SX w7 S G W l c np) (folder : ByteArray) (hfs : folder.size ≤ 140737488355328) (hll : ∀ x ∈ l, x.2.length ≤ 1000000000000) :
  Calls Tryz.prog 16 #[.pointer (some ⟨S, 0, none⟩), .string folder] W fun r w' => (match atF l folder with
   | none => r = .returned (.tuple #[.slice none 0 0, .int .i64 16])
   | some o => ∃ v, r = .returned (.tuple #[v, .int .i64 0]) ∧ w'.ownsRow W.heap.size 41 2 v o.length (fileV o)) ∧ SX w7 S G w' l c np ∧ Touch G W w' := by
 refine (sto_files W S G l c np h.sto folder hfs hll).mono ?_
 rintro r w' ⟨hr, h', t⟩
 exact ⟨hr, h.step h' t (fun q e => .inl e), t⟩
theorem sx_folders (w7 W : World) (S : Nat) (G : Nat → Prop) (l : List Fold) (c : CutS) (np : Bool) (h : SX w7 S G W l c np) (hl : l.length ≤ 1000000000) :
  Calls Tryz.prog 15 #[.pointer (some ⟨S, 0, none⟩)] W fun r w' => ∃ v, r = .returned v ∧ w'.ownsRow W.heap.size 9 1 v l.length (nameV l) ∧ SX w7 S G w' l c np := by
 refine (sto_folders W S G l c np h.sto hl).mono ?_
 rintro r w' ⟨v, rfl, ho, h', t⟩
 exact ⟨v, rfl, ho, h.step h' t (fun q e => .inl e)⟩
theorem sx_extract (w7 W : World) (S : Nat) (G : Nat → Prop) (l : List Fold) (c : CutS) (np : Bool) (h : SX w7 S G W l c np) (folder A : ByteArray) (qe qn qb : Int) (hn : -9223372036854775808 ≤ qn ∧ qn ≤ 9223372036854775807) (hb : -9223372036854775808 ≤ qb ∧ qb ≤ 9223372036854775807) (hA : A.size ≤ 2147483648) (hfs : folder.size ≤ 140737488355328) (hl : l.length ≤ 1000000000) (ho : Ord w7) (h0 : 1 < w7.heap.size) (hOS : 1 ≠ S) (o : List Fil) (hU : unpOf A qe qn qb = .inr o) (k : Nat) (l' : List Fold) (c' : CutS) (np' : Bool) (he : extOf l c np folder (.inr o) = (k, l', c', np')) :
  Calls Tryz.prog 14 #[.pointer (some ⟨S, 0, none⟩), .string folder, .string A, .agg #[.int .i64 qe, .int .i64 qn, .int .i64 qb]] W fun r w' => ∃ G', r = .returned (.int .i64 (k : Int)) ∧ SX w7 S G' w' l' c' np' := by
 refine (sto_extract W S G l c np h.sto folder A qe qn qb hn hb hA hfs hl (ho.keep h.tch hOS) (Nat.lt_of_lt_of_le h0 h.tch.size)).mono ?_
 rintro r w' ⟨G', rfl, h', t, _, hg⟩
 rw [hU, he] at h' ⊢
 exact ⟨G', rfl, h.step h' t hg⟩
def letB (i : Nat) : ByteArray := (⟨#[97, 98, 99, 100, 101, 102, 103, 104, 105]⟩ : ByteArray).extract i (i + 1)
theorem letB_all {P : Nat → Prop} (h0 : P 0) (h1 : P 1) (h2 : P 2) (h3 : P 3) (h4 : P 4) (h5 : P 5) (h6 : P 6) (h7 : P 7) (h8 : P 8) : ∀ i, i < 9 → P i := fun i hi => by
 rcases (by omega : i = 0 ∨ i = 1 ∨ i = 2 ∨ i = 3 ∨ i = 4 ∨ i = 5 ∨ i = 6 ∨ i = 7 ∨ i = 8) with rfl | rfl | rfl | rfl | rfl | rfl | rfl | rfl | rfl <;> assumption
theorem letB_list : ∀ i, i < 9 → (letB i).data.toList = [UInt8.ofNat (97 + i)] := letB_all (by decide +kernel) (by decide +kernel) (by decide +kernel) (by decide +kernel) (by decide +kernel) (by decide +kernel) (by decide +kernel) (by decide +kernel) (by decide +kernel)
theorem letB_name : ∀ i, i < 9 → folderNameB (letB i) = true := letB_all (by decide +kernel) (by decide +kernel) (by decide +kernel) (by decide +kernel) (by decide +kernel) (by decide +kernel) (by decide +kernel) (by decide +kernel) (by decide +kernel)
theorem letB_size (i : Nat) (h : i < 9) : (letB i).size = 1 := by
 have h1 := congrArg List.length (letB_list i h)
 have h2 : (letB i).data.toList.length = (letB i).size := Array.length_toList
 rw [h2] at h1
 exact h1
theorem z_name : folderNameB ⟨#[122]⟩ = true := by decide +kernel
theorem letB_inj {i j : Nat} (hi : i < 9) (hj : j < 9) (h : (letB i).data.toList = (letB j).data.toList) : i = j := by
 rw [letB_list i hi, letB_list j hj] at h
 simp only [List.cons.injEq, and_true] at h
 have := congrArg UInt8.toNat h
 simp only [UInt8.toNat_ofNat'] at this
 omega
theorem letB_z {i : Nat} (hi : i < 9) : (letB i).data.toList ≠ [122] := by
 rw [letB_list i hi]
 intro h
 simp only [List.cons.injEq, and_true] at h
 have := congrArg UInt8.toNat h
 simp only [UInt8.toNat_ofNat', UInt8.reduceToNat] at this
 omega
def ShI (o : List Fil) (k : Nat) (l : List Fold) : Prop := ∀ x ∈ l, x.2 = o ∧ ∃ j, j < k ∧ j < 9 ∧ x.1 = letB j
theorem ShI.notin {o : List Fil} {k : Nat} {l : List Fold} (h : ShI o k l) (hk : k < 9) : isIn l (letB k) = false := by
 cases hc : isIn l (letB k) with
 | false => rfl
 | true =>
  obtain ⟨x, hx, e⟩ := List.mem_map.1 ((isIn_iff _ _).1 hc)
  obtain ⟨_, j, h1, h2, h3⟩ := h x hx
  unfold keyF at e
  rw [h3] at e
  have := letB_inj h2 hk e
  omega
theorem ShI.notz {o : List Fil} {k : Nat} {l : List Fold} (h : ShI o k l) : isIn l ⟨#[122]⟩ = false := by
 cases hc : isIn l ⟨#[122]⟩ with
 | false => rfl
 | true =>
  obtain ⟨x, hx, e⟩ := List.mem_map.1 ((isIn_iff _ _).1 hc)
  obtain ⟨_, j, h1, h2, h3⟩ := h x hx
  unfold keyF at e
  rw [h3] at e
  exact absurd e (letB_z h2)
def dnB (off : Bool) (st n : Nat) : Bool := !off && decide (st ≤ n)
theorem ext_let {o : List Fil} {k : Nat} {l : List Fold} (h : ShI o k l) (hk : k < 9) (n : Nat) (fl off : Bool) (st : Nat) (hst : stepsTo o + 1 = st) :
  ∃ c', extOf l (some (n, fl)) off (letB k) (.inr o) = (if dnB off st n then 0 else 14, if dnB off st n then insF l (letB k, o) else l, c', off || (!dnB off st n && !fl)) := by
 subst hst
 unfold extOf dnB
 cases off with
 | true => exact ⟨_, rfl⟩
 | false =>
  rw [if_neg (by simp), if_neg (by rw [letB_name k hk]; simp), if_neg (by rw [h.notin hk]; simp)]
  simp only [takeC]
  by_cases hle : stepsTo o + 1 ≤ n
  ·rw [if_pos hle]
   exact ⟨some (n - (stepsTo o + 1), fl), by simp [hle]⟩
  ·rw [if_neg hle]
   exact ⟨if fl = true then none else some (0, false), by cases fl <;> simp [hle, cutF]⟩
theorem ShI.next {o : List Fil} {k : Nat} {l : List Fold} (h : ShI o k l) (hk : k < 9) (b : Bool) : ShI o (k + 1) (if b then insF l (letB k, o) else l) := by
 intro x hx
 have hold : x ∈ l → x.2 = o ∧ ∃ j, j < k + 1 ∧ j < 9 ∧ x.1 = letB j := fun hx => by
  obtain ⟨a, j, h1, h2, h3⟩ := h x hx
  exact ⟨a, j, by omega, h2, h3⟩
 cases b with
 | false => exact hold hx
 | true =>
  rcases (insF_mem l _ x).1 hx with rfl | hx
  ·exact ⟨rfl, k, by omega, hk, rfl⟩
  ·exact hold hx
theorem ShI.at {o : List Fil} {k : Nat} {l : List Fold} (h : ShI o k l) {x : Fold} (hx : x ∈ l) : atF l x.1 = some o := by
 cases ha : atF l x.1 with
 | none => exact absurd (List.mem_map.2 ⟨x, hx, rfl⟩) (atF_none ha)
 | some o' =>
  obtain ⟨y, hy, _, rfl⟩ := atF_some ha
  rw [(h y hy).1]
theorem ShI.atk {o : List Fil} {k : Nat} {l : List Fold} (h : ShI o k l) (hk : k < 9) (b : Bool) : atF (if b then insF l (letB k, o) else l) (letB k) = if b then some o else none := by
 cases b with
 | true => exact (h.next hk true).at (x := (letB k, o)) ((insF_mem l _ _).2 (.inl rfl))
 | false =>
  show atF l (letB k) = none
  cases ha : atF l (letB k) with
  | none => rfl
  | some o' =>
   obtain ⟨y, hy, e, _⟩ := atF_some ha
   have := h.notin hk
   rw [(isIn_iff _ _).2 (List.mem_map.2 ⟨y, hy, e⟩)] at this
   cases this
theorem ins_len (l : List Fold) (x : Fold) (b : Bool) : (if b then insF l x else l).length = l.length + (if b then 1 else 0) := by
 cases b
 ·rfl
 ·exact insF_len l x
def stp (o : List Fil) (k : Nat) : Nat := 1 + ((o.take k).map fun x => 1 + (x.2.length + 15) / 16).sum
theorem stp_succ (o : List Fil) (k : Nat) (h : k < o.length) : stp o (k + 1) = stp o k + 1 + (o[k].2.length + 15) / 16 := by
 unfold stp
 rw [List.take_succ_eq_append_getElem h, List.map_append, List.sum_append]
 simp
 omega
theorem stp_all (o : List Fil) (h : FilesOk o) : stepsTo o + 1 = stp o o.length := by
 unfold stp stepsTo
 rw [List.take_length, Nat.add_comm]
 congr 2
 refine List.map_congr_left fun x hx => ?_
 unfold stepsOf chunks
 rw [datOf_size]
 split
 ·rename_i hf
  rw [h.fol x hx hf]; rfl
 ·rfl
theorem stp_le (o : List Fil) (B : Nat) (hB : ∀ x ∈ o, x.2.length ≤ B) : ∀ k, stp o k ≤ 1 + k * (B + 2)
 | 0 => by simp [stp]
 | k + 1 => by
  have ih := stp_le o B hB k
  by_cases hk : k < o.length
  ·rw [stp_succ o k hk]
   have := hB _ (List.getElem_mem hk)
   have e : (k + 1) * (B + 2) = k * (B + 2) + (B + 2) := by rw [Nat.add_mul, Nat.one_mul]
   omega
  ·have e : stp o (k + 1) = stp o k := by unfold stp; rw [List.take_of_length_le (by omega), List.take_of_length_le (by omega)]
   have e2 : (k + 1) * (B + 2) = k * (B + 2) + (B + 2) := by rw [Nat.add_mul, Nat.one_mul]
   rw [e]
   omega
theorem tdiv3 (X : Int) (h : -9223372036854775808 ≤ X ∧ X ≤ 9223372036854775807) : -9223372036854775808 ≤ X.tdiv 3 ∧ X.tdiv 3 ≤ 9223372036854775807 := by
 by_cases h0 : 0 ≤ X
 ·rw [Int.tdiv_eq_ediv_of_nonneg h0]; omega
 ·have e : X = -(-X) := by omega
  rw [e, Int.neg_tdiv, Int.tdiv_eq_ediv_of_nonneg (by omega)]; omega
theorem ext_z1 {o : List Fil} {k : Nat} {l : List Fold} (h : ShI o k l) : extOf l none false ⟨#[122]⟩ (.inr o) = (0, insF l (⟨#[122]⟩, o), none, false) := by
 unfold extOf
 rw [if_neg (by simp), if_neg (by rw [z_name]; simp), if_neg (by rw [h.notz]; simp)]
 rfl
theorem ext_z2 {o : List Fil} {l : List Fold} : extOf (insF l (⟨#[122]⟩, o)) none false ⟨#[122]⟩ (.inr o) = (8, insF l (⟨#[122]⟩, o), none, false) := by
 unfold extOf
 rw [if_neg (by simp), if_neg (by rw [z_name]; simp), if_pos ((isIn_iff _ _).2 ((insF_keys l _ _).2 (.inl rfl)))]
theorem at_z {o : List Fil} {k : Nat} {l : List Fold} (h : ShI o k l) : atF (insF l (⟨#[122]⟩, o)) ⟨#[122]⟩ = some o := by
 cases ha : atF (insF l (⟨#[122]⟩, o)) ⟨#[122]⟩ with
 | none => exact absurd ((insF_keys l (⟨#[122]⟩, o) _).2 (.inl rfl)) (atF_none ha)
 | some o' =>
  obtain ⟨y, hy, e, rfl⟩ := atF_some ha
  rcases (insF_mem l _ y).1 hy with rfl | hy
  ·rfl
  ·rw [(h y hy).1]
end Go.Proofs.YtmhlkdlcpicekaaGreatDoor
namespace Go.Proofs.YtmhlkdlcpicekaaGreatDoor
open Go.RowKit Go.Shelf Go.Lib
theorem same_c (w : World) (a : Option Addr) (g cap : Nat) (a' : Option Addr) (g' cap' : Nat) (L : List Fil) (h1 : 0 < L.length → a = some ⟨g, 0, none⟩ ∧ FilesAt w g L ∧ g < w.heap.size) (h2 : 0 < L.length → a' = some ⟨g', 0, none⟩ ∧ FilesAt w g' L ∧ g' < w.heap.size) (hn : L.length ≤ 100000000) :
  Calls Tryz.prog 17 #[.slice a L.length cap, .slice a' L.length cap'] w fun r w' => r = .returned (.bool true) ∧ Touch (fun _ => False) w w' := by
 obtain ⟨n, hN⟩ : ∃ n, n = L.length := ⟨_, rfl⟩
 rw [← hN]
 have HN : Hid (n = L.length) := hN
 have H1 : Hid (0 < L.length → a = some ⟨g, 0, none⟩ ∧ FilesAt w g L ∧ g < w.heap.size) := h1
 have H2 : Hid (0 < L.length → a' = some ⟨g', 0, none⟩ ∧ FilesAt w g' L ∧ g' < w.heap.size) := h2
 have hn' : n ≤ 100000000 := by omega
 clear h1 h2 hn hN
 go_enter Tryz.func17, Tryz.ntmps17
 go_wp2
 go_loopw [5] (fun i wr => ∃ k : Nat, k ≤ n ∧ i = .int .i64 (k : Int) ∧ Touch (fun _ => False) w wr) (fun i wr => n - (intOf i).toNat)
 case atStart => exact ⟨0, Nat.zero_le _, rfl, Touch.refl _ _⟩
 case round =>
  obtain ⟨k, hk, rfl, T⟩ := hrel
  by_cases hlt : k < n
  ·have hlt' : k < L.length := by have := HN.out; omega
   obtain ⟨rfl, q1, q2⟩ := H1.out (by omega)
   obtain ⟨rfl, q3, q4⟩ := H2.out (by omega)
   obtain ⟨x1, x2⟩ := q1 k hlt'
   obtain ⟨y1, y2⟩ := q3 k hlt'
   have c0 := T.at x1 (fun e => e)
   have c1 := T.at x2 (fun e => e)
   have d0 := T.at y1 (fun e => e)
   have d1 := T.at y2 (fun e => e)
   clear x1 x2 y1 y2 q1 q3
   revert c0 c1 d0 d1
   generalize L[k] = x
   obtain ⟨xn, xd⟩ := x
   simp only
   obtain ⟨D, hD⟩ : ∃ D : ByteArray, D = ⟨xd.toArray⟩ := ⟨_, rfl⟩
   rw [← hD]
   clear hD
   intro c0 c1 d0 d1
   have i1 : (k : Int) < (n : Int) := by omega
   have b1 : (xn.toList == xn.toList) = true := by simp
   have b2 : (D.toList == D.toList) = true := by simp
   go_wp2
   go_quiet (fail)
   go_wp2
   exact ⟨⟨k + 1, by omega, by go_num, T.drewN _⟩, by simp [intOf]; omega⟩
  ·obtain rfl : k = n := by omega
   go_wp2
   go_ret
   exact ⟨rfl, T⟩
end Go.Proofs.YtmhlkdlcpicekaaGreatDoor
