/- Texts of this seat, joined. -/
import Derived.Test.YtmhlkdlcpicekaaGreatDoorJ18
import Derived.Test.YtmhlkdlcpicekaaGreatDoorJ11
import Derived.Shelf.SlSortCmp.NoneTotal
set_option linter.unusedSimpArgs false
set_option linter.unusedVariables false
set_option maxRecDepth 100000
set_option maxHeartbeats 20000000
namespace Go.Proofs.YtmhlkdlcpicekaaGreatDoor
open Go.RowKit Go.Shelf Go.Lib Go.Sort
theorem fileV_get (l : List (ByteArray × List UInt8)) : ∀ i (h : i < l.length), (fileV l)[i * 2]? = some (.string l[i].1) ∧ (fileV l)[i * 2 + 1]? = some (.string ⟨l[i].2.toArray⟩) := by
 induction l with
 | nil => intro i h; simp at h
 | cons a l ih =>
  intro i h
  have e : fileV (a :: l) = .string a.1 :: .string ⟨a.2.toArray⟩ :: fileV l := rfl
  cases i with
  | zero => rw [e]; exact ⟨rfl, rfl⟩
  | succ i =>
   have := ih i (by simpa using h)
   rw [e, show (i + 1) * 2 = i * 2 + 1 + 1 by omega]
   simpa using this
theorem fileV_app (l m : List (ByteArray × List UInt8)) : fileV (l ++ m) = fileV l ++ fileV m := by simp [fileV]
theorem fileV_one (l : List (ByteArray × List UInt8)) : ∀ u ∈ fileV l, u.oneCell' = true := by
 intro u hu
 simp only [fileV, List.mem_flatMap, fileL] at hu
 obtain ⟨f, _, h⟩ := hu
 simp at h
 rcases h with rfl | rfl <;> rfl
def FilesAt (w : World) (g : Nat) (l : List (ByteArray × List UInt8)) : Prop := ∀ i (h : i < l.length), w.cell? ⟨g, i * 2, none⟩ = some (.string l[i].1) ∧ w.cell? ⟨g, i * 2 + 1, none⟩ = some (.string ⟨l[i].2.toArray⟩)
def filesV (base : Nat) (w : World) (v : Value) (l : List (ByteArray × List UInt8)) : Prop := ∃ a cap, v = .slice a l.length cap ∧ w.ownsRow base 41 2 v l.length (fileV l) ∧ (0 < l.length → ∃ g, base ≤ g ∧ g < w.heap.size ∧ a = some ⟨g, 0, none⟩ ∧ FilesAt w g l)
@[reducible] def NamedOk (f : ByteArray × List UInt8) : Prop := NoNul f.1.data.toList ∧ f.1.size ≤ 140737488355328
theorem holds_files {w : World} {base g cap : Nat} {l : List FileN} (h : w.ownsRow base 41 2 (.slice (some ⟨g, 0, none⟩) l.length cap) l.length (fileV (l.map (·.1)))) : HoldsK encF 2 w g 0 l.toArray ∧ g < w.heap.size ∧ base ≤ g := by
 obtain ⟨h1, ⟨h2, _⟩ | ⟨g', cap', cur, e, hb, hg, h3, h4, h5, h6⟩⟩ := h
 ·cases h2
 ·cases e
  refine ⟨?_, (Array.getElem?_eq_some_iff.1 hg).1, hb⟩
  intro j hj
  rw [size_flatK] at hj
  rw [get_flatK _ _ _ _ hj]
  have hj' : j < l.length * 2 := by simpa using hj
  have hi : j / 2 < l.length := by omega
  obtain ⟨a1, a2⟩ := fileV_get (l.map (·.1)) (j / 2) (by simpa using hi)
  rw [Nat.zero_add]
  refine ⟨?_, frozen_row hg j⟩
  rw [row_cell hg j]
  have e1 : cur[j]? = (fileV (l.map (·.1)))[j]? := by
   rw [← h6, List.getElem?_take_of_lt hj']; simp
  have e2 : l.toArray[j / 2]! = l[j / 2] := by rw [getElem!_pos _ _ (by simpa using hi)]; simp
  rw [e2, e1]
  simp only [List.getElem_map] at a1 a2
  rcases (by omega : j % 2 = 0 ∨ j % 2 = 1) with hm | hm
  ·rw [hm]
   exact (congrArg (fun t => (fileV (l.map (·.1)))[t]?) (show j = j / 2 * 2 by omega)).trans a1
  ·rw [hm]
   exact (congrArg (fun t => (fileV (l.map (·.1)))[t]?) (show j = j / 2 * 2 + 1 by omega)).trans a2
theorem filesAt_of {w : World} {g : Nat} {d : Array FileN} (h : HoldsK encF 2 w g 0 d) : FilesAt w g (d.toList.map (·.1)) := by
 intro i hi
 have hi' : i < d.size := by simpa using hi
 have h1 := (h.cell (i := i) (c := 0) hi' (by omega)).1
 have h2 := (h.cell (i := i) (c := 1) hi' (by omega)).1
 simp only [Nat.zero_add, Nat.add_zero] at h1 h2
 rw [getElem!_pos d i hi'] at h1 h2
 simp only [List.getElem_map, Array.getElem_toList]
 exact ⟨h1, h2⟩
theorem fileV_len (l : List (ByteArray × List UInt8)) : (fileV l).length = l.length * 2 := by
 induction l with
 | nil => rfl
 | cons a l ih =>
  have e : fileV (a :: l) = fileL a ++ fileV l := rfl
  rw [e, List.length_append, ih]
  simp [fileL]; omega
theorem owns_sort {w : World} {base g cap n m : Nat} {xs : List Value} {d : Array FileN} {os : Array Obj} (h : w.ownsRow base 41 2 (.slice (some ⟨g, 0, none⟩) n cap) n xs) (hn : d.size = n)
  (hA : FilesAt (sortWorldK encF 2 w g 0 m d os) g (d.toList.map (·.1))) : (sortWorldK encF 2 w g 0 m d os).ownsRow base 41 2 (.slice (some ⟨g, 0, none⟩) n cap) n (fileV (d.toList.map (·.1))) := by
 obtain ⟨h1, ⟨h2, _⟩ | ⟨g', cap', cur, e, hb, hg, h3, h4, h5, h6⟩⟩ := h
 ·cases h2
 ·cases e
  have hl : (fileV (d.toList.map (·.1))).length = n * 2 := by rw [fileV_len]; simp [hn]
  have hg2 : (sortWorldK encF 2 w g 0 m d os).heap[g]? = some (.cells (putCells id 0 (flatK encF 2 d) cur) 41) := by
   unfold sortWorldK putRowK putRow mapBlock
   rw [heap_grow_old _ _ (by simpa using (Array.getElem?_eq_some_iff.1 hg).1)]
   show (w.heap.modify g _)[g]? = _
   rw [Array.getElem?_modify, if_pos rfl, hg]; rfl
  have hz : (putCells id 0 (flatK encF 2 d) cur).size = cur.size := by unfold putCells; simp
  refine ⟨hl, .inr ⟨g, cap, putCells id 0 (flatK encF 2 d) cur, rfl, hb, hg2, h3, h4, by rw [hz]; exact h5, ?_⟩⟩
  apply List.ext_getElem?
  intro j
  by_cases hj : j < n * 2
  ·rw [List.getElem?_take_of_lt hj]
   obtain ⟨q, hq⟩ : ∃ q, j = q * 2 ∨ j = q * 2 + 1 := ⟨j / 2, by omega⟩
   have hi : q < (d.toList.map (·.1)).length := by rw [List.length_map, Array.length_toList]; omega
   obtain ⟨a1, a2⟩ := fileV_get (d.toList.map (·.1)) q hi
   obtain ⟨c1, c2⟩ := hA q hi
   rw [row_cell hg2] at c1 c2
   have e1 : ∀ k : Nat, (putCells id 0 (flatK encF 2 d) cur).toList[k]? = (putCells id 0 (flatK encF 2 d) cur)[k]? := fun k => by simp
   rw [e1]
   rcases hq with rfl | rfl
   ·rw [c1, a1]
   ·rw [c2, a2]
  ·rw [List.getElem?_eq_none (by rw [List.length_take]; omega), List.getElem?_eq_none (by omega)]
theorem sortFiles_c (w : World) (base : Nat) (v : Value) (l : List (ByteArray × List UInt8)) (ho : w.ownsRow base 41 2 v l.length (fileV l)) (hn : ∀ f ∈ l, NamedOk f) (hlen : l.length ≤ 1000000000000) :
  Calls Tryz.prog 66 #[v, .func (.func 67) #[] #[]] w fun e w' => e = .returned (.tuple #[]) ∧ ∃ d : List (ByteArray × List UInt8), d.Perm l ∧ d.Pairwise (fun a b => cmpP a.1.data.toList b.1.data.toList ≤ 0) ∧ filesV base w' v d ∧ Touch (fun b => base ≤ b) w w' := by
 obtain ⟨lN, rfl⟩ : ∃ lN : List FileN, lN.map (·.1) = l := ⟨l.pmap (fun f h => ⟨f, h⟩) hn, by simp [List.map_pmap]⟩
 simp only [List.length_map] at ho hlen
 by_cases hv : lN = []
 ·subst hv
  obtain ⟨a, cap, rfl⟩ : ∃ a cap, v = .slice a 0 cap := by
   obtain ⟨_, ⟨e, _⟩ | ⟨g', cap', cur, e, _⟩⟩ := ho
   ·exact ⟨_, _, e⟩
   ·exact ⟨_, _, e⟩
  refine (AnyF.slices_SortFunc_none Tryz.sortFile a cap _ w).mono ?_
  rintro e w' ⟨rfl, rfl⟩
  exact ⟨rfl, [], List.Perm.refl _, List.Pairwise.nil, ⟨a, cap, rfl, ho, by simp⟩, Touch.refl _ _⟩
 ·have hpos : 0 < lN.length := List.length_pos_iff.2 hv
  obtain ⟨g, cap, rfl⟩ : ∃ g cap, v = .slice (some ⟨g, 0, none⟩) lN.length cap := by
   obtain ⟨_, ⟨_, e⟩ | ⟨g', cap', cur, e, _⟩⟩ := ho
   ·omega
   ·exact ⟨_, _, e⟩
  obtain ⟨hH, hlt, hbase⟩ := holds_files ho
  have hsz2 : lN.toArray.size = lN.length := by simp
  have hcon := AnyQ.slices_SortFunc Tryz.sortFile 2 Tryz.isAgg41 Tryz.sizeOf41 encF (fun _ => rfl) (fun x v hv => by simp [encF, fileL] at hv; rcases hv with rfl | rfl <;> rfl) cmpF swoF 67 #[] g 0 cap lN.toArray w (enters_of Tryz.func67 (by kernel_rfl) rfl) (cmpLaysF g 0 _ w) hH hlt (by simp; omega)
  rw [hsz2] at hcon
  refine hcon.mono ?_
  rintro e w' ⟨he, d', m, os, hp, hso, rfl⟩
  have hs' : d'.size = lN.length := by rw [hp.1, hsz2]
  have hperm : d'.toList.Perm lN := by
   have h3 := hp.2.2
   have e1 : d'.extract 0 lN.length = d' := by rw [← hs']; simp
   rw [e1] at h3
   simpa using h3
  have hold := holds_sort encF 2 w g 0 m _ d' os hlt hH (by rw [hs', hsz2])
  have ht := touch_sort encF 2 w g 0 m d' os
  refine ⟨he, d'.toList.map (·.1), hperm.map _, ?_, ⟨some ⟨g, 0, none⟩, cap, by simp [hs'], by have := owns_sort (m := m) (os := os) ho hs' (filesAt_of hold); simpa [hs'] using this, fun _ => ⟨g, hbase, Nat.lt_of_lt_of_le hlt ht.size, rfl, filesAt_of hold⟩⟩, ht.mono (fun k _ e => by rw [e]; exact hbase)⟩
  rw [List.pairwise_map, List.pairwise_iff_getElem]
  intro i j hi hj hij
  have hj' : j < d'.size := by simpa using hj
  have h1 := hso i j (Nat.zero_le _) hij (by omega)
  rw [getElem!_pos d' j hj', getElem!_pos d' i (by omega)] at h1
  unfold ltOf cmpF at h1
  simp only [Array.getElem_toList]
  have h2 := cmpP_swap (d'[i]'(by omega)).1.1.data.toList d'[j].1.1.data.toList
  simp at h1
  omega
theorem sortByPath_c (w : World) (base : Nat) (v : Value) (l : List (ByteArray × List UInt8)) (ho : w.ownsRow base 41 2 v l.length (fileV l)) (hn : ∀ f ∈ l, NamedOk f) (hlen : l.length ≤ 1000000000000) :
  Calls Tryz.prog 32 #[v] w fun e w' => e = .returned (.tuple #[]) ∧ ∃ d : List (ByteArray × List UInt8), d.Perm l ∧ d.Pairwise (fun a b => cmpP a.1.data.toList b.1.data.toList ≤ 0) ∧ filesV base w' v d ∧ Touch (fun b => base ≤ b) w w' := by
 have HS : Hid _ := sortFiles_c w base v l ho hn hlen
 clear ho hn
 go_enter Tryz.func32, Tryz.ntmps32
 go_wp2_with fail
 refine (show Calls _ _ _ _ _ from HS.out).mono ?_
 rintro e w1 ⟨rfl, h⟩
 go_wp2
 go_end0
 exact ⟨rfl, h⟩
end Go.Proofs.YtmhlkdlcpicekaaGreatDoor
namespace Go.Proofs.YtmhlkdlcpicekaaGreatDoor
open Go.RowKit Go.Maps
theorem RawMap.ne_cell {w : World} {B n g j : Nat} {f : List UInt8 → Option Value} {v : Value} (h : RawMap w B n f) (hc : w.cell? ⟨g, j, none⟩ = some v) : B ≠ g := by
 obtain ⟨D, ⟨es, clock, hb, _⟩, _⟩ := h
 rintro rfl
 simp [World.cell?, hb] at hc
theorem filesAt_touch {F : Nat → Prop} {w w' : World} {g : Nat} {l : List (ByteArray × List UInt8)} (h : FilesAt w g l) (t : Touch F w w') (hg : ¬ F g) : FilesAt w' g l := fun i hi => ⟨t.at (h i hi).1 hg, t.at (h i hi).2 hg⟩
theorem takeBack_c (w : World) (S b n g cap : Nat) (a : Option Addr) (f : List UInt8 → Option Value) (sh : Option Nat) (c : CutS) (np : Bool) (files : List (ByteArray × List UInt8)) (h : SB w S 1 sh (some b) c np) (hb : RawMap w b n f) (hF : 0 < files.length → a = some ⟨g, 0, none⟩ ∧ FilesAt w g files) (hl : files.length ≤ 1000000000000) (hs : ∀ x ∈ files, x.1.size ≤ maxLen)
  (hsub : ∀ key, f key ≠ none → key ∈ files.map fun x => x.1.data.toList) :
  Calls Tryz.prog 128 #[.pointer (some ⟨S, 0, none⟩), .slice a files.length cap] w fun r w' => r = .returned (.tuple #[]) ∧ SB w' S 1 sh (some b) c np ∧ RawMap w' b n (fun _ => none) ∧ Touch (fun k => k = b) w w' := by
 have hne := hb.ne_row h.hp
 have hblt := hb.lt
 obtain ⟨m, hm⟩ : ∃ m, m = files.length := ⟨_, rfl⟩
 rw [← hm]
 have HM : Hid (m = files.length) := hm
 have HF : Hid (0 < files.length → a = some ⟨g, 0, none⟩ ∧ FilesAt w g files) := hF
 have HS : Hid (∀ x ∈ files, x.1.size ≤ maxLen) := hs
 have HU : Hid (∀ key, f key ≠ none → key ∈ (files.drop 0).map fun x => x.1.data.toList) := hsub
 have hm' : m ≤ 1000000000000 := by omega
 clear hF hs hsub hm hl
 go_enter Tryz.func128, Tryz.ntmps128
 go_wp2
 go_loopw [8] (fun i wr => ∃ (k : Nat) (e : List UInt8 → Option Value), k ≤ m ∧ i = .int .i64 (k : Int) ∧ RawMap wr b n e ∧ Hid (∀ key, e key ≠ none → key ∈ (files.drop k).map fun x => x.1.data.toList) ∧ Touch (fun k => k = b) w wr) (fun i _ => m - (intOf i).toNat)
 case atStart => exact ⟨0, f, Nat.zero_le _, rfl, hb, HU, Touch.refl _ _⟩
 case round =>
  obtain ⟨k, e, hk, rfl, hM, HE, T⟩ := hrel
  have h1 := h.keep T (fun e => hne e.symm)
  obtain ⟨c0, c2, c3, c4, c5, c6, c7⟩ := h1.cs
  by_cases hlt : k < m
  ·have hkl : k < files.length := by have := HM.out; omega
   obtain ⟨rfl, hFA⟩ := HF.out (by omega)
   obtain ⟨z0, z1⟩ := hFA k hkl
   have hgb : ¬ g = b := fun e => hb.ne_cell z0 e.symm
   have y0 := T.at z0 hgb
   have y1 := T.at z1 hgb
   have glt : g < wr.heap.size := World.block_lt_of_cell? wr _ y0
   obtain ⟨P, hP⟩ : ∃ P, P = files[k].1 := ⟨_, rfl⟩
   obtain ⟨D, hD⟩ : ∃ D : ByteArray, D = ⟨files[k].2.toArray⟩ := ⟨_, rfl⟩
   have hPs : P.size ≤ maxLen := by rw [hP]; exact HS.out _ (List.getElem_mem hkl)
   have HE2 : Hid (∀ key, updM e P.data.toList none key ≠ none → key ∈ (files.drop (k + 1)).map fun x => x.1.data.toList) := fun key hk => by
    unfold updM at hk
    split at hk
    ·exact absurd rfl hk
    ·rename_i hn
     have := HE.out key hk
     rw [List.drop_eq_getElem_cons hkl, List.map_cons, List.mem_cons] at this
     rcases this with e1 | e1
     ·exact absurd (by rw [e1, hP]) hn
     ·exact e1
   rw [← hP] at y0
   rw [← hD] at y1
   clear hP hD z0 z1
   have ta : Touch (fun k => k = b) wr (wr.alloc (.cells #[.string P, .string D] 41)) := (Touch.refl _ _).alloc _
   have hM1 : RawMap (wr.alloc (.cells #[.string P, .string D] 41)) b n e := hM.keep ((Touch.refl (fun _ => False) wr).alloc _) (fun e => e)
   obtain ⟨w3, hdel, hM3, hg3⟩ := RawMap.del (w := (wr.alloc (.cells #[.string P, .string D] 41)).drew) hM1 Tryz.underlying86 P hPs 0
   have T3 : Touch (fun k => k = b) w w3 := (T.trans ta).drew.trans (Touch.turned hg3)
   obtain ⟨a0, a2, a3, _⟩ := (h1.keep ((Touch.refl (fun _ => False) wr).alloc (.cells #[.string P, .string D] 41)) (fun e => e)).cs
   have slt := h1.lt
   have i1 : (k : Int) < (m : Int) := by omega
   go_wp2
   go_region
   all_goals
    go_wp2
    go_roundw
    case rel => exact ⟨k + 1, _, by omega, by go_num, hM3, HE2, T3⟩
    case measure => simp [intOf]; omega
  ·obtain rfl : k = m := by omega
   have i1 : ¬ (k : Int) < (k : Int) := by omega
   have HN : Hid (∀ key, e key = none) := fun key => by
    cases hx : e key with
    | none => rfl
    | some v =>
     have := HE.out key (by rw [hx]; simp)
     rw [List.drop_of_length_le (by have := HM.out; omega)] at this
     cases this
   go_wp2
   go_end0
   exact ⟨rfl, h1, hM.congr HN.out, T⟩
theorem stop_fails (w : World) (S b n g cap : Nat) (a : Option Addr) (f : List UInt8 → Option Value) (sh : Option Nat) (m : Nat) (np : Bool) (files : List (ByteArray × List UInt8)) (h : SB w S 1 sh (some b) (some (m, true)) np) (hb : RawMap w b n f) (hF : 0 < files.length → a = some ⟨g, 0, none⟩ ∧ FilesAt w g files) (hl : files.length ≤ 1000000000000) (hs : ∀ x ∈ files, x.1.size ≤ maxLen)
  (hsub : ∀ key, f key ≠ none → key ∈ files.map fun x => x.1.data.toList) :
  Calls Tryz.prog 75 #[.pointer (some ⟨S, 0, none⟩), .slice a files.length cap] w fun r w' => r = .returned (.int .i64 14) ∧ SB w' S 1 sh (some b) none np ∧ RawMap w' b n (fun _ => none) ∧ Touch (fun k => k = S ∨ k = b) w w' := by
 have hne := hb.ne_row h.hp
 obtain ⟨c0, c2, c3, c4, c5, c6, c7⟩ := h.cs
 simp only [cutF] at c6
 have HB : Hid (∀ W, W = w → Calls Tryz.prog 128 #[.pointer (some ⟨S, 0, none⟩), .slice a files.length cap] W fun r w' => r = .returned (.tuple #[]) ∧ SB w' S 1 sh (some b) (some (m, true)) np ∧ RawMap w' b n (fun _ => none) ∧ Touch (fun k => k = b) W w') := fun W e => by subst e; exact takeBack_c W S b n g cap a f sh _ np files h hb hF hl hs hsub
 clear hF hs hsub hl
 go_enter Tryz.func75, Tryz.ntmps75
 go_wp2_with (go_at_call 128; refine (HB.out _ rfl).mono ?_; rintro e w2 ⟨rfl, h2, hb2, t2⟩; have f4 := h2.fr 4; have f5 := h2.fr 5; have f6 := h2.fr 6; obtain ⟨d0, d2, d3, d4, d5, d6, d7⟩ := h2.cs)
 go_ret
 have t3 := ((touch_cell w2 S 4 (.bool (none : CutS).isSome)).trans (touch_cell _ S 5 (.int .i64 0))).trans (touch_cell _ S 6 (.bool (cutF none)))
 exact ⟨rfl, h2.cut none (by simp [cutN]) 0 rfl, hb2.keep t3 hne, (t2.wide (fun k e => Or.inr e)).trans (t3.wide (fun k e => Or.inl e))⟩
theorem stop_power (w : World) (S : Nat) (v : Value) (sh be : Option Nat) (m : Nat) (np : Bool) (h : SB w S 1 sh be (some (m, false)) np) :
  Calls Tryz.prog 75 #[.pointer (some ⟨S, 0, none⟩), v] w fun r w' => r = .returned (.int .i64 14) ∧ SB w' S 1 sh be (some (m, false)) true ∧ Touch (fun k => k = S) w w' := by
 obtain ⟨c0, c2, c3, c4, c5, c6, c7⟩ := h.cs
 simp only [cutF] at c6
 have f7 := h.fr 7
 go_enter Tryz.func75, Tryz.ntmps75
 go_wp2
 go_ret
 exact ⟨rfl, h.power true, touch_cell _ _ _ _⟩
end Go.Proofs.YtmhlkdlcpicekaaGreatDoor
namespace Go.Proofs.YtmhlkdlcpicekaaGreatDoor
open Go.RowKit
def lexP : List (List UInt8) → List (List UInt8) → Bool
 | [], [] => false
 | [], _ :: _ => true
 | _ :: _, [] => false
 | x :: xs, y :: ys => if x = y then lexP xs ys else decide (x < y)
theorem ltL_pre (c : UInt8) (q : List UInt8) : ∀ p : List UInt8, p < p ++ c :: q
 | [] => List.nil_lt_cons ..
 | a :: p => by rw [List.cons_append, List.cons_lt_cons_iff]; exact .inr ⟨rfl, ltL_pre c q p⟩
theorem ltL_pre' (c : UInt8) (q : List UInt8) : ∀ p : List UInt8, ¬ p ++ c :: q < p
 | [] => List.not_lt_nil _
 | a :: p => by
  rw [List.cons_append, List.cons_lt_cons_iff]
  rintro (h | ⟨_, h⟩)
  ·exact UInt8.lt_irrefl _ h
  ·exact ltL_pre' c q p h
theorem ltL_at (a b : UInt8) (x y : List UInt8) (hab : a ≠ b) : ∀ p : List UInt8, (p ++ a :: x < p ++ b :: y) ↔ a < b
 | [] => by
  simp only [List.nil_append]
  rw [List.cons_lt_cons_iff]
  exact ⟨fun h => h.elim id (fun h => absurd h.1 hab), .inl⟩
 | c :: p => by
  rw [List.cons_append, List.cons_append, List.cons_lt_cons_iff, ltL_at a b x y hab p]
  exact ⟨fun h => h.elim (fun h => absurd h (UInt8.lt_irrefl _)) (·.2), fun h => .inr ⟨rfl, h⟩⟩
theorem partsGo_head : ∀ (u p : List UInt8), ∃ x xs, partsGo u p = (p ++ x) :: xs
 | [], p => ⟨[], [], by simp [partsGo]⟩
 | c :: u, p => by
  unfold partsGo
  split
  ·exact ⟨[], partsGo u [], by simp⟩
  ·obtain ⟨x, xs, h⟩ := partsGo_head u (p ++ [c])
   exact ⟨c :: x, xs, by rw [h]; simp⟩
theorem lexP_pos (p : List UInt8) (c : UInt8) (x : List UInt8) (r xs : List (List UInt8)) : lexP (p :: r) ((p ++ c :: x) :: xs) = true := by
 have hne : ¬ p = p ++ c :: x := fun e => by
  have := congrArg List.length e; simp at this
 simp only [lexP, if_neg hne]
 exact decide_eq_true (ltL_pre c x p)
theorem lexP_neg (p : List UInt8) (c : UInt8) (x : List UInt8) (r xs : List (List UInt8)) : lexP ((p ++ c :: x) :: xs) (p :: r) = false := by
 have hne : ¬ p ++ c :: x = p := fun e => by
  have := congrArg List.length e; simp at this
 simp only [lexP, if_neg hne]
 exact decide_eq_false (ltL_pre' c x p)
theorem rk_pos {c : UInt8} (h : c ≠ 0) (h47 : c ≠ 47) : 0 < rk c := by
 unfold rk; rw [if_neg h47]
 have : c.toNat ≠ 0 := fun e => h (UInt8.toNat_inj.1 (by simpa using e))
 omega
theorem lexP_eq : ∀ (u v p : List UInt8), NoNul u → NoNul v → lexP (partsGo u p) (partsGo v p) = decide (cmpP u v < 0)
 | [], [], p, _, _ => by simp [partsGo, lexP, cmpP]
 | [], c :: v, p, _, hv => by
  have e : decide (cmpP [] (c :: v) < 0) = true := by simp [cmpP]
  rw [e]
  by_cases h : c = 47
  ·obtain ⟨x, xs, hx⟩ := partsGo_head v []
   rw [partsGo, partsGo, if_pos h, lexP, if_pos rfl, hx]; rfl
  ·obtain ⟨x, xs, hx⟩ := partsGo_head v (p ++ [c])
   rw [partsGo, partsGo, if_neg h, hx, List.append_assoc]
   exact lexP_pos p c x [] xs
 | c :: u, [], p, hu, _ => by
  have e : decide (cmpP (c :: u) [] < 0) = false := by simp [cmpP]
  rw [e]
  by_cases h : c = 47
  ·obtain ⟨x, xs, hx⟩ := partsGo_head u []
   rw [partsGo, partsGo, if_pos h, lexP, if_pos rfl, hx]; rfl
  ·obtain ⟨x, xs, hx⟩ := partsGo_head u (p ++ [c])
   rw [partsGo, partsGo, if_neg h, hx, List.append_assoc]
   exact lexP_neg p c x [] xs
 | a :: u, b :: v, p, hu, hv => by
  have hu' : NoNul u := fun c hc => hu c (List.mem_cons_of_mem _ hc)
  have hv' : NoNul v := fun c hc => hv c (List.mem_cons_of_mem _ hc)
  have ha := hu a (List.mem_cons_self ..)
  have hb := hv b (List.mem_cons_self ..)
  by_cases e : a = b
  ·subst e
   simp only [cmpP, if_pos]
   by_cases h : a = 47
   ·rw [partsGo, partsGo, if_pos h, if_pos h, lexP, if_pos rfl]
    exact lexP_eq u v [] hu' hv'
   ·rw [partsGo, partsGo, if_neg h, if_neg h]
    exact lexP_eq u v (p ++ [a]) hu' hv'
  ·simp only [cmpP, if_neg e]
   rw [show decide (Lib.compareInt (rk a : Int) (rk b : Int) < 0) = decide ((rk a : Int) < (rk b : Int)) from decide_eq_decide.2 (compareInt_neg _ _)]
   by_cases h1 : a = 47
   ·have h2 : ¬ b = 47 := fun h => e (h1.trans h.symm)
    obtain ⟨y, ys, hy⟩ := partsGo_head v (p ++ [b])
    rw [partsGo, partsGo, if_pos h1, if_neg h2, hy, List.append_assoc]
    have := rk_pos hb h2
    have z : rk a = 0 := by unfold rk; rw [if_pos h1]
    rw [decide_eq_true (show (rk a : Int) < (rk b : Int) by omega)]
    exact lexP_pos p b y _ ys
   ·obtain ⟨x, xs, hx⟩ := partsGo_head u (p ++ [a])
    by_cases h2 : b = 47
    ·rw [partsGo, partsGo, if_neg h1, if_pos h2, hx, List.append_assoc]
     have z : rk b = 0 := by unfold rk; rw [if_pos h2]
     rw [decide_eq_false (show ¬ (rk a : Int) < (rk b : Int) by omega)]
     exact lexP_neg p a x _ xs
    ·obtain ⟨y, ys, hy⟩ := partsGo_head v (p ++ [b])
     rw [partsGo, partsGo, if_neg h1, if_neg h2, hx, hy, List.append_assoc, List.append_assoc]
     have hne : ¬ p ++ ([a] ++ x) = p ++ ([b] ++ y) := fun h => by
      have := List.append_cancel_left h
      simp at this; exact e this.1
     simp only [lexP, if_neg hne]
     refine decide_eq_decide.2 ?_
     have := ltL_at a b x y e p
     simp only [List.cons_append, List.nil_append]
     rw [this]
     have z1 : rk a = a.toNat := by unfold rk; rw [if_neg h1]
     have z2 : rk b = b.toNat := by unfold rk; rw [if_neg h2]
     rw [z1, z2, UInt8.lt_iff_toNat_lt]; omega
theorem cmpP_tail : ∀ (u v e f : List UInt8), u ≠ v → NoNul u → NoNul v → (e = [] ∨ e = [47]) → (f = [] ∨ f = [47]) → u.getLast? ≠ some 47 → v.getLast? ≠ some 47 → (cmpP (u ++ e) (v ++ f) < 0 ↔ cmpP u v < 0)
 | [], [], _, _, h, _, _, _, _, _, _ => absurd rfl h
 | [], c :: v, e, f, _, _, hv, he, hf, _, hl => by
  have hc := hv c (List.mem_cons_self ..)
  have r : cmpP [] (c :: v) < 0 := by simp [cmpP]
  refine ⟨fun _ => r, fun _ => ?_⟩
  rcases he with rfl | rfl
  ·simp [cmpP]
  ·simp only [List.nil_append, List.cons_append, cmpP]
   by_cases h47 : c = 47
   ·rw [if_pos h47.symm]
    cases v with
    | nil => rw [h47] at hl; simp at hl
    | cons d v => simp [cmpP]
   ·rw [if_neg (fun h => h47 h.symm), compareInt_neg]
    have := rk_pos hc h47
    have z : rk 47 = 0 := rfl
    omega
 | c :: u, [], e, f, _, hu, _, he, hf, hl, _ => by
  have hc := hu c (List.mem_cons_self ..)
  have r : ¬ cmpP (c :: u) [] < 0 := by simp [cmpP]
  refine ⟨fun h => ?_, fun h => absurd h r⟩
  rcases hf with rfl | rfl
  ·simp [cmpP] at h
  ·simp only [List.nil_append, List.cons_append, cmpP] at h
   by_cases h47 : c = 47
   ·rw [if_pos h47] at h
    cases u with
    | nil => rw [h47] at hl; simp at hl
    | cons d u => simp [cmpP] at h
   ·rw [if_neg h47, compareInt_neg] at h
    have := rk_pos hc h47
    have z : rk 47 = 0 := rfl
    omega
 | a :: u, b :: v, e, f, h, hu, hv, he, hf, hlu, hlv => by
  simp only [List.cons_append, cmpP]
  by_cases hab : a = b
  ·rw [if_pos hab, if_pos hab]
   have hne : u ≠ v := fun e => h (by rw [hab, e])
   refine cmpP_tail u v e f hne (fun c hc => hu c (List.mem_cons_of_mem _ hc)) (fun c hc => hv c (List.mem_cons_of_mem _ hc)) he hf ?_ ?_
   ·cases u with
    | nil => simp
    | cons d u => simpa using hlu
   ·cases v with
    | nil => simp
    | cons d v => simpa using hlv
  ·rw [if_neg hab, if_neg hab]
end Go.Proofs.YtmhlkdlcpicekaaGreatDoor
