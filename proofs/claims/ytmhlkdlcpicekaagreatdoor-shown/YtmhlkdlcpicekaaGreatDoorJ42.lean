/- Texts of this seat, joined. -/
import Derived.Test.YtmhlkdlcpicekaaGreatDoorJ37
import Derived.Test.YtmhlkdlcpicekaaGreatDoorJ41
import Derived.Test.YtmhlkdlcpicekaaGreatDoorJ32
import Derived.BigQuiet
set_option linter.unusedSimpArgs false
set_option linter.unusedVariables false
set_option maxRecDepth 100000
set_option maxHeartbeats 20000000
namespace Go.Proofs.YtmhlkdlcpicekaaGreatDoor
open Go.RowKit
structure Raw where
 nm : Int
 kd : Int
 txt : ByteArray
 pd : List UInt8
 pt : List UInt8
def madeOf (r : Raw) : Made :=
 if r.kd.tmod 4 = 0 then ⟨foldL (pickOf r.nm 4), 0, [], [], sumOf ⟨#[]⟩⟩
 else if r.kd.tmod 4 = 1 then ⟨pathL (pickOf r.nm 24), 8, r.pd, r.pt, sumOf ⟨r.pt.toArray⟩⟩
 else ⟨pathL (pickOf r.nm 24), 0, r.txt.data.toList.take 60, r.txt.data.toList.take 60, sumOf ⟨(r.txt.data.toList.take 60).toArray⟩⟩
def filOf (m : Made) : Fil := (⟨m.name.toArray⟩, m.text)
def knownB (acc : List Made) (n : List UInt8) : Bool := acc.any fun m => decide (m.name = n)
def buildGo : List Raw → List Made → List Made
 | [], acc => acc
 | r :: l, acc => if knownB acc (madeOf r).name then buildGo l acc else buildGo l (acc ++ [madeOf r])
theorem fileAll_snoc (f : Nat) : ∀ (l : List Made) (m : Made), fileAll f (l ++ [m]) = fileAll f l ++ fileB f m
 | [], m => by simp [fileAll]
 | x :: l, m => by rw [List.cons_append, fileAll, fileAll_snoc f l m, fileAll, List.append_assoc]
theorem dirAll_snoc (f : Nat) : ∀ (l : List Made) (m : Made) (a : Nat), dirAll f (l ++ [m]) a = dirAll f l a ++ dirB f m (a + (fileAll f l).length)
 | [], m, a => by simp [dirAll, fileAll]
 | x :: l, m, a => by rw [List.cons_append, dirAll, dirAll_snoc f l m, dirAll, List.append_assoc, fileAll, List.length_append, Nat.add_assoc]
structure RawOk (r : Raw) : Prop where
 dl : 0 < r.pd.length ∧ r.pd.length ≤ 2000
 tl : r.pt.length ≤ 3600
 inf : inflateVal (inflateOf ⟨r.pd.toArray⟩ (r.pt.length : Int)) = .tuple #[.string ⟨r.pt.toArray⟩, .int .i64 (r.pd.length : Int), .int .i64 0]
structure MadeOk (m : Made) : Prop where
 nm : m.name ∈ namesAll
 mth : m.method = 0 ∨ m.method = 8
 dat : m.data.length ≤ 2000
 txt : m.text.length ≤ 3600
 gv : Gives m
 fol : folderLL m.name = true → m.data = [] ∧ m.text = []
 m0 : m.method = 0 → m.data = m.text
theorem pathL_mem (n : Nat) (h : n < 24) : pathL n ∈ namesAll := List.mem_append_left _ (List.mem_map.2 ⟨n, List.mem_range.2 h, rfl⟩)
theorem foldL_mem (n : Nat) (h : n < 4) : foldL n ∈ namesAll := List.mem_append_right _ (List.mem_map.2 ⟨n, List.mem_range.2 h, rfl⟩)
theorem path_file (n : Nat) (h : n < 24) : folderLL (pathL n) = false := by
 have := List.all_eq_true.1 names_file n (List.mem_range.2 h)
 simpa using this
theorem madeOf_ok (r : Raw) (h : RawOk r) : MadeOk (madeOf r) := by
 have p24 := pickOf_lt r.nm 24 (by omega)
 have p4 := pickOf_lt r.nm 4 (by omega)
 unfold madeOf
 split
 ·exact ⟨foldL_mem _ p4, Or.inl rfl, by simp, by simp, ⟨Or.inl ⟨rfl, rfl⟩, rfl⟩, fun _ => ⟨rfl, rfl⟩, fun _ => rfl⟩
 ·split
  ·refine ⟨pathL_mem _ p24, Or.inr rfl, h.dl.2, h.tl, gives_of rfl h.inf h.dl.1 rfl, fun hf => ?_, fun e => by cases e⟩
   rw [path_file _ p24] at hf; cases hf
  ·refine ⟨pathL_mem _ p24, Or.inl rfl, ?_, ?_, ⟨Or.inl ⟨rfl, rfl⟩, rfl⟩, fun hf => ?_, fun _ => rfl⟩
   ·show (r.txt.data.toList.take 60).length ≤ 2000
    rw [List.length_take]; omega
   ·show (r.txt.data.toList.take 60).length ≤ 3600
    rw [List.length_take]; omega
   ·rw [path_file _ p24] at hf; cases hf
theorem known_iff (acc : List Made) (n : List UInt8) : knownB acc n = true ↔ n ∈ acc.map (·.name) := by
 unfold knownB
 rw [List.any_eq_true, List.mem_map]
 constructor
 ·rintro ⟨m, hm, e⟩; exact ⟨m, hm, of_decide_eq_true e⟩
 ·rintro ⟨m, hm, e⟩; exact ⟨m, hm, decide_eq_true e⟩
structure AllOk (l : List Made) : Prop where
 each : ∀ m ∈ l, MadeOk m
 nd : (l.map (·.name)).Nodup
theorem AllOk.nil : AllOk [] := ⟨fun m h => (by cases h), (by simp)⟩
theorem AllOk.snoc {l : List Made} (h : AllOk l) {m : Made} (hm : MadeOk m) (hk : knownB l m.name = false) : AllOk (l ++ [m]) := by
 refine ⟨fun x hx => ?_, ?_⟩
 ·rcases List.mem_append.1 hx with hx | hx
  ·exact h.each x hx
  ·rw [List.mem_singleton] at hx; rw [hx]; exact hm
 ·rw [List.map_append, List.nodup_append]
  refine ⟨h.nd, by simp, fun a ha b hb => ?_⟩
  simp only [List.map_cons, List.map_nil, List.mem_singleton] at hb
  subst hb
  intro e
  subst e
  have := (known_iff l m.name).2 ha
  rw [hk] at this; cases this
theorem names_small {n : List UInt8} (h : n ∈ namesAll) : 0 < n.length ∧ n.length ≤ 10 := by
 have : namesAll.all (fun n => decide (0 < n.length ∧ n.length ≤ 10)) = true := by decide +kernel
 exact of_decide_eq_true (List.all_eq_true.1 this n h)
theorem MadeOk.fits {m : Made} (h : MadeOk m) {f : Nat} (hf : f = 0 ∨ f = 8) : Fits f m := by
 have := names_small h.nm
 refine ⟨hf, by omega, h.mth, by have := h.dat; omega, by have := h.txt; omega, ?_⟩
 rw [← h.gv.sum]
 exact Nat.xor_lt_two_pow (n := 32) (by omega) (sumGo_lt _)
theorem MadeOk.fault {m : Made} (h : MadeOk m) {f : Nat} (hf : f = 0 ∨ f = 8) (x : Nat) : faultOf (entMade f m x) = 0 := by
 refine faultOf_made (h.fits hf) ?_ (fun e => h.fol (by rw [folderB_list] at e; exact e)) h.m0 x
 rw [nameOk_list]
 exact List.all_eq_true.1 names_ok _ h.nm
theorem fileAll_len (f : Nat) : ∀ (l : List Made), (∀ m ∈ l, MadeOk m) → (fileAll f l).length ≤ 2100 * l.length
 | [], _ => by simp [fileAll]
 | m :: l, h => by
  have ih := fileAll_len f l (fun x hx => h x (by simp [hx]))
  have h1 := h m (by simp)
  have h2 := names_small h1.nm
  have h3 := h1.dat
  unfold fileAll
  rw [List.length_append, fileB_len, List.length_cons]
  split <;> omega
theorem dirAll_len (f : Nat) : ∀ (l : List Made) (a : Nat), (∀ m ∈ l, MadeOk m) → (dirAll f l a).length ≤ 60 * l.length
 | [], _, _ => by simp [dirAll]
 | m :: l, a, h => by
  have ih := dirAll_len f l (a + (fileB f m).length) (fun x hx => h x (by simp [hx]))
  have h1 := h m (by simp)
  have h2 := names_small h1.nm
  unfold dirAll
  rw [List.length_append, dirB_len, List.length_cons]
  omega
theorem listOf_built {f : Nat} (hf : f = 0 ∨ f = 8) {l : List Made} (h : AllOk l) (hl : l.length ≤ 10) (qe qn qb : Int) :
  listOf ⟨(madeB f l).toArray⟩ qe qn qb = if qe < (l.length : Int) then .error 13 else if qn < (((l.map fun m => m.name.length).sum : Nat) : Int) then .error 13 else if qb < (((l.map fun m => m.text.length).sum : Nat) : Int) then .error 13 else .ok (spansMade f l 0) := by
 have h1 := fileAll_len f l h.each
 have h2 := dirAll_len f l 0 h.each
 refine listOf_made (fun m hm => ⟨(h.each m hm).fits hf, (h.each m hm).fault hf⟩) (by omega) ?_ ?_
 ·unfold madeB
  rw [List.length_append, List.length_append, endB_len]
  omega
 ·have := clash_none h.nd (fun a ha => by
   obtain ⟨m, hm, rfl⟩ := List.mem_map.1 ha
   exact (h.each m hm).nm)
  rw [List.map_map] at this
  exact this
theorem filesGo_built {f : Nat} {l : List Made} (h : AllOk l) : filesGo ⟨(madeB f l).toArray⟩ (spansMade f l 0) [] = .inr ((l.filter fun m => !folderB ⟨m.name.toArray⟩).map fun m => ((⟨m.name.toArray⟩ : ByteArray), m.text)) := by
 have h0 : Stands ⟨(madeB f l).toArray⟩ 0 (fileAll f l ++ (dirAll f l 0 ++ endB l.length (dirAll f l 0).length (fileAll f l).length)) := ⟨[], [], by simp [madeB], rfl⟩
 rw [filesGo_made l 0 [] (fun m hm _ => (h.each m hm).gv) h0.left, List.nil_append]
end Go.Proofs.YtmhlkdlcpicekaaGreatDoor
namespace Go.Proofs.YtmhlkdlcpicekaaGreatDoor
open Go.RowKit Go.Shelf
def findOf : List Fil → ByteArray → Option (List UInt8)
 | [], _ => none
 | f :: l, p => if f.1 = p then some f.2 else findOf l p
end Go.Proofs.YtmhlkdlcpicekaaGreatDoor
namespace Go.Proofs.YtmhlkdlcpicekaaGreatDoor
open Go.RowKit Go.Shelf
theorem has_c (w : World) (a : Option Addr) (g cap n : Nat) (L : List Fil) (p : ByteArray) (hL : 0 < L.length → a = some ⟨g, 0, none⟩ ∧ FilesAt w g L) (hN : n = L.length) (hn : L.length ≤ 1000000000000) :
  Calls Tryz.prog 27 #[.slice a n cap, .string p] w fun r w' => r = .returned (.bool (findOf L p).isSome) ∧ w' = w := by
 have HN : Hid (n = L.length) := hN
 have HL : Hid (0 < L.length → a = some ⟨g, 0, none⟩ ∧ FilesAt w g L) := hL
 obtain ⟨R, hR⟩ : ∃ R, R = findOf L p := ⟨_, rfl⟩
 rw [← hR]
 have HR : Hid (R = findOf (L.drop 0) p) := hR
 have hn' : n ≤ 1000000000000 := by omega
 clear hL hN hn hR
 go_enter Tryz.func27, Tryz.ntmps27
 go_wp2
 go_loop [5] (fun i => ∃ k : Nat, k ≤ n ∧ i = .int .i64 (k : Int) ∧ Hid (R = findOf (L.drop k) p)) (fun i => n - (intOf i).toNat)
 case atStart => exact ⟨0, Nat.zero_le _, rfl, HR⟩
 case round =>
  obtain ⟨k, hk, rfl, HK⟩ := hrel
  by_cases hlt : k < n
  ·have hlt' : k < L.length := by have := HN.out; omega
   obtain ⟨rfl, hF⟩ := HL.out (by omega)
   obtain ⟨x1, x2⟩ := hF k hlt'
   have HX : Hid (R = if L[k].1 = p then some L[k].2 else findOf (L.drop (k + 1)) p) := by
    unfold Hid; rw [HK.out, List.drop_eq_getElem_cons hlt', findOf]
   clear HK hF x2
   revert x1 HX
   generalize L[k] = x
   obtain ⟨xn, xd⟩ := x
   simp only
   intro x1 HX
   have i1 : (k : Int) < (n : Int) := by omega
   by_cases e : xn = p
   ·have hx := HX.out
    rw [if_pos e] at hx
    have FIN : Hid (R.isSome = true) := by rw [hx]; rfl
    have q1 : (xn.toList == p.toList) = true := by rw [e]; simp
    clear HX hx
    go_wp2
    go_ret
    exact ⟨by rw [FIN.out]; rfl, rfl⟩
   ·have hx := HX.out
    rw [if_neg e] at hx
    have HN2 : Hid (R = findOf (L.drop (k + 1)) p) := hx
    have q1 : (xn.toList == p.toList) = false := by rw [beq_eq_false_iff_ne, Ne, bytes_eq]; exact e
    clear HX hx
    go_wp2
    exact ⟨⟨k + 1, by omega, by go_num, HN2⟩, by simp [intOf]; omega⟩
  ·obtain rfl : n = k := by omega
   have hx := HK.out
   rw [List.drop_of_length_le (by have := HN.out; omega), findOf] at hx
   have FIN : Hid (R.isSome = false) := by rw [hx]; rfl
   clear HK hx
   go_wp2
   go_ret
   exact ⟨by rw [FIN.out]; rfl, rfl⟩
theorem kmost60_c (w : World) (S T : ByteArray) (hS : S.size ≤ 9223372036854775807) (hT : T = ⟨(S.data.toList.take 60).toArray⟩) :
  Calls Tryz.prog 28 #[.string S, .int .i64 60] w fun e w' => e = .returned (.string T) ∧ w = w' := by
 have hl : S.data.toList.length = S.size := Array.length_toList
 by_cases h : 60 < S.size
 ·have HE : Hid (S.extract 0 60 = T) := by
   unfold Hid; rw [hT]
   apply ByteArray.ext
   apply Array.toList_inj.1
   rw [Lib.extract_data]; simp
  clear hT
  go_enter Tryz.func28, Tryz.ntmps28
  go_wp2
  go_ret
  refine ⟨?_, rfl⟩
  rw [← HE.out]; rfl
 ·have HE : Hid (S = T) := by
   unfold Hid; rw [hT, List.take_of_length_le (by omega)]
  clear hT
  go_enter Tryz.func28, Tryz.ntmps28
  go_wp2
  go_ret
  refine ⟨?_, rfl⟩
  rw [← HE.out]; rfl
theorem path_c (w : World) (c : Int) (c0 : -9223372036854775808 ≤ c) (c1 : c ≤ 9223372036854775807) (T : ByteArray) (hT : T = ⟨(pathL (pickOf c 24)).toArray⟩) :
  Calls Tryz.prog 26 #[.int .i64 c] w fun r w' => r = .returned (.string T) ∧ Touch (fun _ => False) w w' := by
 have hlt := pickOf_lt c 24 (by omega)
 have HPK : Hid (∀ W, Calls Tryz.prog 12 #[.int .i64 c, .int .i64 24] W fun e w' => e = .returned (.int .i64 ((pickOf c 24 : Nat) : Int)) ∧ W = w') := fun W => kpick_c W c 24 _ 24 rfl rfl (by omega) (by omega) c0 c1
 subst hT
 revert HPK hlt
 generalize pickOf c 24 = n
 intro hlt HPK
 have hs : n = 0 ∨ n = 1 ∨ n = 2 ∨ n = 3 ∨ n = 4 ∨ n = 5 ∨ n = 6 ∨ n = 7 ∨ n = 8 ∨ n = 9 ∨ n = 10 ∨ n = 11 ∨ n = 12 ∨ n = 13 ∨ n = 14 ∨ n = 15 ∨ n = 16 ∨ n = 17 ∨ n = 18 ∨ n = 19 ∨ n = 20 ∨ n = 21 ∨ n = 22 ∨ n = 23 := by omega
 clear hlt c0 c1
 rcases hs with rfl | rfl | rfl | rfl | rfl | rfl | rfl | rfl | rfl | rfl | rfl | rfl | rfl | rfl | rfl | rfl | rfl | rfl | rfl | rfl | rfl | rfl | rfl | rfl
 all_goals
  go_enter Tryz.func26, Tryz.ntmps26
  go_wp2_with fail
  refine (HPK.out _).mono ?_
  rintro e w1 ⟨rfl, rfl⟩
  go_wp2
  go_ret
  exact ⟨congrArg (fun b => Ending.returned (Value.string b)) (by first | rfl | kernel_rfl), (Touch.refl _ _).alloc _⟩
end Go.Proofs.YtmhlkdlcpicekaaGreatDoor
namespace Go.Proofs.YtmhlkdlcpicekaaGreatDoor
open Go.RowKit Go.Shelf
theorem filesAt_owned {w : World} {base n cap : Nat} {a : Option Addr} {l : List Fil} (h : w.ownsRow base 41 2 (.slice a n cap) l.length (fileV l)) : n = l.length ∧ (0 < l.length → ∃ g, a = some ⟨g, 0, none⟩ ∧ FilesAt w g l ∧ g < w.heap.size ∧ base ≤ g ∧ l.length ≤ cap) := by
 obtain ⟨h1, ⟨h2, h3⟩ | ⟨g, cap', cur, e, hb, hg, h3, h4, h5, h6⟩⟩ := h
 ·cases h2
  exact ⟨h3.symm, fun h => by omega⟩
 ·cases e
  refine ⟨rfl, fun _ => ⟨g, rfl, fun i hi => ?_, (Array.getElem?_eq_some_iff.1 hg).1, hb, h3⟩⟩
  obtain ⟨e1, e2⟩ := fileV_get l i hi
  rw [← h6, List.getElem?_take_of_lt (by omega)] at e1 e2
  rw [cell_of_row w g _ cur _ _ hg, cell_of_row w g _ cur _ _ hg]
  exact ⟨by simpa using e1, by simpa using e2⟩
end Go.Proofs.YtmhlkdlcpicekaaGreatDoor
namespace Go.Proofs.YtmhlkdlcpicekaaGreatDoor
open Go.RowKit Go.Shelf
end Go.Proofs.YtmhlkdlcpicekaaGreatDoor
namespace Go.Proofs.YtmhlkdlcpicekaaGreatDoor
open Go.RowKit
theorem quota_new (w : World) (x y z : Value) (t : TypeId) : (w.alloc (Obj.cells #[x, y, z] t)).cell? ⟨w.heap.size, 0, none⟩ = some x ∧ (w.alloc (Obj.cells #[x, y, z] t)).cell? ⟨w.heap.size, 1, none⟩ = some y ∧ (w.alloc (Obj.cells #[x, y, z] t)).cell? ⟨w.heap.size, 2, none⟩ = some z := by
 have hb := heap_alloc_new w (Obj.cells #[x, y, z] t)
 refine ⟨?_, ?_, ?_⟩ <;> rw [row_cell hb] <;> rfl
theorem cells_new (w : World) (l : List Value) (t : TypeId) : ∀ (j : Nat) (v : Value), l[j]? = some v → (w.alloc (Obj.cells l.toArray t)).cell? ⟨w.heap.size, j, none⟩ = some v := fun j v h => by
 rw [row_cell (heap_alloc_new w _)]; simpa using h
end Go.Proofs.YtmhlkdlcpicekaaGreatDoor
namespace Go.Proofs.YtmhlkdlcpicekaaGreatDoor
open Go.RowKit Go.Shelf
theorem allowed_c (w : World) (a v : Value) (x y z : Int) :
  Calls Tryz.prog 10 #[.agg #[a, v, .int .i64 x, .int .i64 y, .int .i64 z]] w fun r w' => r = .returned (.agg #[.int .i64 z, .int .i64 x, .int .i64 y]) ∧ Touch (fun _ => False) w w' := by
 have c2 := cells_new w [a, v, .int .i64 x, .int .i64 y, .int .i64 z] 32 2 _ rfl
 have c3 := cells_new w [a, v, .int .i64 x, .int .i64 y, .int .i64 z] 32 3 _ rfl
 have c4 := cells_new w [a, v, .int .i64 x, .int .i64 y, .int .i64 z] 32 4 _ rfl
 go_enter Tryz.func10, Tryz.ntmps10
 go_wp2
 refine bodyPost_ret (v := .agg #[.int .i64 z, .int .i64 x, .int .i64 y]) (by simp [results, Tryz.results10, go_sem]) rfl ⟨rfl, ?_⟩
 exact ((Touch.refl _ _).alloc _).alloc _
end Go.Proofs.YtmhlkdlcpicekaaGreatDoor
namespace Go.Proofs.YtmhlkdlcpicekaaGreatDoor
open Go.RowKit
def markS (n : Nat) : ByteArray := ⟨([109, 105, 110, 101] ++ List.replicate n (33 : UInt8) : List UInt8).toArray⟩
end Go.Proofs.YtmhlkdlcpicekaaGreatDoor
