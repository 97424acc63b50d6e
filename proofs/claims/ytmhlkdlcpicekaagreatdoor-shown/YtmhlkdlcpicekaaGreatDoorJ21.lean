/- Texts of this seat, joined. -/
import Derived.Test.YtmhlkdlcpicekaaGreatDoorJ19
import Derived.Test.YtmhlkdlcpicekaaGreatDoorJ20
import Derived.Test.YtmhlkdlcpicekaaGreatDoorJ16
import Derived.Test.YtmhlkdlcpicekaaGreatDoorJ14
import Derived.Maps.RangeWalk
import Derived.Sort.KeysCollected
import Derived.Deep.DeepCutAuto
set_option linter.unusedSimpArgs false
set_option linter.unusedVariables false
set_option maxRecDepth 100000
set_option maxHeartbeats 20000000
namespace Go.Proofs.YtmhlkdlcpicekaaGreatDoor
open Go.RowKit Go.Shelf Go.Lib Go.Sort
def listPost (base : Nat) (R : Except Nat (List Spanned)) (r : Ending) (w' : World) : Prop := match R with
 | .error k => r = .returned (.tuple #[.slice none 0 0, .int .i64 (k : Int)]) ∧ 0 < k
 | .ok L => ∃ g cap, r = .returned (.tuple #[.slice (some ⟨g, 0, none⟩) L.length cap, .int .i64 0]) ∧ w'.ownsRow base 134 6 (.slice (some ⟨g, 0, none⟩) L.length cap) L.length (entV L)
def unpackPost (base : Nat) (s : ByteArray) (R : Except Nat (List Spanned)) (r : Ending) (w' : World) : Prop := match R with
 | .error k => r = .returned (.tuple #[.slice none 0 0, .int .i64 (k : Int)])
 | .ok L => match filesGo s L [] with
  | .inl k => r = .returned (.tuple #[.slice none 0 0, .int .i64 (k : Int)])
  | .inr fs => ∃ v d, r = .returned (.tuple #[v, .int .i64 0]) ∧ d.Perm (fs ++ (foldAll L []).map folOf) ∧ d.Pairwise (fun a b => cmpP a.1.data.toList b.1.data.toList ≤ 0) ∧ filesV base w' v d
theorem foldIn_mem (nm : List UInt8) : ∀ (f i : Nat) (acc : List (List UInt8)) (p : List UInt8), p ∈ foldIn nm f i acc → p ∈ acc ∨ ∃ j, p = nm.take j
 | 0, _, _, _, h => .inl h
 | f + 1, i, acc, p, h => by
  rcases foldIn_mem nm f (i + 1) _ p h with h | h
  ·split at h
   ·rw [List.mem_append] at h
    rcases h with h | h
    ·exact .inl h
    ·simp at h; exact .inr ⟨_, h⟩
   ·exact .inl h
  ·exact .inr h
theorem foldAll_mem : ∀ (L : List Spanned) (acc : List (List UInt8)) (p : List UInt8), p ∈ foldAll L acc → p ∈ acc ∨ ∃ x ∈ L, ∃ j, p = x.ent.name.data.toList.take j
 | [], _, _, h => .inl h
 | x :: L, acc, p, h => by
  rcases foldAll_mem L _ p h with h | ⟨y, hy, h⟩
  ·rcases foldIn_mem _ _ _ _ _ h with h | h
   ·exact .inl h
   ·exact .inr ⟨x, List.mem_cons_self .., h⟩
  ·exact .inr ⟨y, List.mem_cons_of_mem _ hy, h⟩
theorem filesGo_mem (s : ByteArray) : ∀ (L : List Spanned) (acc fs : List (ByteArray × List UInt8)), filesGo s L acc = .inr fs → fs.length ≤ acc.length + L.length ∧ ∀ f ∈ fs, f ∈ acc ∨ ∃ x ∈ L, f.1 = x.ent.name
 | [], acc, fs, h => by cases h; exact ⟨by simp, fun f hf => .inl hf⟩
 | x :: L, acc, fs, h => by
  unfold filesGo at h
  split at h
  ·obtain ⟨h1, h2⟩ := filesGo_mem s L acc fs h
   refine ⟨by simp; omega, fun f hf => ?_⟩
   rcases h2 f hf with h3 | ⟨y, hy, h3⟩
   ·exact .inl h3
   ·exact .inr ⟨y, List.mem_cons_of_mem _ hy, h3⟩
  ·split at h
   ·cases h
   ·obtain ⟨h1, h2⟩ := filesGo_mem s L _ fs h
    refine ⟨by simp at *; omega, fun f hf => ?_⟩
    rcases h2 f hf with h3 | ⟨y, hy, h3⟩
    ·rw [List.mem_append] at h3
     rcases h3 with h3 | h3
     ·exact .inl h3
     ·simp at h3; exact .inr ⟨x, List.mem_cons_self .., by rw [h3]⟩
    ·exact .inr ⟨y, List.mem_cons_of_mem _ hy, h3⟩
theorem filesGo_err (s : ByteArray) : ∀ (L : List Spanned) (acc : List (ByteArray × List UInt8)) (k : Nat), filesGo s L acc = .inl k → 0 < k
 | [], _, _, h => by cases h
 | x :: L, acc, k, h => by
  unfold filesGo at h
  split at h
  ·exact filesGo_err s L acc k h
  ·split at h
   ·rename_i k' he; cases h
    rcases dataOfE_err s x _ he with h | h | h <;> omega
   ·exact filesGo_err s L _ k h
theorem named_all (s : ByteArray) (L : List Spanned) (fs : List (ByteArray × List UInt8)) (h : filesGo s L [] = .inr fs) (hn : ∀ x ∈ L, NoNul x.ent.name.data.toList ∧ x.ent.name.size ≤ 60) : ∀ f ∈ fs ++ (foldAll L []).map folOf, NamedOk f := by
 intro f hf
 rw [List.mem_append] at hf
 rcases hf with hf | hf
 ·rcases (filesGo_mem s L [] fs h).2 f hf with h1 | ⟨x, hx, h1⟩
  ·cases h1
  ·obtain ⟨a, b⟩ := hn x hx
   unfold NamedOk
   rw [h1]; exact ⟨a, by omega⟩
 ·rw [List.mem_map] at hf
  obtain ⟨p, hp, rfl⟩ := hf
  rcases foldAll_mem L [] p hp with h1 | ⟨x, hx, j, rfl⟩
  ·cases h1
  ·obtain ⟨a, b⟩ := hn x hx
   refine ⟨fun c hc => a c ?_, ?_⟩
   ·simp only [folOf] at hc
    exact List.mem_of_mem_take hc
   ·show (List.take j x.ent.name.data.toList).toArray.size ≤ _
    have e : x.ent.name.data.toList.length = x.ent.name.size := by simp
    simp only [List.size_toArray, List.length_take]; omega
theorem unpack_of (w : World) (s : ByteArray) (qe qn qb : Int) (R : Except Nat (List Spanned)) (hL : ∀ W, Touch (fun _ => False) w W → Calls Tryz.prog 20 #[.string s, .agg #[.int .i64 qe, .int .i64 qn, .int .i64 qb]] W fun r w' => Touch (fun _ => False) W w' ∧ listPost W.heap.size R r w')
  (hok : ∀ L, R = .ok L → L.length ≤ 1000000000 ∧ (∀ x ∈ L, FileOk s x) ∧ ∀ x ∈ L, NoNul x.ent.name.data.toList ∧ x.ent.name.size ≤ 60) (hs : s.size ≤ 2147483648) (ho : Ord w) (hb : 1 < w.heap.size) :
  Calls Tryz.prog 11 #[.string s, .agg #[.int .i64 qe, .int .i64 qn, .int .i64 qb]] w fun r w' => Touch (fun _ => False) w w' ∧ unpackPost w.heap.size s R r w' := by
 obtain ⟨i0, hi, hz0, hz1, hz2⟩ := info_parts Tryz.infoFile
 have T0 : Touch (fun _ => False) w (w.alloc (Obj.cells #[.int .i64 qe, .int .i64 qn, .int .i64 qb] 35)) := (Touch.refl _ w).alloc _
 have HL : Hid (Calls Tryz.prog 20 #[.string s, .agg #[.int .i64 qe, .int .i64 qn, .int .i64 qb]] (w.alloc (Obj.cells #[.int .i64 qe, .int .i64 qn, .int .i64 qb] 35)) fun r w' => Touch (fun _ => False) (w.alloc (Obj.cells #[.int .i64 qe, .int .i64 qn, .int .i64 qb] 35)) w' ∧ listPost (w.alloc (Obj.cells #[.int .i64 qe, .int .i64 qn, .int .i64 qb] 35)).heap.size R r w') := hL _ T0
 have HOK : Hid (∀ L, R = .ok L → L.length ≤ 1000000000 ∧ (∀ x ∈ L, FileOk s x) ∧ ∀ x ∈ L, NoNul x.ent.name.data.toList ∧ x.ent.name.size ≤ 60) := hok
 clear hL hok
 go_enter Tryz.func11, Tryz.ntmps11
 go_wp2_with fail
 refine HL.out.mono ?_
 rintro e w1 ⟨t1', h1⟩
 have t1 := T0.trans t1'
 clear t1' T0 HL
 cases R with
 | error k =>
  obtain ⟨rfl, hk⟩ := h1
  have hk' : ¬ (k : Int) = 0 := by omega
  have FIN : Hid (∀ w', unpackPost w.heap.size s (.error k) (.returned (.tuple #[.slice none 0 0, .int .i64 (k : Int)])) w') := fun _ => rfl
  clear HOK
  go_wp2
  go_ret2
  exact ⟨t1, FIN.out _⟩
 | ok L =>
  obtain ⟨g, cap, rfl, hro⟩ := h1
  obtain ⟨o1, o2, o3⟩ := HOK.out L rfl
  have hE := EntsAt.owned hro
  have hfc := filesOf_c w1 s (some ⟨g, 0, none⟩) g cap L (fun _ => rfl) (fun _ => hE) o1 o2 hs (ho.keep t1 (fun e => e)) (by have := t1.size; omega)
  have hdc := fun w2 (t2 : Touch (fun _ => False) w1 w2) => foldersOf_c w2 (some ⟨g, 0, none⟩) g cap L (fun _ => rfl) (fun _ => hE.keep t2 (fun e => e)) o1 (fun x hx => (o3 x hx).2)
  have hnm := fun fs hh => named_all s L fs hh o3
  clear hro hE o2 o3 HOK
  obtain ⟨n, hn⟩ : ∃ n, n = L.length := ⟨_, rfl⟩
  rw [← hn] at hfc
  simp only [← hn] at hdc
  rw [← hn] at o1
  have HF : Hid (Calls Tryz.prog 30 #[.string s, .slice (some ⟨g, 0, none⟩) n cap] w1 fun r w' => Touch (fun _ => False) w1 w' ∧ filesPost w1.heap.size (filesGo s L []) r w') := hfc
  have HD : Hid (∀ w2 (t2 : Touch (fun _ => False) w1 w2), Calls Tryz.prog 31 #[.slice (some ⟨g, 0, none⟩) n cap] w2 fun r w' => ∃ v, r = .returned v ∧ w'.ownsRow (w2.heap.size + 1) 41 2 v (foldAll L []).length (fileV ((foldAll L []).map folOf)) ∧ (foldAll L []).length ≤ 60 * n ∧ Touch (fun _ => False) w2 w') := hdc
  have HN : Hid (n = L.length) := hn
  rw [← hn]
  have HP : Hid (∀ r w', (match filesGo s L [] with
   | .inl k => r = .returned (.tuple #[.slice none 0 0, .int .i64 (k : Int)])
   | .inr fs => ∃ v d, r = .returned (.tuple #[v, .int .i64 0]) ∧ d.Perm (fs ++ (foldAll L []).map folOf) ∧ d.Pairwise (fun a b => cmpP a.1.data.toList b.1.data.toList ≤ 0) ∧ filesV w.heap.size w' v d) → unpackPost w.heap.size s (.ok L) r w') := fun r w' h => h
  clear hfc hdc hn
  go_wp2_with fail
  refine HF.out.mono ?_
  rintro e w2 ⟨t2, h2⟩
  have t12 := t1.trans t2
  cases hfg : filesGo s L [] with
  | inl k =>
   rw [hfg] at h2
   obtain rfl := (show e = _ from h2)
   have hk := filesGo_err s L [] k hfg
   have hk' : ¬ (k : Int) = 0 := by omega
   rw [hfg] at HP
   have FIN : Hid (∀ w', unpackPost w.heap.size s (.ok L) (.returned (.tuple #[.slice none 0 0, .int .i64 (k : Int)])) w') := fun w' => HP.out _ w' rfl
   clear HP HD HF hfg hnm
   go_wp2
   go_ret2
   exact ⟨t12, FIN.out _⟩
  | inr fs =>
   rw [hfg] at h2 HP
   obtain ⟨v, rfl, ho2⟩ := (show ∃ v, e = .returned (.tuple #[v, .int .i64 0]) ∧ w2.ownsRow w1.heap.size 41 2 v fs.length (fileV fs) from h2)
   obtain ⟨fl, hfl⟩ : ∃ fl, fl = foldAll L [] := ⟨_, rfl⟩
   have HNM : Hid (∀ f ∈ fs ++ fl.map folOf, NamedOk f) := by rw [hfl]; exact hnm fs hfg
   have hfn := (filesGo_mem s L [] fs hfg).1
   have hfn' : fs.length ≤ n := by rw [HN.out]; simpa using hfn
   have HD2 := HD.out w2 t2
   have HD3 : Hid (Calls Tryz.prog 31 #[.slice (some ⟨g, 0, none⟩) n cap] w2 fun r w' => ∃ v, r = .returned v ∧ w'.ownsRow (w2.heap.size + 1) 41 2 v fl.length (fileV (fl.map folOf)) ∧ fl.length ≤ 60 * n ∧ Touch (fun _ => False) w2 w') := by
    rw [hfl]; exact HD2
   have FIN : Hid (∀ v d w', d.Perm (fs ++ fl.map folOf) → d.Pairwise (fun a b => cmpP a.1.data.toList b.1.data.toList ≤ 0) → filesV w.heap.size w' v d → unpackPost w.heap.size s (.ok L) (.returned (.tuple #[v, .int .i64 0])) w') := by
    intro v d w' p1 p2 p3
    refine HP.out _ w' ⟨v, d, rfl, ?_, p2, p3⟩
    rw [← hfl]; exact p1
   clear HD2 HD HP HF hfg hnm hfl hfn h2
   go_wp2_with fail
   refine HD3.out.mono ?_
   rintro e w3 ⟨v3, rfl, ho3, hfl3, t3⟩
   have t13 := t12.trans t3
   have ho2' := t3.owns ho2 (fun _ _ h => h)
   have hsz1 := t1.size
   have hsz2 := t2.size
   have hsz3 := t3.size
   have hl3 : (fl.map folOf).length = fl.length := List.length_map ..
   have HO3 : Hid (w3.ownsRow (w2.heap.size + 1) 41 2 v3 fl.length (fileV (fl.map folOf))) := ho3
   have HO2 : Hid (w3.ownsRow w1.heap.size 41 2 v fs.length (fileV fs)) := ho2'
   have b1 : fs.length + fl.length ≤ maxLen := by unfold maxLen; omega
   have b2 : (fs.length + fl.length) * 32 ≤ 140737488355328 := by omega
   have b3 : w1.heap.size ≤ w3.heap.size := by omega
   clear ho2 ho3 ho2' HD3
   go_wp2_with (at_builtin; refine wpList_append_two rfl _ _ 30 rfl w1.heap.size (w2.heap.size + 1) 41 i0 (.agg #[.string ⟨#[]⟩, .string ⟨#[]⟩]) 2 32 Tryz.underlying30 hi hz0 hz1 hz2 rfl (by decide) _ _ _ rfl HO2.out _ _ _ rfl HO3.out (fileV_one _) b1 b2 b3 ?_; intro v4 w4 ho4 hg4)
   have ho5 : w4.ownsRow w1.heap.size 41 2 v4 (fs ++ fl.map folOf).length (fileV (fs ++ fl.map folOf)) := by
    rw [List.length_append, hl3, fileV_app]; exact ho4
   have T4 : Touch (fun _ => False) w w4 := t13.grownNew hg4 (fun k hk => by have := (HO2.out.lt k hk).1; omega)
   have HS : Hid _ := sortByPath_c w4 w1.heap.size v4 _ ho5 HNM.out (by rw [List.length_append, hl3]; omega)
   clear ho4 ho5 hg4 HO2 HO3 HNM
   go_wp2_with fail
   refine (show Calls _ _ _ _ _ from HS.out).mono ?_
   rintro e w5 ⟨rfl, d, p1, p2, ⟨a5, cap5, rfl, o5, h5⟩, t5⟩
   have FV : Hid (filesV w.heap.size w5 (.slice a5 d.length cap5) d) := by
    refine ⟨a5, cap5, rfl, ?_, fun h => ?_⟩
    ·exact ⟨o5.1, o5.2.imp id (fun ⟨g, cap, cur, q1, q2, q3⟩ => ⟨g, cap, cur, q1, by omega, q3⟩)⟩
    obtain ⟨g5, q1, q2, q3, q4⟩ := h5 h
    exact ⟨g5, by omega, q2, q3, q4⟩
   have T5 : Touch (fun _ => False) w w5 := by
    refine ⟨t5.os.trans T4.os, t5.tape.trans T4.tape, t5.output.trans T4.output, Nat.le_trans T4.size t5.size, fun k hk _ => ?_⟩
    exact (t5.block k (Nat.lt_of_lt_of_le hk T4.size) (by omega)).trans (T4.block k hk (fun e => e))
   have FIN2 := FIN.out _ d w5 p1 p2 FV.out
   have FIN3 : Hid (unpackPost w.heap.size s (.ok L) (.returned (.tuple #[.slice a5 d.length cap5, .int .i64 0])) w5) := FIN2
   clear HS FIN FIN2 FV h5 o5 p1 p2
   go_wp2
   go_ret2
   exact ⟨T5, FIN3.out⟩
end Go.Proofs.YtmhlkdlcpicekaaGreatDoor
namespace Go.Proofs.YtmhlkdlcpicekaaGreatDoor
open Go.RowKit
abbrev Fil := ByteArray × List UInt8
def lessF (a b : ByteArray) : Bool := lexP (partsGo (bareL a) []) (partsGo (bareL b) [])
def putF : List Fil → Fil → List Fil
 | [], f => [f]
 | x :: l, f => if x.1 = f.1 then x :: l else if lessF f.1 x.1 then f :: x :: l else x :: putF l f
def putFolds (nm : List UInt8) : Nat → Nat → List Fil → List Fil
 | 0, _, out => out
 | f + 1, i, out => putFolds nm f (i + 1) (if nm[i]? = some 47 then putF out (folOf (nm.take (i + 1))) else out)
def refGo (s : ByteArray) : List Spanned → List Fil → Sum Nat (List Fil)
 | [], out => .inr out
 | x :: l, out => if folderB x.ent.name then refGo s l (putFolds x.ent.name.data.toList x.ent.name.size 0 out) else match dataOfE s x with
  | .inl k => .inl k
  | .inr d => refGo s l (putF (putFolds x.ent.name.data.toList x.ent.name.size 0 out) (x.ent.name, d))
@[reducible] def Srt (l : List Fil) : Prop := l.Pairwise fun a b => cmpP a.1.data.toList b.1.data.toList < 0
structure OrdOn (P : ByteArray → Prop) : Prop where
 less : ∀ a b, P a → P b → a ≠ b → lessF a b = decide (cmpP a.data.toList b.data.toList < 0)
 nul : ∀ a, P a → NoNul a.data.toList
theorem byte_ext {a b : ByteArray} (h : a.data.toList = b.data.toList) : a = b := by
 apply ByteArray.ext; exact Array.toList_inj.1 h
theorem OrdOn.tri {P : ByteArray → Prop} (h : OrdOn P) {a b : ByteArray} (ha : P a) (hb : P b) (hne : a ≠ b) (hn : ¬ cmpP a.data.toList b.data.toList < 0) : cmpP b.data.toList a.data.toList < 0 := by
 have h1 := cmpP_swap a.data.toList b.data.toList
 have h2 : cmpP a.data.toList b.data.toList ≠ 0 := fun e => hne (byte_ext (cmpP_zero _ _ (h.nul a ha) (h.nul b hb) e))
 omega
theorem putF_mem {P : ByteArray → Prop} (hP : OrdOn P) (f : Fil) (hf : P f.1) : ∀ l : List Fil, (∀ x ∈ l, P x.1) → Srt l → (∃ x ∈ l, x.1 = f.1) → putF l f = l
 | [], _, _, h => by obtain ⟨x, hx, _⟩ := h; cases hx
 | x :: l, hl, hs, h => by
  unfold putF
  by_cases e : x.1 = f.1
  ·rw [if_pos e]
  ·rw [if_neg e]
   obtain ⟨y, hy, hyf⟩ := h
   have hyl : y ∈ l := by
    rcases List.mem_cons.1 hy with rfl | hy
    ·exact absurd hyf e
    ·exact hy
   have hlt := (List.pairwise_cons.1 hs).1 y hyl
   rw [hyf] at hlt
   have hls : lessF f.1 x.1 = false := by
    rw [hP.less _ _ hf (hl x (List.mem_cons_self ..)) (fun h => e h.symm)]
    refine decide_eq_false (fun h => ?_)
    have := cmpP_swap x.1.data.toList f.1.data.toList
    omega
   rw [hls]
   simp only [Bool.false_eq_true, if_false]
   rw [putF_mem hP f hf l (fun x hx => hl x (List.mem_cons_of_mem _ hx)) (List.pairwise_cons.1 hs).2 ⟨y, hyl, hyf⟩]
theorem putF_new {P : ByteArray → Prop} (hP : OrdOn P) (f : Fil) (hf : P f.1) : ∀ l : List Fil, (∀ x ∈ l, P x.1) → Srt l → (∀ x ∈ l, x.1 ≠ f.1) → (putF l f).Perm (f :: l) ∧ Srt (putF l f)
 | [], _, _, _ => ⟨List.Perm.refl _, List.pairwise_singleton ..⟩
 | x :: l, hl, hs, h => by
  have hx := hl x (List.mem_cons_self ..)
  have hne := h x (List.mem_cons_self ..)
  have hs1 := (List.pairwise_cons.1 hs).1
  have hs2 := (List.pairwise_cons.1 hs).2
  unfold putF
  rw [if_neg hne, hP.less _ _ hf hx (fun e => hne e.symm)]
  by_cases hlt : cmpP f.1.data.toList x.1.data.toList < 0
  ·rw [decide_eq_true hlt]
   simp only [if_true]
   refine ⟨List.Perm.refl _, List.pairwise_cons.2 ⟨fun y hy => ?_, hs⟩⟩
   rcases List.mem_cons.1 hy with rfl | hy
   ·exact hlt
   ·exact cmpP_trans _ _ _ (hP.nul _ hf) (hP.nul _ hx) (hP.nul _ (hl y (List.mem_cons_of_mem _ hy))) hlt (hs1 y hy)
  ·rw [decide_eq_false hlt]
   simp only [Bool.false_eq_true, if_false]
   obtain ⟨i1, i2⟩ := putF_new hP f hf l (fun x hx => hl x (List.mem_cons_of_mem _ hx)) hs2 (fun x hx => h x (List.mem_cons_of_mem _ hx))
   refine ⟨(i1.cons x).trans (List.Perm.swap ..), List.pairwise_cons.2 ⟨fun y hy => ?_, i2⟩⟩
   rcases List.mem_cons.1 (i1.mem_iff.1 hy) with rfl | hy
   ·exact hP.tri hf hx (fun e => hne e.symm) hlt
   ·exact hs1 y hy
theorem sorted_one : ∀ (out d : List Fil), d.Perm out → Srt out → (d.Pairwise fun a b => cmpP a.1.data.toList b.1.data.toList ≤ 0) → d = out
 | [], d, h, _, _ => h.eq_nil
 | x :: o, [], h, _, _ => by have := h.length_eq; simp at this
 | x :: o, y :: e, h, h1, h2 => by
  have hx : x ∈ y :: e := h.mem_iff.2 (List.mem_cons_self ..)
  have hy : y ∈ x :: o := h.mem_iff.1 (List.mem_cons_self ..)
  have hxy : x = y := by
   rcases List.mem_cons.1 hx with h' | hx
   ·exact h'
   ·rcases List.mem_cons.1 hy with h' | hy
    ·exact h'.symm
    ·have a := (List.pairwise_cons.1 h1).1 y hy
     have b := (List.pairwise_cons.1 h2).1 x hx
     have c := cmpP_swap x.1.data.toList y.1.data.toList
     omega
  subst hxy
  rw [sorted_one o e ((List.perm_cons x).1 h) (List.pairwise_cons.1 h1).2 (List.pairwise_cons.1 h2).2]
theorem parts_apart : ∀ (t p : List UInt8), (∀ x ∈ partsGo t p, x ≠ []) → ∀ k, (t[k]? = some 47 ∨ k = t.length) → (k = 0 → p ≠ []) ∧ ∀ j, k = j + 1 → t[j]? ≠ some 47
 | [], p, h, k, hk => by
  have hk0 : k = 0 := by rcases hk with hk | hk <;> simp at hk; exact hk
  subst hk0
  exact ⟨fun _ => h p (by simp [partsGo]), fun j hj => by omega⟩
 | c :: t, p, h, k, hk => by
  by_cases hc : c = 47
  ·rw [partsGo, if_pos hc] at h
   cases k with
   | zero => exact ⟨fun _ => h p (List.mem_cons_self ..), fun j hj => by omega⟩
   | succ k =>
    have ih := parts_apart t [] (fun x hx => h x (List.mem_cons_of_mem _ hx)) k (by rcases hk with hk | hk <;> simp at hk <;> simp [hk])
    refine ⟨fun e => by omega, fun j hj => ?_⟩
    obtain rfl : k = j := by omega
    cases k with
    | zero => exact absurd rfl (ih.1 rfl)
    | succ k => rw [List.getElem?_cons_succ]; exact ih.2 k rfl
  ·rw [partsGo, if_neg hc] at h
   cases k with
   | zero => rcases hk with hk | hk <;> simp at hk; exact absurd hk hc
   | succ k =>
    have ih := parts_apart t (p ++ [c]) h k (by rcases hk with hk | hk <;> simp at hk <;> simp [hk])
    refine ⟨fun e => by omega, fun j hj => ?_⟩
    obtain rfl : k = j := by omega
    cases k with
    | zero => simp; exact hc
    | succ k => rw [List.getElem?_cons_succ]; exact ih.2 k rfl
end Go.Proofs.YtmhlkdlcpicekaaGreatDoor
namespace Go.Proofs.YtmhlkdlcpicekaaGreatDoor
open Go.RowKit Go.Maps
def filK (B : List UInt8 → List UInt8) (k : List UInt8) : Fil := (⟨k.toArray⟩, B k)
theorem told_files {files d : List Fil} {ss : List (List UInt8)} {B : List UInt8 → List UInt8} (hnd : (files.map fun x => x.1.data.toList).Nodup) (hB : ∀ x ∈ files, x.2 = B x.1.data.toList) (hss : ss.Nodup) (hm : ∀ k, k ∈ ss ↔ k ∈ files.map fun x => x.1.data.toList) (hp : d.Perm (ss.map (filK B))) (hs : Srt files) (ho : d.Pairwise fun a b => cmpP a.1.data.toList b.1.data.toList ≤ 0) : d = files := by
 refine sorted_one files d (hp.trans ?_) hs ho
 have h1 : ss.Perm (files.map fun x => x.1.data.toList) := (List.perm_ext_iff_of_nodup hss hnd).2 hm
 refine (h1.map (filK B)).trans ?_
 rw [List.map_map]
 refine List.Perm.of_eq ?_
 conv => rhs; rw [← List.map_id files]
 refine List.map_congr_left fun x hx => ?_
 show filK B x.1.data.toList = x
 unfold filK
 rw [← hB x hx]
theorem invKS (key : Value) (kl : Lit) (h : keyOf Tryz.prog 9 key = some kl) : ∃ x : List UInt8, key = Value.string ⟨x.toArray⟩ := by
 obtain ⟨x, hx, _⟩ := Maps.keyOf_str Tryz.underlying9 h
 exact ⟨x, hx⟩
theorem ranges_row {H : Type} {P : Program} {k : TypeId} {R : Value → Option (DataW H × List MemPlace)} {w : World} {b r n g : Nat} {D : DataW H} {left : Lit → Bool} {cnt : Nat} {cs : Array Value} {t : TypeId} {z : Nat × Nat} (h : w.ranges P k R b r n D left cnt) (hg : w.heap[g]? = some (.cells cs t z)) : ¬ g = r ∧ ¬ g = b := by
 obtain ⟨es, clock, since, seen, c0, hb, _, _, _, hr, _⟩ := h
 refine ⟨fun e => ?_, fun e => ?_⟩
 ·rw [e, hr] at hg; cases hg
 ·rw [e, hb] at hg; cases hg
theorem files_c (w : World) (b n : Nat) (f : List UInt8 → Option Value) (B : List UInt8 → List UInt8) (files : List Fil) (hb : RawMap w b n f) (hn : n ≤ 1000000000000) (hkeys : ∀ key, (f key).isSome = true ↔ key ∈ files.map fun x => x.1.data.toList) (hBv : ∀ key v, f key = some v → w.ownsRow 0 5 1 v (B key).length (byteV (B key))) (hB : ∀ x ∈ files, x.2 = B x.1.data.toList) (hnd : (files.map fun x => x.1.data.toList).Nodup) (hs : Srt files) (hok : ∀ x ∈ files, NamedOk x) (hlen : files.length ≤ 1000000000000) :
  Calls Tryz.prog 130 #[.map (some b)] w fun r w' => ∃ v, r = .returned v ∧ w'.ownsRow w.heap.size 41 2 v files.length (fileV files) ∧ Touch (fun _ => False) w w' := by
 obtain ⟨D, ho, hh, hv⟩ := hb
 obtain ⟨i0, hi, hz0, hz1, hz2⟩ := info_parts Tryz.infoFile
 have hsz := ho.size_le
 have hblt := ho.lt
 have hln : ∀ ty, (Builtin.len_ #[86] ty #[.map (some b)]).run Tryz.prog w = .ok (.int .i64 (Maps.size D)) w := fun ty => ho.len Tryz.underlying86 ty
 obtain ⟨N, hN⟩ : ∃ N, N = Maps.size D := ⟨_, rfl⟩
 rw [← hN] at hln hsz
 have hby : i0.bytes * N ≤ 281474976710656 := by rw [hz2]; omega
 have hnm : N ≤ maxLen := by unfold maxLen; omega
 have HK : Hid (∀ key, (f key).isSome = true ↔ key ∈ files.map fun x => x.1.data.toList) := hkeys
 have HV : Hid (∀ key v, f key = some v → w.ownsRow 0 5 1 v (B key).length (byteV (B key))) := hBv
 have HH : Hid (∀ key, Maps.has D (.string key) = (f key).isSome) := hh
 have HA : Hid (∀ key, D.atKey (.string key) (.held nilS) = .held ((f key).getD nilS)) := hv
 have HE : Hid (∀ (d : List Fil) (ss : List (List UInt8)), ss.Nodup → (∀ k, k ∈ ss ↔ k ∈ files.map fun x => x.1.data.toList) → d.Perm (ss.map (filK B)) → (d.Pairwise fun a b => cmpP a.1.data.toList b.1.data.toList ≤ 0) → d = files) := fun d ss h1 h2 h3 h4 => told_files hnd hB h1 h2 h3 hs h4
 have HO : Hid (∀ x ∈ files, NamedOk x) := hok
 have HL : Hid ((files.map fun x => x.1.data.toList).Nodup ∧ files.length ≤ 1000000000000) := ⟨hnd, hlen⟩
 have HB : Hid (∀ x ∈ files, x.2 = B x.1.data.toList) := hB
 have HN : Hid (N = Maps.size D) := hN
 clear hkeys hBv hh hv hB hnd hs hok hlen hN
 go_enter Tryz.func130, Tryz.ntmps130
 go_wp2_with (first | (at_make; refine wpList_make_own _ rfl _ _ 30 rfl w.heap.size 41 i0 (.agg #[.string ⟨#[]⟩, .string ⟨#[]⟩]) 2 Tryz.underlying30 hi hz0 hz1 .i64 .i64 _ N rfl rfl rfl hby hnm (Nat.le_refl _) ?_; intro w0 ho0 hg0; have hD0 := ho.kept hg0 (by simp)) | (at_range; refine wpList_range_own _ rfl _ 86 rfl 9 114 strK Tryz.underlying86 rawM b n D rfl hD0 ?_; intro w1 hrg hg1 hs1))
 go_frame
 obtain ⟨r, hr⟩ : ∃ r, r = w0.heap.size := ⟨_, rfl⟩
 rw [← hr] at hrg hs1 ⊢
 have T0 : Touch (fun _ => False) w w0 := (Touch.refl _ w).grown hg0 (fun k hk => by cases hk)
 have t1 : Touch (fun _ => False) w0 w1 := (Touch.refl _ w0).grown hg1 (fun k hk => by cases hk)
 have o1 := t1.owns ho0 (fun _ _ e => e)
 have hrl : w.heap.size ≤ r := by rw [hr]; exact T0.size
 have C0 : Hid (Collected D (Maps.has D) []) := Collected.start D
 have T1 := T0.trans t1
 rw [← HN.out] at hrg
 clear hr t1 T0 hs1 hg0 hg1 ho0 hD0 hln
 go_loopw [3] (fun fv wr => ∃ (left : Lit → Bool) (cnt : Nat) (ss : List (List UInt8)), wr.ranges Tryz.prog 9 rawM b r n D left cnt ∧ Hid (Collected D left ss) ∧ ss.length + cnt ≤ N ∧ wr.ownsRow w.heap.size 41 2 fv ss.length (fileV (ss.map (filK B))) ∧ Touch (fun _ => False) w wr) (fun _ wr => wr.rangeLeft b r)
 case atStart => exact ⟨_, _, [], hrg, C0, by simp, o1, T1⟩
 case round =>
  obtain ⟨left, cnt, ss, hrg, HC, hcn, hro, T⟩ := hrel
  obtain ⟨va, vc, hv⟩ := owned_form hro
  subst hv
  clear T1 o1 C0
  go_wp2_with (at_next; refine wpList_next_ranges _ rfl _ rfl 9 strK rawM (fun x : List UInt8 => Value.string ⟨x.toArray⟩) (fun v : Value => v) invKS (fun v y _ => ⟨v, rfl⟩) b r n D left cnt rfl hrg ?_ ?_)
  ·intro hc0 hl0
   have HM : Hid (∀ k, k ∈ ss ↔ k ∈ files.map fun x => x.1.data.toList) := fun k => by
    rw [HC.out.2 k, hl0, HH.out, HK.out]
    simp
   have HSC : Hid (∀ W, W = wr → Calls Tryz.prog 32 #[.slice va ss.length vc] W fun e w' => e = .returned (.tuple #[]) ∧ w'.ownsRow w.heap.size 41 2 (.slice va ss.length vc) files.length (fileV files) ∧ Touch (fun b => w.heap.size ≤ b) W w') := fun W e => by
    subst e
    refine (sortByPath_c W w.heap.size _ (ss.map (filK B)) (by rw [List.length_map]; exact hro) (fun x hx => ?_) (by rw [List.length_map]; omega)).mono ?_
    ·obtain ⟨k, hk, rfl⟩ := List.mem_map.1 hx
     obtain ⟨y, hy, hyk⟩ := List.mem_map.1 ((HM.out k).1 hk)
     have hyy : filK B k = y := by
      unfold filK
      rw [← hyk, ← HB.out y hy]
     rw [hyy]
     exact HO.out y hy
    ·rintro e w' ⟨rfl, d, h1, h2, ⟨a9, c9, h3, h4, _⟩, t9⟩
     have hd := HE.out d ss HC.out.1 HM.out h1 h2
     subst hd
     exact ⟨rfl, h4, t9⟩
   clear hrg hro
   go_wp2_with (go_at_call 32; refine (HSC.out _ rfl).mono ?_; rintro e w3 ⟨rfl, ho3, t3⟩)
   go_ret
   exact ⟨_, rfl, ho3, ((T.wide (fun k e => e.elim)).trans t3).fresh⟩
  ·intro x v kl y ps w2 cnt2 hkey hlk hRv hat hrg2 hlt hg2 hs2 hen
   obtain ⟨x', hx1, rfl, hx3⟩ := Maps.keyOf_str Tryz.underlying9 hkey
   have hxx : x' = x := by
    have : Value.string ⟨x.toArray⟩ = Value.string ⟨x'.toArray⟩ := hx1
    simp only [Value.string.injEq, ByteArray.mk.injEq] at this
    simpa using this.symm
   subst hxx
   have hy : y = .held v := by
    unfold rawM at hRv
    exact (congrArg Prod.fst (Option.some.inj hRv)).symm
   subst hy
   have hfx : f x' = some v := by
    have e1 := hat (.held nilS)
    rw [HA.out] at e1
    have e2 := has_true_of_atKey hat
    rw [HH.out] at e2
    cases hx : f x' with
    | none => rw [hx] at e2; cases e2
    | some u => rw [hx] at e1; cases e1; rfl
   have T2 := T.grownNew hg2 (fun k hk => by cases hk; exact hrl)
   have hrow := T2.owns (HV.out x' v hfx) (fun _ _ e => e)
   obtain ⟨ua, uc, hu⟩ := owned_form hrow
   subst hu
   have cv := out_str hrow rfl
   have tg : Touch (fun k => k = r) wr w2 := (Touch.refl (fun k => k = r) wr).grown hg2 (fun k hk => by cases hk; rfl)
   have hro2 := tg.owns hro (fun k hk e => by
    obtain ⟨g1, g2, g3⟩ := owns_row hro hk
    exact (ranges_row hrg g3).1 e)
   have HC2 : Hid (Collected D (fun z => left z && !z.sameKey (.string x')) (ss ++ [x'])) := HC.out.step hlk hat
   have q1 : ss.length + 1 ≤ maxLen := by unfold maxLen; omega
   have q2 : (ss.length + 1) * 32 ≤ 140737488355328 := by omega
   have hw2 := T2.size
   obtain ⟨DX, hDX⟩ : ∃ X : ByteArray, X = ⟨(B x').toArray⟩ := ⟨_, rfl⟩
   obtain ⟨KX, hKX⟩ : ∃ X : ByteArray, X = ⟨x'.toArray⟩ := ⟨_, rfl⟩
   have HFV : Hid (fileV ((ss ++ [x']).map (filK B)) = fileV (ss.map (filK B)) ++ [.string KX, .string DX]) := by
    unfold Hid
    rw [List.map_append, List.map_cons, List.map_nil, fileV_snoc, hKX, hDX]
    rfl
   rw [← hDX] at cv
   try dsimp only at hen ⊢
   rw [← hKX] at hen ⊢
   clear hDX hKX hx1 hkey hat hRv hfx hrow hs2
   go_wp2_with (at_builtin; refine wpList_append_own _ rfl _ _ 30 rfl w.heap.size 41 i0 (.agg #[.string ⟨#[]⟩, .string ⟨#[]⟩]) 2 32 Tryz.underlying30 hi hz0 hz1 hz2 rfl (by decide) _ _ _ rfl (hro2.alloc _) ⟨_, 0, none⟩ 1 1 [.string KX, .string DX] rfl rfl (cell_two_new _ _ _ _) (by simp [Value.oneCell']) q1 q2 (by simp; omega) ?_; intro v' w3 hown' hgrow hnil; obtain ⟨va', vc', hv'⟩ := owned_form hown'; subst hv')
   have T3 := (T2.alloc (Obj.cells #[.string KX, .string DX] 41)).grownNew hgrow (fun j hj => (hro2.lt j hj).1)
   have hrg3 := (hrg2.alloc (Obj.cells #[.string KX, .string DX] 41)).kept hgrow (fun e => by
    obtain ⟨g1, g2, g3⟩ := owns_row hro2 e.symm
    exact (ranges_row hrg2 g3).2 rfl) (fun e => by
    obtain ⟨g1, g2, g3⟩ := owns_row hro2 e.symm
    exact (ranges_row hrg2 g3).1 rfl)
   go_roundw
   case rel => exact ⟨_, cnt2, ss ++ [x'], hrg3, HC2, by rw [List.length_append, List.length_singleton]; omega, by rw [HFV.out, List.length_append, List.length_singleton]; exact hown', T3⟩
   case measure => rw [hrg3.left_eq, hrg.left_eq]; exact hlt
end Go.Proofs.YtmhlkdlcpicekaaGreatDoor
namespace Go.Proofs.YtmhlkdlcpicekaaGreatDoor
open Go.RowKit Go.Maps
structure Lies (w : World) (b n : Nat) (f : List UInt8 → Option Value) (B : List UInt8 → List UInt8) (files : List Fil) : Prop where
 map : RawMap w b n f
 keys : ∀ key, (f key).isSome = true ↔ key ∈ files.map fun x => x.1.data.toList
 rows : ∀ key v, f key = some v → w.ownsRow 0 5 1 v (B key).length (byteV (B key))
 val : ∀ x ∈ files, x.2 = B x.1.data.toList
theorem Lies.keep {F : Nat → Prop} {w w' : World} {b n : Nat} {f : List UInt8 → Option Value} {B : List UInt8 → List UInt8} {files : List Fil} (h : Lies w b n f B files) (t : Touch F w w') (hb : ¬ F b) (hr : ∀ k cs z, F k → w.heap[k]? = some (.cells cs 5 z) → False) : Lies w' b n f B files :=
 ⟨h.map.keep t hb, h.keys, fun key v hv => t.owns (h.rows key v hv) (fun k hk e => by
  obtain ⟨g1, g2, g3⟩ := owns_row (h.rows key v hv) hk
  exact hr k g1 g2 e g3), h.val⟩
theorem owns_low {w : World} {b c : Nat} {e : TypeId} {s n : Nat} {v : Value} {xs : List Value} (h : w.ownsRow b e s v n xs) (hc : c ≤ b) : w.ownsRow c e s v n xs := by
 obtain ⟨h1, h2 | ⟨g, cap, cur, e, hb, hrest⟩⟩ := h
 ·exact ⟨h1, .inl h2⟩
 ·exact ⟨h1, .inr ⟨g, cap, cur, e, Nat.le_trans hc hb, hrest⟩⟩
theorem do_show (w : World) (S m b n ns : Nat) (f fs : List UInt8 → Option Value) (B : List UInt8 → List UInt8) (files : List Fil) (c : CutS) (np : Bool) (folder : ByteArray) (h : SB w S 1 (some m) (some b) c np) (hm : RawMap w m ns fs) (hL : Lies w b n f B files) (hmb : m ≠ b) (hn : n ≤ 1000000000000) (hns : ns < maxLen) (hp : passB c = true) (hfo : folder.size ≤ maxLen)
  (hnd : (files.map fun x => x.1.data.toList).Nodup) (hs : Srt files) (hok : ∀ x ∈ files, NamedOk x) (hlen : files.length ≤ 1000000000000) :
  Calls Tryz.prog 76 #[.pointer (some ⟨S, 0, none⟩), .agg #[.int .i64 3, .string folder, .string ⟨#[]⟩]] w fun r w' => r = .returned (.bool true) ∧ SB w' S 1 (some m) (some b) (passC c) np ∧ ∃ v, RawMap w' m (ns + 1) (updM fs folder.data.toList (some v)) ∧ w'.ownsRow w.heap.size 41 2 v files.length (fileV files) ∧ RawMap w' b 0 (fun _ => none) ∧ Touch (fun k => k = S ∨ k = m ∨ k = b) w w' := by
 have ta : Touch (fun _ => False) w (w.alloc (.cells #[.int .i64 3, .string folder, .string ⟨#[]⟩] 161)) := (Touch.refl _ _).alloc _
 have h1 := h.keep ta (fun e => e)
 have hm1 := hm.keep ta (fun e => e)
 have hL1 := hL.keep ta (fun e => e) (fun _ _ _ e => e.elim)
 have hne := hL.map.ne_row h.hp
 have hnm := hm.ne_row h.hp
 have hlt := h.lt
 have bx : (w.alloc (.cells #[.int .i64 3, .string folder, .string ⟨#[]⟩] 161)).heap[w.heap.size]? = some (.cells #[.int .i64 3, .string folder, .string ⟨#[]⟩] 161 (0, 0)) := heap_alloc_new w _
 have x0 := row_cell bx 0
 have x1 := row_cell bx 1
 have sne : ¬ w.heap.size = S := by omega
 have HS0 : Hid (∀ k cs z, k = S → w.heap[k]? = some (.cells cs 5 z) → False) := fun k cs z e hx => by subst e; rw [h.hp] at hx; cases hx
 have HX : Hid (ns < maxLen ∧ folder.size ≤ maxLen ∧ n ≤ 1000000000000) := ⟨hns, hfo, hn⟩
 have HFC : Hid (∀ W, Lies W b n f B files → Calls Tryz.prog 130 #[.map (some b)] W fun r w' => ∃ v, r = .returned v ∧ w'.ownsRow W.heap.size 41 2 v files.length (fileV files) ∧ Touch (fun _ => False) W w') := fun W hl => files_c W b n f B files hl.map HX.out.2.2 hl.keys hl.rows hl.val hnd hs hok hlen
 have hpS : (w.alloc (.cells #[.int .i64 3, .string folder, .string ⟨#[]⟩] 161)).heap[S]? = w.heap[S]? := ta.block S hlt (fun e => e)
 clear bx hnd hs hok hlen hn hns hfo
 go_enter Tryz.func76, Tryz.ntmps76
 go_wp2_with (go_at_call 129; refine (passes_c _ S 1 (some m) (some b) c np h1).mono ?_; rintro e w2 ⟨rfl, h2, t2⟩; rw [hp]; have y0 := t2.at x0 sne; have y1 := t2.at x1 sne; have hm2 := hm1.keep t2 hnm; obtain ⟨d0, d2, d3, d4, d5, d6, d7⟩ := h2.cs)
 have hL2 := hL1.keep t2 hne (fun k cs z e hx => HS0.out k cs z e (by rw [← hx, e, hpS]))
 have hsz := t2.size
 rw [World.size_alloc] at hsz
 have CB : w2.drew.cell? ⟨S, 2, none⟩ = some (.map (some m)) ∧ w2.drew.cell? ⟨w.heap.size, 1, none⟩ = some (.string folder) ∧ w2.drew.cell? ⟨S, 3, none⟩ = some (.map (some b)) := ⟨d2, y1, d3⟩
 go_upto_region 10 with fail
 go_cut [] from 41 to 51 (fun wc => ∃ v, SB wc S 1 (some m) (some b) (passC c) np ∧ RawMap wc m (ns + 1) (updM fs folder.data.toList (some v)) ∧ wc.ownsRow w.heap.size 41 2 v files.length (fileV files) ∧ (∃ k f', RawMap wc b k f') ∧ Touch (fun k => k = S ∨ k = m) w wc)
 case first =>
  refine wp_region_until (fun X => X.cell? ⟨S, 2, none⟩ = some (.map (some m)) ∧ X.cell? ⟨w.heap.size, 1, none⟩ = some (.string folder) ∧ X.cell? ⟨S, 3, none⟩ = some (.map (some b))) 11 (by kernel_rfl) ?_
  refine wpAnyU_take (i := 0) (v := ?va0) rfl (by kernel_rfl) (by kernel_rfl) (by kernel_rfl) (by kernel_rfl) (by kernel_rfl) (fun _ _ _ h => h) (Or.inl ⟨by rfl, ?hya0⟩) CB ?resta0
  case hya0 => ((intro wx hSw; (try dsimp only at hSw); (try obtain ⟨hs1, hs2, hs3⟩ := hSw); go_simp) <;> (with_reducible rfl))
  try simp only [Act.put, List.setIfInBounds_toArray, List.set_cons_zero, List.set_cons_succ]
  refine wpAnyU_take (i := 1) (v := ?va1) rfl (by kernel_rfl) (by kernel_rfl) (by kernel_rfl) (by kernel_rfl) (by kernel_rfl) (fun _ _ _ h => h) (Or.inl ⟨by rfl, ?hya1⟩) CB ?resta1
  case hya1 => ((intro wx hSw; (try dsimp only at hSw); (try obtain ⟨hs1, hs2, hs3⟩ := hSw); go_simp) <;> (with_reducible rfl))
  try simp only [Act.put, List.setIfInBounds_toArray, List.set_cons_zero, List.set_cons_succ]
  refine wpAnyU_take (i := 2) (v := ?va2) rfl (by kernel_rfl) (by kernel_rfl) (by kernel_rfl) (by kernel_rfl) (by kernel_rfl) (fun _ _ _ h => h) (Or.inl ⟨by rfl, ?hya2⟩) CB ?resta2
  case hya2 => ((intro wx hSw; (try dsimp only at hSw); (try obtain ⟨hs1, hs2, hs3⟩ := hSw); go_simp) <;> (with_reducible rfl))
  try simp only [Act.put, List.setIfInBounds_toArray, List.set_cons_zero, List.set_cons_succ]
  refine wpAnyU_take (i := 3) (v := ?va3) rfl (by kernel_rfl) (by kernel_rfl) (by kernel_rfl) (by kernel_rfl) (by kernel_rfl) (fun _ _ _ h => h) (Or.inl ⟨by rfl, ?hya3⟩) CB ?resta3
  case hya3 => ((intro wx hSw; (try dsimp only at hSw); (try obtain ⟨hs1, hs2, hs3⟩ := hSw); go_simp) <;> (with_reducible rfl))
  try simp only [Act.put, List.setIfInBounds_toArray, List.set_cons_zero, List.set_cons_succ]
  refine wpAnyU_take (i := 4) (v := ?va4) rfl (by kernel_rfl) (by kernel_rfl) (by kernel_rfl) (by kernel_rfl) (by kernel_rfl) (fun _ _ _ h => h) (Or.inl ⟨by rfl, ?hya4⟩) CB ?resta4
  case hya4 => ((intro wx hSw; (try dsimp only at hSw); (try obtain ⟨hs1, hs2, hs3⟩ := hSw); go_simp) <;> (with_reducible rfl))
  try simp only [Act.put, List.setIfInBounds_toArray, List.set_cons_zero, List.set_cons_succ]
  refine wpAnyU_take (i := 5) (v := ?va5) rfl (by kernel_rfl) (by kernel_rfl) (by kernel_rfl) (by kernel_rfl) (by kernel_rfl) (fun _ _ _ h => h) (Or.inl ⟨by rfl, ?hya5⟩) CB ?resta5
  case hya5 => ((intro wx hSw; (try dsimp only at hSw); (try obtain ⟨hs1, hs2, hs3⟩ := hSw); go_simp) <;> (with_reducible rfl))
  try simp only [Act.put, List.setIfInBounds_toArray, List.set_cons_zero, List.set_cons_succ]
  refine wpAnyU_take (i := 6) (v := ?va6) rfl (by kernel_rfl) (by kernel_rfl) (by kernel_rfl) (by kernel_rfl) (by kernel_rfl) (fun _ _ _ h => h) (Or.inl ⟨by rfl, ?hya6⟩) CB ?resta6
  case hya6 => ((intro wx hSw; (try dsimp only at hSw); (try obtain ⟨hs1, hs2, hs3⟩ := hSw); go_simp) <;> (with_reducible rfl))
  try simp only [Act.put, List.setIfInBounds_toArray, List.set_cons_zero, List.set_cons_succ]
  refine wpAnyU_take (i := 7) (v := ?va7) rfl (by kernel_rfl) (by kernel_rfl) (by kernel_rfl) (by kernel_rfl) (by kernel_rfl) (fun _ _ _ h => h) (Or.inl ⟨by rfl, ?hya7⟩) CB ?resta7
  case hya7 => ((intro wx hSw; (try dsimp only at hSw); (try obtain ⟨hs1, hs2, hs3⟩ := hSw); go_simp) <;> (with_reducible rfl))
  try simp only [Act.put, List.setIfInBounds_toArray, List.set_cons_zero, List.set_cons_succ]
  refine wpAnyU_take (i := 8) (v := ?va8) rfl (by kernel_rfl) (by kernel_rfl) (by kernel_rfl) (by kernel_rfl) (by kernel_rfl) (fun _ _ _ h => h) (Or.inl ⟨by rfl, ?hya8⟩) CB ?resta8
  case hya8 => ((intro wx hSw; (try dsimp only at hSw); (try obtain ⟨hs1, hs2, hs3⟩ := hSw); go_simp) <;> (with_reducible rfl))
  try simp only [Act.put, List.setIfInBounds_toArray, List.set_cons_zero, List.set_cons_succ]
  refine wpAnyU_take (i := 9) (v := ?va9) rfl (by kernel_rfl) (by kernel_rfl) (by kernel_rfl) (by kernel_rfl) (by kernel_rfl) (fun _ _ _ h => h) (Or.inl ⟨by rfl, ?hya9⟩) CB ?resta9
  case hya9 => ((intro wx hSw; (try dsimp only at hSw); (try obtain ⟨hs1, hs2, hs3⟩ := hSw); go_simp) <;> (with_reducible rfl))
  try simp only [Act.put, List.setIfInBounds_toArray, List.set_cons_zero, List.set_cons_succ]
  refine wpAnyU_one (i := 10) (by kernel_rfl) rfl (fun K hK => ?_)
  go_simp
  refine (HFC.out w2.drew ⟨hL2.map, hL2.keys, hL2.rows, hL2.val⟩).mono ?_
  rintro e w4 ⟨v, rfl, ho4, t4⟩
  replace CB : w4.cell? ⟨S, 2, none⟩ = some (.map (some m)) ∧ w4.cell? ⟨w.heap.size, 1, none⟩ = some (.string folder) ∧ w4.cell? ⟨S, 3, none⟩ = some (.map (some b)) := ⟨t4.at CB.1 (fun e => e), t4.at CB.2.1 (fun e => e), t4.at CB.2.2 (fun e => e)⟩
  go_wp2_with fail
  refine hK.out _ _ (fun _ => CB) ?_
  clear hK K
  try simp only [Act.put, List.setIfInBounds_toArray, List.set_cons_zero, List.set_cons_succ]
  have hm4 : RawMap w4 m ns fs := hm2.drewM.keep t4 (fun e => e)
  have h4 := h2.drewS.keep t4 (fun e => e)
  have hb4 : RawMap w4 b n f := hL2.map.drewM.keep t4 (fun e => e)
  obtain ⟨w5, hput, hm5, hg5⟩ := hm4.put Tryz.underlying84 folder HX.out.2.1 HX.out.1 v
  refine wpAnyU_one (i := 11) (by kernel_rfl) rfl (fun K hK => ?_)
  go_simp
  refine hK.out _ _ (fun h => absurd rfl h) ?_
  clear hK K
  try simp only [Act.put, List.setIfInBounds_toArray, List.set_cons_zero, List.set_cons_succ]
  refine wpAnyU_done (by kernel_rfl) ?_ _
  have t5 := Touch.turned hg5
  go_wp2_with fail
  go_meet
  case rel => exact ⟨v, h4.keep t5 (fun e => hnm e.symm), hm5, t5.owns (owns_low ho4 (by show w.heap.size ≤ w2.heap.size; omega)) (fun k hk e => by
   subst e
   obtain ⟨g1, g2, g3⟩ := owns_row ho4 hk
   exact hm4.ne_row g3 rfl), ⟨_, _, hb4.keep t5 (fun e => hmb e.symm)⟩, (((ta.wide (fun k e => e.elim)).trans (t2.wide (fun k e => Or.inl e))).drew.trans (t4.wide (fun k e => e.elim))).trans (t5.wide (fun k e => Or.inr e))⟩
 case rest =>
  obtain ⟨v, h5, hm5, ho5, ⟨nb, fb, hb5⟩, t5⟩ := hcut
  obtain ⟨w6, hcl, hb6, hg6⟩ := hb5.clear Tryz.underlying86 0
  have t6 := Touch.turned hg6
  obtain ⟨e0, e2, e3, e4, e5, e6, e7⟩ := h5.cs
  clear CB d0 d2 d3 d4 d5 d6 d7
  go_wp2
  go_ret
  exact ⟨rfl, h5.keep t6 (fun e => hne e.symm), v, hm5.keep t6 hmb, t6.owns ho5 (fun k hk e => by
   subst e
   obtain ⟨g1, g2, g3⟩ := owns_row ho5 hk
   exact hb5.ne_row g3 rfl), hb6, (t5.wide (fun k e => e.elim Or.inl (fun e => Or.inr (Or.inl e)))).trans (t6.wide (fun k e => Or.inr (Or.inr e)))⟩
end Go.Proofs.YtmhlkdlcpicekaaGreatDoor
namespace Go.Proofs.YtmhlkdlcpicekaaGreatDoor
open Go.RowKit Go.Maps
theorem takeC_add {c d : CutS} {a : Nat} (h : takeC c a = some d) (b : Nat) : takeC c (a + b) = takeC d b ∧ cutF d = cutF c := by
 rcases c with _ | ⟨n, f⟩
 ·simp only [takeC, Option.some.injEq] at h
  subst h
  exact ⟨rfl, rfl⟩
 ·unfold takeC at h
  simp only at h
  split at h
  ·rename_i hk
   cases h
   refine ⟨?_, rfl⟩
   unfold takeC
   simp only
   by_cases hb : a + b ≤ n
   ·rw [if_pos hb, if_pos (by omega), Nat.sub_sub]
   ·rw [if_neg hb, if_neg (by omega)]
  ·cases h
theorem takeC_none {c : CutS} {a : Nat} (h : takeC c a = none) (b : Nat) : takeC c (a + b) = none := by
 rcases c with _ | ⟨n, f⟩
 ·cases h
 ·unfold takeC at h ⊢
  simp only at h ⊢
  split at h
  ·cases h
  ·rw [if_neg (by omega)]
theorem exB : ∀ (l : List Fil), (l.map fun x => x.1.data.toList).Nodup → ∃ B : List UInt8 → List UInt8, ∀ x ∈ l, x.2 = B x.1.data.toList
 | [], _ => ⟨fun _ => [], fun x hx => by cases hx⟩
 | y :: l, h => by
  rw [List.map_cons, List.nodup_cons] at h
  obtain ⟨B, hB⟩ := exB l h.2
  refine ⟨fun k => if k = y.1.data.toList then y.2 else B k, fun x hx => ?_⟩
  rcases List.mem_cons.1 hx with rfl | hx
  ·simp
  ·have : ¬ x.1.data.toList = y.1.data.toList := fun e => h.1 (e ▸ List.mem_map.2 ⟨x, hx, rfl⟩)
   simp only [if_neg this]
   exact hB x hx
def datOf (x : Fil) : ByteArray := ⟨x.2.toArray⟩
theorem datOf_list (x : Fil) : (datOf x).data.toList = x.2 := rfl
theorem datOf_size (x : Fil) : (datOf x).size = x.2.length := by show x.2.toArray.size = _; simp
def stepsTo (files : List Fil) : Nat := (files.map fun x => stepsOf x.1 (datOf x)).sum
theorem stepsTo_take (files : List Fil) (k : Nat) (h : k < files.length) : stepsTo (files.take (k + 1)) = stepsTo (files.take k) + stepsOf files[k].1 (datOf files[k]) := by
 unfold stepsTo
 rw [List.take_succ_eq_append_getElem h, List.map_append, List.sum_append]
 simp
structure FilesOk (files : List Fil) : Prop where
 srt : Srt files
 nd : (files.map fun x => x.1.data.toList).Nodup
 ok : ∀ x ∈ files, NamedOk x
 fol : ∀ x ∈ files, folderB x.1 = true → x.2 = []
 dat : ∀ x ∈ files, x.2.length ≤ 140737488355328
 len : files.length ≤ 100000000000
theorem Lies.nil {w : World} {b n : Nat} {B : List UInt8 → List UInt8} (h : RawMap w b n (fun _ => none)) : Lies w b n (fun _ => none) B [] :=
 ⟨h, fun key => (by simp), fun key v hv => (by cases hv), fun x hx => (by cases hx)⟩
theorem Lies.more {w w' : World} {S b n lim : Nat} {f : List UInt8 → Option Value} {B : List UInt8 → List UInt8} {files : List Fil} {x : Fil} {v : Value} {sh : Option Nat} {c : CutS} {np : Bool} (h : Lies w b n f B files) (hS : SB w S 1 sh (some b) c np) (t : Touch (fun k => k = S ∨ k = b ∨ lim ≤ k) w w') (hl : w.heap.size ≤ lim)
  (hm : RawMap w' b (n + 1) (updM f x.1.data.toList (some v))) (ho : w'.ownsRow lim 5 1 v (datOf x).size (byteV (datOf x).data.toList)) (hB : x.2 = B x.1.data.toList) : Lies w' b (n + 1) (updM f x.1.data.toList (some v)) B (files ++ [x]) := by
 refine ⟨hm, fun key => ?_, fun key u hu => ?_, fun y hy => ?_⟩
 ·rw [List.map_append, List.mem_append]
  unfold updM
  by_cases e : key = x.1.data.toList
  ·simp [e]
  ·rw [if_neg e, h.keys key]
   simp [e]
 ·unfold updM at hu
  split at hu
  ·rename_i e
   cases hu
   rw [e, ← hB]
   have := owns_low ho (Nat.zero_le _)
   rw [datOf_size, datOf_list] at this
   exact this
  ·have hr := h.rows key u hu
   refine t.owns hr (fun k hk e => ?_)
   obtain ⟨g1, g2, g3⟩ := owns_row hr hk
   rcases e with rfl | rfl | e
   ·rw [hS.hp] at g3; cases g3
   ·exact h.map.ne_row g3 rfl
   ·have := (hr.lt k hk).2
    omega
 ·rcases List.mem_append.1 hy with hy | hy
  ·exact h.val y hy
  ·rw [List.mem_singleton] at hy
   subst hy
   exact hB
theorem stop_c (w : World) (S b n g cap : Nat) (a : Option Addr) (f : List UInt8 → Option Value) (sh : Option Nat) (m : Nat) (fl np : Bool) (files : List Fil) (h : SB w S 1 sh (some b) (some (m, fl)) np) (hb : RawMap w b n f) (hF : 0 < files.length → a = some ⟨g, 0, none⟩ ∧ FilesAt w g files) (hl : files.length ≤ 1000000000000) (hs : ∀ x ∈ files, x.1.size ≤ maxLen)
  (hsub : ∀ key, f key ≠ none → key ∈ files.map fun x => x.1.data.toList) :
  Calls Tryz.prog 75 #[.pointer (some ⟨S, 0, none⟩), .slice a files.length cap] w fun r w' => r = .returned (.int .i64 14) ∧ SB w' S 1 sh (some b) (if fl then none else some (m, false)) (if fl then np else true) ∧ (∃ f', RawMap w' b n f' ∧ (fl = true → ∀ key, f' key = none)) ∧ Touch (fun k => k = S ∨ k = b) w w' := by
 cases fl with
 | true =>
  refine (stop_fails w S b n g cap a f sh m np files h hb hF hl hs hsub).mono ?_
  rintro r w' ⟨rfl, h1, h2, t⟩
  exact ⟨rfl, h1, ⟨_, h2, fun _ _ => rfl⟩, t⟩
 | false =>
  refine (stop_power w S _ sh (some b) m np h).mono ?_
  rintro r w' ⟨rfl, h1, t⟩
  exact ⟨rfl, h1, ⟨f, hb.keep t (hb.ne_row h.hp), fun e => by cases e⟩, t.wide (fun k e => Or.inl e)⟩
def BuildPost (S m b ns : Nat) (fs : List UInt8 → Option Value) (c : CutS) (np : Bool) (folder : ByteArray) (files : List Fil) (base : Nat) (r : Ending) (w' : World) : Prop :=
 match takeC c (stepsTo files + 1) with
 | some d => r = .returned (.int .i64 0) ∧ SB w' S 1 (some m) (some b) d np ∧ (∃ v, RawMap w' m (ns + 1) (updM fs folder.data.toList (some v)) ∧ w'.ownsRow base 41 2 v files.length (fileV files)) ∧ RawMap w' b 0 (fun _ => none)
 | none => r = .returned (.int .i64 14) ∧ SB w' S 1 (some m) (some b) (if cutF c then none else some (0, false)) (if cutF c then np else true) ∧ RawMap w' m ns fs ∧ ∃ n' f', RawMap w' b n' f' ∧ (cutF c = true → ∀ key, f' key = none)
theorem build_s (w w1 : World) (S m b ns g cap : Nat) (a : Option Addr) (fs : List UInt8 → Option Value) (c : CutS) (np : Bool) (folder : ByteArray) (files : List Fil) (hok : FilesOk files) (h : SB w1 S 1 (some m) (some b) c np) (hm : RawMap w1 m ns fs) (hb : RawMap w1 b 0 (fun _ => none)) (hmb : m ≠ b) (hns : ns < maxLen) (hfo : folder.size ≤ maxLen) (t1 : Touch (fun k => k = S) w w1)
  (HMM : Hid (Calls Tryz.prog 73 #[.pointer (some ⟨S, 0, none⟩)] w fun r w' => r = .returned (.tuple #[]) ∧ w' = w1)) (hF : 0 < files.length → a = some ⟨g, 0, none⟩ ∧ FilesAt w1 g files) :
  Calls Tryz.prog 36 #[.pointer (some ⟨S, 0, none⟩), .string folder, .slice a files.length cap] w fun r w' => BuildPost S m b ns fs c np folder files w.heap.size r w' ∧ Touch (fun k => k = S ∨ k = m ∨ k = b) w w' := by
 obtain ⟨B, hB⟩ := exB files hok.nd
 obtain ⟨N, hN⟩ : ∃ N, N = files.length := ⟨_, rfl⟩
 have HOK : Hid (FilesOk files) := hok
 have HB : Hid (∀ x ∈ files, x.2 = B x.1.data.toList) := hB
 have HN : Hid (N = files.length) := hN
 have HF : Hid (0 < files.length → a = some ⟨g, 0, none⟩ ∧ FilesAt w1 g files) := hF
 have HX : Hid (ns < maxLen ∧ folder.size ≤ maxLen) := ⟨hns, hfo⟩
 have hNl : N ≤ 100000000000 := by rw [hN]; exact hok.len
 have hne := hb.ne_row h.hp
 have hnm := hm.ne_row h.hp
 have hblt := hb.lt
 have hslt := h.lt
 have L0 : Lies w1 b 0 (fun _ => none) B (files.take 0) := Lies.nil hb
 have HT0 : Hid (takeC c (stepsTo (files.take 0)) = some c) := takeC_zero c
 have HSZ : Hid (∀ x ∈ files, x.1.size ≤ maxLen) := fun x hx => by have := (hok.ok x hx).2; unfold maxLen; omega
 have hgne : ∀ W, Touch (fun k => k = S ∨ k = b) w1 W → 0 < files.length → a = some ⟨g, 0, none⟩ ∧ FilesAt W g files := fun W t h0 => by
  obtain ⟨e1, e2⟩ := hF h0
  obtain ⟨z0, _⟩ := e2 0 h0
  refine ⟨e1, filesAt_touch e2 t (fun e => ?_)⟩
  rcases e with e | e
  ·subst e
   have := h.cs.1
   rw [Nat.zero_mul] at z0
   rw [z0] at this
   cases this
  ·exact hb.ne_cell z0 e.symm
 have HG : Hid (∀ W, Touch (fun k => k = S ∨ k = b) w1 W → 0 < files.length → a = some ⟨g, 0, none⟩ ∧ FilesAt W g files) := hgne
 have HST : Hid (∀ W n f d, Touch (fun k => k = S ∨ k = b) w1 W → SB W S 1 (some m) (some b) (some (0, d)) np → RawMap W b n f → (∀ key, f key ≠ none → key ∈ files.map fun x => x.1.data.toList) → Calls Tryz.prog 75 #[.pointer (some ⟨S, 0, none⟩), .slice a N cap] W fun r w' => r = .returned (.int .i64 14) ∧ SB w' S 1 (some m) (some b) (if d then none else some (0, false)) (if d then np else true) ∧ (∃ f', RawMap w' b n f' ∧ (d = true → ∀ key, f' key = none)) ∧ Touch (fun k => k = S ∨ k = b) W w') := fun W n f d t h1 h2 h3 => by
  rw [HN.out]
  exact stop_c W S b n g cap a f (some m) 0 d np files h1 h2 (hgne W t) (by have := HOK.out.len; omega) HSZ.out h3
 rw [← hN]
 clear hok hB hN hF hns hfo hgne
 go_enter Tryz.func36, Tryz.ntmps36
 go_wp2_with fail
 refine HMM.out.mono ?_
 rintro e w' ⟨rfl, rfl⟩
 obtain ⟨w1, hw1⟩ : ∃ x, x = w' := ⟨_, rfl⟩
 subst hw1
 go_wp2_with fail
 go_loopw [13] (fun i wr => ∃ (k : Nat) (d : CutS) (f : List UInt8 → Option Value), k ≤ N ∧ i = .int .i64 (k : Int) ∧ Hid (takeC c (stepsTo (files.take k)) = some d) ∧ SB wr S 1 (some m) (some b) d np ∧ Lies wr b k f B (files.take k) ∧ RawMap wr m ns fs ∧ Touch (fun k => k = S ∨ k = b) w1 wr) (fun i _ => N - (intOf i).toNat)
 case atStart => exact ⟨0, c, _, Nat.zero_le _, rfl, HT0, h, L0, hm, Touch.refl _ _⟩
 case round =>
  obtain ⟨k, d, f, hk, rfl, HT, hS, hL, hM, T⟩ := hrel
  by_cases hlt : k < N
  ·have hkl : k < files.length := by have := HN.out; omega
   obtain ⟨rfl, hFA⟩ := HG.out wr T (by omega)
   obtain ⟨y0, y1⟩ := hFA k hkl
   obtain ⟨x, hx⟩ : ∃ x, x = files[k] := ⟨_, rfl⟩
   rw [← hx] at y0 y1
   have hxm : x ∈ files := by rw [hx]; exact List.getElem_mem hkl
   have hxo := HOK.out
   have glt : g < wr.heap.size := World.block_lt_of_cell? wr _ y0
   obtain ⟨P, hP⟩ : ∃ P, P = x.1 := ⟨_, rfl⟩
   obtain ⟨D, hD⟩ : ∃ D, D = datOf x := ⟨_, rfl⟩
   rw [← hP] at y0
   rw [show (⟨x.2.toArray⟩ : ByteArray) = D by rw [hD]; rfl] at y1
   have hP1 : P.size ≤ 140737488355328 := by rw [hP]; exact (hxo.ok x hxm).2
   have hD1 : D.size ≤ 140737488355328 := by rw [hD, datOf_size]; exact hxo.dat x hxm
   have hfol : folderB P = true → D = ⟨#[]⟩ := fun e => by
    rw [hD]; unfold datOf; rw [hxo.fol x hxm (by rw [← hP]; exact e)]
   have HTK : Hid (files.take (k + 1) = files.take k ++ [x]) := by unfold Hid; rw [List.take_succ_eq_append_getElem hkl, hx]
   have HSK : Hid (stepsTo (files.take (k + 1)) = stepsTo (files.take k) + stepsOf P D) := by unfold Hid; rw [stepsTo_take files k hkl, ← hx, hP, hD]
   have HDR : Hid (∃ q, stepsTo files + 1 = stepsTo (files.take k) + stepsOf P D + q) := by
    refine ⟨stepsTo (files.drop (k + 1)) + 1, ?_⟩
    rw [← HSK.out, ← Nat.add_assoc]
    congr 1
    unfold stepsTo
    rw [← List.sum_append, ← List.map_append, List.take_append_drop]
   have ta : Touch (fun _ => False) wr (wr.alloc (.cells #[.string P, .string D] 41)) := (Touch.refl _ _).alloc _
   have HOC : Hid (∀ W, W = wr.alloc (.cells #[.string P, .string D] 41) → Calls Tryz.prog 74 #[.pointer (some ⟨S, 0, none⟩), .agg #[.string P, .string D]] W fun r w' => OnePost S b k (wr.heap.size + 1) f (some m) d np P D W r w') := fun W e => by
    subst e
    refine buildOne_c _ S b k (wr.heap.size + 1) f (some m) d np P D (hS.keep ta (fun e => e)) (hL.map.keep ta (fun e => e)) (by omega) hP1 hD1 hfol (by rw [World.size_alloc]; exact Nat.le_refl _) (by have := hS.lt; omega)
   have HBX : Hid (x.2 = B x.1.data.toList) := HB.out x hxm
   have HPX : Hid (P = x.1 ∧ D = datOf x ∧ x ∈ files) := ⟨hP, hD, hxm⟩
   clear hx hxm hxo hP hD hfol
   have i1 : (k : Int) < (N : Int) := by omega
   cases htk : takeC d (stepsOf P D) with
   | some d' =>
    have HT2 : Hid (takeC c (stepsTo (files.take (k + 1))) = some d') := by unfold Hid; rw [HSK.out, (takeC_add HT.out _).1, htk]
    go_wp2_with (go_at_call 74; refine (HOC.out _ rfl).mono ?_; intro e w5 hop; unfold OnePost at hop; rw [htk] at hop; obtain ⟨t5, rfl, h5, v, hm5, ho5⟩ := hop)
    obtain ⟨rfl, rfl, hxm⟩ := HPX.out
    have L5 := Lies.more (hL.keep ta (fun e => e) (fun _ _ _ e => e.elim)) (hS.keep ta (fun e => e)) t5 (by rw [World.size_alloc]; exact Nat.le_refl _) hm5 ho5 HBX.out
    have M5 := (hM.keep ta (fun e => e)).keep t5 (fun e => e.elim hnm (fun e => e.elim hmb (fun e => by have := hM.lt; omega)))
    have T5 : Touch (fun k => k = S ∨ k = b) w1 w5 := ((T.wide (fun k e => e.elim Or.inl (fun e => Or.inr (Or.inl e)))).trans ((ta.wide (fun k e => e.elim)).trans t5)).mono (fun q hq e => e.elim Or.inl (fun e => e.elim Or.inr (fun e => by have := T.size; omega)))
    exact ⟨⟨k + 1, d', _, by omega, by go_num, HT2, h5, by rw [HTK.out]; exact L5, M5, T5⟩, by simp [intOf]; omega⟩
   | none =>
    have HTN : Hid (takeC c (stepsTo files + 1) = none) := by
     unfold Hid
     obtain ⟨q, hq⟩ := HDR.out
     rw [hq]
     exact takeC_none (by rw [(takeC_add HT.out _).1, htk]) q
    have HCF : Hid (cutF d = cutF c) := (takeC_add HT.out 0).2
    have HKY : Hid (∀ key, f key ≠ none ∨ key = P.data.toList → key ∈ files.map fun x => x.1.data.toList) := fun key e => by
     rcases e with e | e
     ·have h9 := (hL.keys key).1 (by cases hx : f key with | none => exact absurd hx e | some u => rfl)
      obtain ⟨y, hy, hyk⟩ := List.mem_map.1 h9
      exact List.mem_map.2 ⟨y, List.mem_of_mem_take hy, hyk⟩
     ·obtain ⟨e1, _, e3⟩ := HPX.out
      exact List.mem_map.2 ⟨x, e3, by rw [e, e1]⟩
    have HTT : Hid (∀ w5, Touch (fun k => k = S ∨ k = b ∨ wr.heap.size + 1 ≤ k) (wr.alloc (.cells #[.string P, .string D] 41)) w5 → Touch (fun k => k = S ∨ k = b) w1 w5) := fun w5 t5 => ((T.wide (fun k e => e.elim Or.inl (fun e => Or.inr (Or.inl e)))).trans ((ta.wide (fun k e => e.elim)).trans t5)).mono (fun q hq e => e.elim Or.inl (fun e => e.elim Or.inr (fun e => by have := T.size; omega)))
    go_wp2_with (first | (go_at_call 74; refine (HOC.out _ rfl).mono ?_; intro e w5 hop; unfold OnePost at hop; rw [htk] at hop; obtain ⟨t5, rfl, h5, g5, hm5, hs5⟩ := hop) | (go_at_call 75; refine (HST.out _ _ _ (cutF d) (HTT.out _ t5) h5 hm5 (fun key hk => HKY.out key (hs5 key hk))).mono ?_; rintro e w6 ⟨rfl, h6, ⟨f6, hm6, hz6⟩, t6⟩))
    go_ret
    have M6 := ((hM.keep ta (fun e => e)).keep t5 (fun e => e.elim hnm (fun e => e.elim hmb (fun e => by have := hM.lt; omega)))).keep t6 (fun e => e.elim hnm hmb)
    refine ⟨?_, (t1.wide (fun k e => Or.inl e)).trans (((HTT.out _ t5).trans t6).wide (fun k e => e.elim Or.inl (fun e => Or.inr (Or.inr e))))⟩
    unfold BuildPost
    rw [HTN.out]
    rw [HCF.out] at h6 hz6
    exact ⟨rfl, h6, M6, _, f6, hm6, hz6⟩
  ·obtain rfl : k = N := by omega
   have i1 : ¬ (k : Int) < (k : Int) := by omega
   have htf : files.take k = files := List.take_of_length_le (by have := HN.out; omega)
   rw [htf] at HT hL
   have hxo := HOK.out
   cases hp : passB d with
   | true =>
    have HT2 : Hid (takeC c (stepsTo files + 1) = some (passC d)) := takeC_step HT.out hp
    have HSH : Hid (∀ W, W = wr → Calls Tryz.prog 76 #[.pointer (some ⟨S, 0, none⟩), .agg #[.int .i64 3, .string folder, .string ⟨#[]⟩]] W fun r w' => r = .returned (.bool true) ∧ SB w' S 1 (some m) (some b) (passC d) np ∧ ∃ v, RawMap w' m (ns + 1) (updM fs folder.data.toList (some v)) ∧ w'.ownsRow W.heap.size 41 2 v files.length (fileV files) ∧ RawMap w' b 0 (fun _ => none) ∧ Touch (fun k => k = S ∨ k = m ∨ k = b) W w') := fun W e => by
     subst e
     exact do_show W S m b k _ f fs B files d np folder hS hM hL hmb (by omega) HX.out.1 hp HX.out.2 hxo.nd hxo.srt hxo.ok (by have := hxo.len; omega)
    clear hxo
    go_wp2_with (go_at_call 76; refine (HSH.out _ rfl).mono ?_; rintro e w5 ⟨rfl, h5, v, hm5, ho5, hb5, t5⟩)
    go_ret
    refine ⟨?_, (t1.wide (fun k e => Or.inl e)).trans ((T.wide (fun k e => e.elim Or.inl (fun e => Or.inr (Or.inr e)))).trans t5)⟩
    unfold BuildPost
    rw [HT2.out]
    exact ⟨rfl, h5, ⟨v, hm5, owns_low ho5 (Nat.le_trans t1.size T.size)⟩, hb5⟩
   | false =>
    obtain ⟨HTN, hdd⟩ := takeC_stop (s := stepsTo files + 1) HT.out hp (by omega)
    have HKY : Hid (∀ key, f key ≠ none → key ∈ files.map fun x => x.1.data.toList) := fun key e => (hL.keys key).1 (by cases hx : f key with | none => exact absurd hx e | some u => rfl)
    have hLm := hL.map
    clear hxo
    go_wp2_with (first | (go_at_call 76; refine (do_no _ S (some m) (some b) d np hS hp 3 folder ⟨#[]⟩).mono ?_; rintro e w5 ⟨rfl, h5, t5⟩; rw [hdd] at h5) | (go_at_call 75; refine (HST.out _ _ _ (cutF c) (T.trans (t5.wide (fun k e => Or.inl e))) h5 (hLm.keep t5 hne) HKY.out).mono ?_; rintro e w6 ⟨rfl, h6, ⟨f6, hm6, hz6⟩, t6⟩))
    go_ret
    refine ⟨?_, (t1.wide (fun k e => Or.inl e)).trans (((T.trans (t5.wide (fun k e => Or.inl e))).trans t6).wide (fun k e => e.elim Or.inl (fun e => Or.inr (Or.inr e))))⟩
    unfold BuildPost
    rw [HTN]
    exact ⟨rfl, h6, (hM.keep t5 hnm).keep t6 (fun e => e.elim hnm hmb), _, f6, hm6, hz6⟩
end Go.Proofs.YtmhlkdlcpicekaaGreatDoor
namespace Go.Proofs.YtmhlkdlcpicekaaGreatDoor
open Go.RowKit Go.Maps Go.Shelf
def slashB (s : ByteArray) : Bool := decide (0 ≤ Lib.indexByte s.data.toList 47)
def folderNameB (s : ByteArray) : Bool := nameOk s && !slashB s
theorem contains_c (w : World) (s : ByteArray) : Calls Tryz.prog 72 #[.string s, .string ⟨#[47]⟩] w fun e w' => e = .returned (.bool (slashB s)) ∧ w = w' := by
 obtain ⟨i, hi⟩ : ∃ i : Int, i = Lib.indexByte s.data.toList 47 := ⟨_, rfl⟩
 have HI : Hid (∀ W, Calls Tryz.prog 127 #[.string s, .string ⟨#[47]⟩] W fun e w' => e = .returned (.int .i64 i) ∧ W = w') := fun W => by rw [hi]; exact index_c s W
 have HS : Hid (slashB s = decide (0 ≤ i)) := by unfold Hid slashB; rw [hi]
 clear hi
 by_cases h : 0 ≤ i
 all_goals
  go_enter Tryz.func72, Tryz.ntmps72
  go_wp2_with (go_at_call 127; refine (HI.out _).mono ?_; rintro e w' ⟨rfl, rfl⟩)
  go_ret
  exact ⟨by rw [HS.out]; simp [h], rfl⟩
theorem isFolderName_c (w : World) (s : ByteArray) (hs : s.size ≤ 140737488355328) : Calls Tryz.prog 35 #[.string s] w fun e w' => e = .returned (.bool (folderNameB s)) ∧ Touch (fun _ => False) w w' := by
 have HN : Hid (∀ W, Calls Tryz.prog 71 #[.string s] W fun e w' => e = .returned (.bool (nameOk s)) ∧ Touch (fun _ => False) W w') := fun W => isName_c W s hs
 have HC : Hid (∀ W, Calls Tryz.prog 72 #[.string s, .string ⟨#[47]⟩] W fun e w' => e = .returned (.bool (slashB s)) ∧ W = w') := fun W => contains_c W s
 have HF : Hid (folderNameB s = (nameOk s && !slashB s)) := rfl
 cases h1 : nameOk s <;> cases h2 : slashB s
 all_goals
  rw [h1] at HN
  rw [h2] at HC
  rw [h1, h2] at HF
  go_enter Tryz.func35, Tryz.ntmps35
  go_wp2_with (first | (go_at_call 71; refine (HN.out _).mono ?_; rintro e w1 ⟨rfl, t1⟩) | (go_at_call 72; refine (HC.out _).mono ?_; rintro e w2 ⟨rfl, rfl⟩))
  go_ret
  exact ⟨by rw [HF.out]; rfl, t1⟩
theorem RawMap.zero {w : World} {B n : Nat} {f : List UInt8 → Option Value} (h : RawMap w B n f) (h0 : ∀ key, f key = none) : RawMap w B 0 (fun _ => none) := by
 obtain ⟨D, ho, hh, hv⟩ := h
 obtain ⟨es, rfl, hko⟩ := ho.keysOf
 have he : es = [] := by
  cases es with
  | nil => rfl
  | cons p l =>
   obtain ⟨v, hk⟩ := hko p (List.mem_cons_self ..)
   obtain ⟨x, _, hx, _⟩ := Maps.keyOf_str Tryz.underlying9 hk
   have := hh x
   rw [h0 x] at this
   simp [Maps.has, hx, Lit.sameKey] at this
 subst he
 have := ownsMap_exact ho
 exact ⟨_, this, fun _ => rfl, fun _ => rfl⟩
end Go.Proofs.YtmhlkdlcpicekaaGreatDoor
namespace Go.Proofs.YtmhlkdlcpicekaaGreatDoor
open Go.RowKit Go.Maps Go.MuLone
theorem zeroShown (w : World) : (zeroValue 30).run Tryz.prog w = .ok nilS w := by kernel_rfl
def begun (w : World) (S : Nat) (q : Array Value) : World := (w.setCell ⟨S, 0, none⟩ (.int .i32 1)).alloc (.cells q 35)
theorem begun_touch (w : World) (S : Nat) (q : Array Value) : Touch (fun k => k = S) w (begun w S q) := (touch_cell w S 0 (.int .i32 1)).alloc _
theorem begun_new (w : World) (S : Nat) (q : Array Value) : Touch (fun _ => False) (w.setCell ⟨S, 0, none⟩ (.int .i32 1)) (begun w S q) := (Touch.refl _ _).alloc _
theorem extract_off (w : World) (S : Nat) (sh be : Option Nat) (c : CutS) (folder A : ByteArray) (q0 q1 q2 : Value) (h : SB w S 0 sh be c true) :
  Calls Tryz.prog 14 #[.pointer (some ⟨S, 0, none⟩), .string folder, .string A, .agg #[q0, q1, q2]] w fun r w' => r = .returned (.int .i64 14) ∧ SB w' S 0 sh be c true ∧ Touch (fun k => k = S) w w' := by
 have h1 := (h.lock 1).keep (begun_new w S #[q0, q1, q2]) (fun e => e)
 have tb := begun_touch w S #[q0, q1, q2]
 unfold begun at h1 tb
 obtain ⟨c0, c2, c3, c4, c5, c6, c7⟩ := h.cs
 have f0 := h.fr 0
 have hlt := h.lt
 obtain ⟨d0, d2, d3, d4, d5, d6, d7⟩ := h1.cs
 have ca : (w.alloc (.cells #[q0, q1, q2] 35)).cell? ⟨S, 0, none⟩ = some (.int .i32 0) := ((Touch.refl (fun _ => False) w).alloc _).at c0 (fun e => e)
 have fa : (w.alloc (.cells #[q0, q1, q2] 35)).frozen? ⟨S, 0, none⟩ = false := (((Touch.refl (fun _ => False) w).alloc (.cells #[q0, q1, q2] 35)).frozen (p := ⟨S, 0, none⟩) hlt (fun e => e)).trans f0
 go_enter_defers Tryz.func14, Tryz.ntmps14
 go_wp2_with (go_at_call 33; refine (lock_free muLib ⟨S, 0, none⟩ _ ca fa).mono ?_; rintro e w' ⟨rfl, rfl⟩)
 refine leaves_cons (f := 34) (args := #[.pointer (some ⟨S, 0, none⟩)]) (by simp) (by simp [go_sem]) ?_
 refine (unlock_deferred muLib ⟨S, 0, none⟩ .returning _ d0 (h1.fr 0)).mono ?_
 rintro e u' w'' ⟨rfl, rfl, rfl⟩
 exact ⟨_, results_tmp rfl _ _ _, rfl, h1.lock 0, tb.trans (touch_cell _ _ _ _)⟩
theorem alloc_set (w : World) (S : Nat) (o : Obj) (v : Value) (h : S < w.heap.size) : (w.alloc o).setCell ⟨S, 0, none⟩ v = (w.setCell ⟨S, 0, none⟩ v).alloc o := by
 first | exact World.setCell_alloc_past (w := w) o S 0 v h | exact World.setCell_alloc_past w o S 0 v h
theorem extract_arg (w : World) (S : Nat) (sh be : Option Nat) (c : CutS) (folder A : ByteArray) (q0 q1 q2 : Value) (h : SB w S 0 sh be c false) (hfs : folder.size ≤ 140737488355328) (hfn : folderNameB folder = false) :
  Calls Tryz.prog 14 #[.pointer (some ⟨S, 0, none⟩), .string folder, .string A, .agg #[q0, q1, q2]] w fun r w' => r = .returned (.int .i64 15) ∧ SB w' S 0 sh be c false ∧ Touch (fun k => k = S) w w' := by
 have tb := begun_touch w S #[q0, q1, q2]
 have h1 := (h.lock 1).keep (begun_new w S #[q0, q1, q2]) (fun e => e)
 have bx : (begun w S #[q0, q1, q2]).heap[w.heap.size]? = some (.cells #[q0, q1, q2] 35 (0, 0)) := by
  have := heap_alloc_new (w.setCell ⟨S, 0, none⟩ (.int .i32 1)) (.cells #[q0, q1, q2] 35)
  rw [show (w.setCell ⟨S, 0, none⟩ (.int .i32 1)).heap.size = w.heap.size by simp] at this
  exact this
 obtain ⟨wb, hwb⟩ : ∃ x, x = begun w S #[q0, q1, q2] := ⟨_, rfl⟩
 rw [← hwb] at tb h1 bx
 have HWB : Hid ((w.setCell ⟨S, 0, none⟩ (.int .i32 1)).alloc (.cells #[q0, q1, q2] 35) = wb) := hwb.symm
 clear hwb
 obtain ⟨c0, c2, c3, c4, c5, c6, c7⟩ := h.cs
 have f0 := h.fr 0
 have hlt := h.lt
 obtain ⟨d0, d2, d3, d4, d5, d6, d7⟩ := h1.cs
 have ca : (w.alloc (.cells #[q0, q1, q2] 35)).cell? ⟨S, 0, none⟩ = some (.int .i32 0) := ((Touch.refl (fun _ => False) w).alloc _).at c0 (fun e => e)
 have fa : (w.alloc (.cells #[q0, q1, q2] 35)).frozen? ⟨S, 0, none⟩ = false := (((Touch.refl (fun _ => False) w).alloc (.cells #[q0, q1, q2] 35)).frozen (p := ⟨S, 0, none⟩) hlt (fun e => e)).trans f0
 have HFN : Hid (∀ W, Calls Tryz.prog 35 #[.string folder] W fun e w' => e = .returned (.bool (folderNameB folder)) ∧ Touch (fun _ => False) W w') := fun W => isFolderName_c W folder hfs
 rw [hfn] at HFN
 go_enter_defers Tryz.func14, Tryz.ntmps14
 go_wp2_with fail
 refine (lock_free muLib ⟨S, 0, none⟩ _ ca fa).mono ?_
 rintro e w' ⟨rfl, rfl⟩
 rw [show ((w.alloc (.cells #[q0, q1, q2] 35)).setCell ⟨S, 0, none⟩ (.int .i32 1)) = wb by rw [← HWB.out]; exact alloc_set w S _ _ hlt]
 clear ca fa c0 c2 c3 c4 c5 c6 c7
 go_wp2_with (go_at_call 35; refine (HFN.out _).mono ?_; rintro e w3 ⟨rfl, t3⟩)
 have h3 := h1.keep t3 (fun e => e)
 refine leaves_cons (f := 34) (args := #[.pointer (some ⟨S, 0, none⟩)]) (by simp) (by simp [go_sem]) ?_
 refine (unlock_deferred muLib ⟨S, 0, none⟩ .returning _ h3.cs.1 (h3.fr 0)).mono ?_
 rintro e u' w'' ⟨rfl, rfl, rfl⟩
 exact ⟨_, results_tmp rfl _ _ _, rfl, h3.lock 0, (tb.trans (t3.wide (fun k e => e.elim))).trans (touch_cell _ _ _ _)⟩
theorem extract_twice (w : World) (S m ns : Nat) (fs : List UInt8 → Option Value) (be : Option Nat) (c : CutS) (folder A : ByteArray) (q0 q1 q2 : Value) (h : SB w S 0 (some m) be c false) (hm : RawMap w m ns fs) (hfs : folder.size ≤ 140737488355328) (hfn : folderNameB folder = true) (hin : (fs folder.data.toList).isSome = true) :
  Calls Tryz.prog 14 #[.pointer (some ⟨S, 0, none⟩), .string folder, .string A, .agg #[q0, q1, q2]] w fun r w' => r = .returned (.int .i64 8) ∧ SB w' S 0 (some m) be c false ∧ Touch (fun k => k = S) w w' := by
 have hnm := hm.ne_row h.hp
 have tb := begun_touch w S #[q0, q1, q2]
 have h1 := (h.lock 1).keep (begun_new w S #[q0, q1, q2]) (fun e => e)
 have bx : (begun w S #[q0, q1, q2]).heap[w.heap.size]? = some (.cells #[q0, q1, q2] 35 (0, 0)) := by
  have := heap_alloc_new (w.setCell ⟨S, 0, none⟩ (.int .i32 1)) (.cells #[q0, q1, q2] 35)
  rw [show (w.setCell ⟨S, 0, none⟩ (.int .i32 1)).heap.size = w.heap.size by simp] at this
  exact this
 obtain ⟨wb, hwb⟩ : ∃ x, x = begun w S #[q0, q1, q2] := ⟨_, rfl⟩
 rw [← hwb] at tb h1 bx
 have HWB : Hid ((w.setCell ⟨S, 0, none⟩ (.int .i32 1)).alloc (.cells #[q0, q1, q2] 35) = wb) := hwb.symm
 clear hwb
 obtain ⟨c0, c2, c3, c4, c5, c6, c7⟩ := h.cs
 have f0 := h.fr 0
 have hlt := h.lt
 obtain ⟨d0, d2, d3, d4, d5, d6, d7⟩ := h1.cs
 have ca : (w.alloc (.cells #[q0, q1, q2] 35)).cell? ⟨S, 0, none⟩ = some (.int .i32 0) := ((Touch.refl (fun _ => False) w).alloc _).at c0 (fun e => e)
 have fa : (w.alloc (.cells #[q0, q1, q2] 35)).frozen? ⟨S, 0, none⟩ = false := (((Touch.refl (fun _ => False) w).alloc (.cells #[q0, q1, q2] 35)).frozen (p := ⟨S, 0, none⟩) hlt (fun e => e)).trans f0
 have HFN : Hid (∀ W, Calls Tryz.prog 35 #[.string folder] W fun e w' => e = .returned (.bool (folderNameB folder)) ∧ Touch (fun _ => False) W w') := fun W => isFolderName_c W folder hfs
 rw [hfn] at HFN
 have hm1 := hm.keep tb hnm
 go_enter_defers Tryz.func14, Tryz.ntmps14
 go_wp2_with fail
 refine (lock_free muLib ⟨S, 0, none⟩ _ ca fa).mono ?_
 rintro e w' ⟨rfl, rfl⟩
 rw [show ((w.alloc (.cells #[q0, q1, q2] 35)).setCell ⟨S, 0, none⟩ (.int .i32 1)) = wb by rw [← HWB.out]; exact alloc_set w S _ _ hlt]
 clear ca fa c0 c2 c3 c4 c5 c6 c7
 go_wp2_with (go_at_call 35; refine (HFN.out _).mono ?_; rintro e w3 ⟨rfl, t3⟩; have h3 := h1.keep t3 (fun e => e); obtain ⟨e0, e2, e3, e4, e5, e6, e7⟩ := h3.cs; have hlk := (hm1.keep t3 (fun e => e)).look Tryz.underlying84 (zeroShown _) folder (by unfold maxLen; omega); rw [hin] at hlk)
 refine leaves_cons (f := 34) (args := #[.pointer (some ⟨S, 0, none⟩)]) (by simp) (by simp [go_sem]) ?_
 refine (unlock_deferred muLib ⟨S, 0, none⟩ .returning _ h3.cs.1 (h3.fr 0)).mono ?_
 rintro e u' w'' ⟨rfl, rfl, rfl⟩
 exact ⟨_, results_tmp rfl _ _ _, rfl, h3.lock 0, (tb.trans (t3.wide (fun k e => e.elim))).trans (touch_cell _ _ _ _)⟩
end Go.Proofs.YtmhlkdlcpicekaaGreatDoor
namespace Go.Proofs.YtmhlkdlcpicekaaGreatDoor
open Go.RowKit Go.Maps Go.MuLone
theorem extract_ok (w : World) (S : Nat) (sh be : Option Nat) (c : CutS) (folder A : ByteArray) (q0 q1 q2 : Value) (files : List Fil) (Post : World → Int → Option Nat → Option Nat → CutS → Bool → World → Prop) (h : SB w S 0 sh be c false) (hfs : folder.size ≤ 140737488355328) (hfn : folderNameB folder = true)
  (HLK : Hid (∀ W, Touch (fun k => k = S) w W → (Instr.lookup 84 (.map sh) (.string folder) true).run Tryz.prog W = .ok (.tuple #[nilS, .bool false]) W))
  (HU : Hid (∀ W, Touch (fun k => k = S) w W → Calls Tryz.prog 11 #[.string A, .agg #[q0, q1, q2]] W fun r w' => Touch (fun _ => False) W w' ∧ ∃ a cap g, r = .returned (.tuple #[.slice a files.length cap, .int .i64 0]) ∧ (0 < files.length → a = some ⟨g, 0, none⟩ ∧ FilesAt w' g files)))
  (HBD : Hid (∀ W a g cap, Touch (fun k => k = S) w W → SB W S 1 sh be c false → (0 < files.length → a = some ⟨g, 0, none⟩ ∧ FilesAt W g files) → Calls Tryz.prog 36 #[.pointer (some ⟨S, 0, none⟩), .string folder, .slice a files.length cap] W fun r w' => ∃ k sh' be' c' np', r = .returned (.int .i64 k) ∧ SB w' S 1 sh' be' c' np' ∧ Post W k sh' be' c' np' w')) :
  Calls Tryz.prog 14 #[.pointer (some ⟨S, 0, none⟩), .string folder, .string A, .agg #[q0, q1, q2]] w fun r w' => ∃ W k sh' be' c' np' w6, Touch (fun k => k = S) w W ∧ r = .returned (.int .i64 k) ∧ Post W k sh' be' c' np' w6 ∧ w' = w6.setCell ⟨S, 0, none⟩ (.int .i32 0) ∧ SB w' S 0 sh' be' c' np' := by
 obtain ⟨N, hN⟩ : ∃ N, N = files.length := ⟨_, rfl⟩
 rw [← hN] at HU HBD
 clear hN
 have HCL : Hid (∀ W, Calls Tryz.prog 37 #[.string folder] W fun e w' => e = .returned (.string folder) ∧ Touch (fun _ => False) W w') := fun W => clone_c W folder (by omega)
 have tb := begun_touch w S #[q0, q1, q2]
 have h1 := (h.lock 1).keep (begun_new w S #[q0, q1, q2]) (fun e => e)
 have bx : (begun w S #[q0, q1, q2]).heap[w.heap.size]? = some (.cells #[q0, q1, q2] 35 (0, 0)) := by
  have := heap_alloc_new (w.setCell ⟨S, 0, none⟩ (.int .i32 1)) (.cells #[q0, q1, q2] 35)
  rw [show (w.setCell ⟨S, 0, none⟩ (.int .i32 1)).heap.size = w.heap.size by simp] at this
  exact this
 obtain ⟨wb, hwb⟩ : ∃ x, x = begun w S #[q0, q1, q2] := ⟨_, rfl⟩
 rw [← hwb] at tb h1 bx
 have HWB : Hid ((w.setCell ⟨S, 0, none⟩ (.int .i32 1)).alloc (.cells #[q0, q1, q2] 35) = wb) := hwb.symm
 clear hwb
 obtain ⟨c0, c2, c3, c4, c5, c6, c7⟩ := h.cs
 have f0 := h.fr 0
 have hlt := h.lt
 obtain ⟨d0, d2, d3, d4, d5, d6, d7⟩ := h1.cs
 have ca : (w.alloc (.cells #[q0, q1, q2] 35)).cell? ⟨S, 0, none⟩ = some (.int .i32 0) := ((Touch.refl (fun _ => False) w).alloc _).at c0 (fun e => e)
 have fa : (w.alloc (.cells #[q0, q1, q2] 35)).frozen? ⟨S, 0, none⟩ = false := (((Touch.refl (fun _ => False) w).alloc (.cells #[q0, q1, q2] 35)).frozen (p := ⟨S, 0, none⟩) hlt (fun e => e)).trans f0
 have HFN : Hid (∀ W, Calls Tryz.prog 35 #[.string folder] W fun e w' => e = .returned (.bool (folderNameB folder)) ∧ Touch (fun _ => False) W w') := fun W => isFolderName_c W folder hfs
 rw [hfn] at HFN
 have x0 := row_cell bx 0
 have x1 := row_cell bx 1
 have x2 := row_cell bx 2
 go_enter_defers Tryz.func14, Tryz.ntmps14
 go_wp2_with fail
 refine (lock_free muLib ⟨S, 0, none⟩ _ ca fa).mono ?_
 rintro e w' ⟨rfl, rfl⟩
 rw [show ((w.alloc (.cells #[q0, q1, q2] 35)).setCell ⟨S, 0, none⟩ (.int .i32 1)) = wb by rw [← HWB.out]; exact alloc_set w S _ _ hlt]
 clear ca fa c0 c2 c3 c4 c5 c6 c7
 go_wp2_with (go_at_call 35; refine (HFN.out _).mono ?_; rintro e w3 ⟨rfl, t3⟩; have h3 := h1.keep t3 (fun e => e); obtain ⟨e0, e2, e3, e4, e5, e6, e7⟩ := h3.cs; have T3 := tb.trans (t3.wide (fun k e => e.elim)); have hlk := HLK.out _ T3; have y0 := t3.at x0 (fun e => e); have y1 := t3.at x1 (fun e => e); have y2 := t3.at x2 (fun e => e))
 refine (HU.out _ T3).mono ?_
 rintro e w4 ⟨t4, a, cap, g, rfl, hF⟩
 have HFF : Hid (0 < N → a = some ⟨g, 0, none⟩ ∧ FilesAt w4 g files) := hF
 have h4 := h3.keep t4 (fun e => e)
 have T4 := T3.trans (t4.wide (fun k e => e.elim))
 clear hF y0 y1 y2 x0 x1 x2 bx hlk e0 e2 e3 e4 e5 e6 e7 d0 d2 d3 d4 d5 d6 d7
 go_wp2_with fail
 refine (HCL.out _).mono ?_
 rintro e w5 ⟨rfl, t5⟩
 go_wp2_with fail
 refine (HBD.out w5 a g cap (T4.trans (t5.wide (fun k e => e.elim))) (h4.keep t5 (fun e => e)) (fun h0 => ⟨(HFF.out h0).1, filesAt_touch (HFF.out h0).2 t5 (fun e => e)⟩)).mono ?_
 rintro e w6 ⟨k, sh', be', c', np', rfl, h6, hP⟩
 go_wp2_with fail
 refine leaves_cons (f := 34) (args := #[.pointer (some ⟨S, 0, none⟩)]) (by simp) (by simp [go_sem]) ?_
 refine (unlock_deferred muLib ⟨S, 0, none⟩ .returning _ h6.cs.1 (h6.fr 0)).mono ?_
 rintro e u' w'' ⟨rfl, rfl, rfl⟩
 exact ⟨_, results_tmp rfl _ _ _, _, k, sh', be', c', np', w6, T4.trans (t5.wide (fun k e => e.elim)), rfl, hP, rfl, h6.lock 0⟩
end Go.Proofs.YtmhlkdlcpicekaaGreatDoor
namespace Go.Proofs.YtmhlkdlcpicekaaGreatDoor
open Go.RowKit Go.Maps
def madeMaps (w : World) (S : Nat) : World := ((((w.setCell ⟨S, 2, none⟩ (.map (some w.heap.size))).setCell ⟨S, 3, none⟩ (.map (some (w.heap.size + 1)))).alloc (.map #[] 0)).alloc (.map #[] 0))
theorem madeMaps_ok (w : World) (S : Nat) (c : CutS) (np : Bool) (h : SB w S 1 none none c np) : SB (madeMaps w S) S 1 (some w.heap.size) (some (w.heap.size + 1)) c np ∧ RawMap (madeMaps w S) w.heap.size 0 (fun _ => none) ∧ RawMap (madeMaps w S) (w.heap.size + 1) 0 (fun _ => none) ∧ Touch (fun k => k = S) w (madeMaps w S) := by
 have h2 := (h.shown (some w.heap.size)).beside (some (w.heap.size + 1))
 have t2 := (touch_cell w S 2 (.map (some w.heap.size))).trans (touch_cell _ S 3 (.map (some (w.heap.size + 1))))
 obtain ⟨w3, hw3⟩ : ∃ w3, w3 = (w.setCell ⟨S, 2, none⟩ (.map (some w.heap.size))).setCell ⟨S, 3, none⟩ (.map (some (w.heap.size + 1))) := ⟨_, rfl⟩
 have hs3 : w3.heap.size = w.heap.size := by rw [hw3]; simp
 have m1 := RawMap.made w3
 have m2 := RawMap.made (w3.alloc (.map #[] 0))
 rw [World.size_alloc, hs3] at m2
 rw [hs3] at m1
 have ta : Touch (fun _ => False) w3 ((w3.alloc (.map #[] 0)).alloc (.map #[] 0)) := ((Touch.refl _ _).alloc _).alloc _
 have m1' := m1.keep ((Touch.refl (fun _ => False) (w3.alloc (.map #[] 0))).alloc (.map #[] 0)) (fun e => e)
 rw [← hw3] at h2 t2
 unfold madeMaps
 rw [← hw3]
 exact ⟨h2.keep ta (fun e => e), m1', m2, t2.trans (ta.wide (fun k e => e.elim))⟩
theorem makeMaps_eq (w : World) (S : Nat) (c : CutS) (np : Bool) (h : SB w S 1 none none c np) :
  Calls Tryz.prog 73 #[.pointer (some ⟨S, 0, none⟩)] w fun r w' => r = .returned (.tuple #[]) ∧ w' = madeMaps w S := by
 have hmm := @run_makeMap Tryz.prog
 have heq := run_eql_map_nil (P := Tryz.prog) w 84 9 30 none Tryz.underlying84
 have hlt := h.lt
 obtain ⟨c0, c2, c3, c4, c5, c6, c7⟩ := h.cs
 have f2 := h.fr 2
 have f3 := h.fr 3
 have HW : Hid (madeMaps w S = ((((w.setCell ⟨S, 2, none⟩ (.map (some w.heap.size))).setCell ⟨S, 3, none⟩ (.map (some (w.heap.size + 1)))).alloc (.map #[] 0)).alloc (.map #[] 0))) := rfl
 go_enter Tryz.func73, Tryz.ntmps73
 go_wp2
 rw [← HW.out]
 go_end0
 exact ⟨rfl, rfl⟩
theorem build_old (w : World) (S m b ns nb g cap : Nat) (a : Option Addr) (fs fb : List UInt8 → Option Value) (c : CutS) (np : Bool) (folder : ByteArray) (files : List Fil) (hok : FilesOk files) (h : SB w S 1 (some m) (some b) c np) (hm : RawMap w m ns fs) (hb : RawMap w b nb fb) (h0 : ∀ key, fb key = none) (hmb : m ≠ b) (hns : ns < maxLen) (hfo : folder.size ≤ maxLen) (hF : 0 < files.length → a = some ⟨g, 0, none⟩ ∧ FilesAt w g files) :
  Calls Tryz.prog 36 #[.pointer (some ⟨S, 0, none⟩), .string folder, .slice a files.length cap] w fun r w' => BuildPost S m b ns fs c np folder files w.heap.size r w' ∧ Touch (fun k => k = S ∨ k = m ∨ k = b) w w' :=
 build_s w w S m b ns g cap a fs c np folder files hok h hm (hb.zero h0) hmb hns hfo (Touch.refl _ _) (makeMaps_old w S m (some b) c np h) hF
theorem build_new (w : World) (S g cap : Nat) (a : Option Addr) (c : CutS) (np : Bool) (folder : ByteArray) (files : List Fil) (hok : FilesOk files) (h : SB w S 1 none none c np) (hfo : folder.size ≤ maxLen) (hF : 0 < files.length → a = some ⟨g, 0, none⟩ ∧ FilesAt w g files) :
  Calls Tryz.prog 36 #[.pointer (some ⟨S, 0, none⟩), .string folder, .slice a files.length cap] w fun r w' => BuildPost S w.heap.size (w.heap.size + 1) 0 (fun _ => none) c np folder files w.heap.size r w' ∧ Touch (fun k => k = S ∨ k = w.heap.size ∨ k = w.heap.size + 1) w w' := by
 obtain ⟨h1, h2, h3, t⟩ := madeMaps_ok w S c np h
 refine build_s w (madeMaps w S) S w.heap.size (w.heap.size + 1) 0 g cap a (fun _ => none) c np folder files hok h1 h2 h3 (by omega) (by unfold maxLen; omega) hfo t (makeMaps_eq w S c np h) (fun h0 => ?_)
 obtain ⟨e1, e2⟩ := hF h0
 obtain ⟨z0, _⟩ := e2 0 h0
 refine ⟨e1, filesAt_touch e2 t (fun e => ?_)⟩
 have := h.cs.1
 rw [Nat.zero_mul] at z0
 subst e
 rw [z0] at this
 cases this
end Go.Proofs.YtmhlkdlcpicekaaGreatDoor
namespace Go.Proofs.YtmhlkdlcpicekaaGreatDoor
open Go.RowKit Go.Maps Go.MuLone
theorem extract_err (w : World) (S : Nat) (sh be : Option Nat) (c : CutS) (folder A : ByteArray) (q0 q1 q2 : Value) (k : Int) (h : SB w S 0 sh be c false) (hfs : folder.size ≤ 140737488355328) (hfn : folderNameB folder = true) (hk : ¬ k = 0)
  (HLK : Hid (∀ W, Touch (fun k => k = S) w W → (Instr.lookup 84 (.map sh) (.string folder) true).run Tryz.prog W = .ok (.tuple #[nilS, .bool false]) W))
  (HU : Hid (∀ W, Touch (fun k => k = S) w W → Calls Tryz.prog 11 #[.string A, .agg #[q0, q1, q2]] W fun r w' => Touch (fun _ => False) W w' ∧ r = .returned (.tuple #[.slice none 0 0, .int .i64 k]))) :
  Calls Tryz.prog 14 #[.pointer (some ⟨S, 0, none⟩), .string folder, .string A, .agg #[q0, q1, q2]] w fun r w' => r = .returned (.int .i64 k) ∧ SB w' S 0 sh be c false ∧ Touch (fun k => k = S) w w' := by
 have hk1 : (k != 0) = true := by simpa using hk
 have tb := begun_touch w S #[q0, q1, q2]
 have h1 := (h.lock 1).keep (begun_new w S #[q0, q1, q2]) (fun e => e)
 have bx : (begun w S #[q0, q1, q2]).heap[w.heap.size]? = some (.cells #[q0, q1, q2] 35 (0, 0)) := by
  have := heap_alloc_new (w.setCell ⟨S, 0, none⟩ (.int .i32 1)) (.cells #[q0, q1, q2] 35)
  rw [show (w.setCell ⟨S, 0, none⟩ (.int .i32 1)).heap.size = w.heap.size by simp] at this
  exact this
 obtain ⟨wb, hwb⟩ : ∃ x, x = begun w S #[q0, q1, q2] := ⟨_, rfl⟩
 rw [← hwb] at tb h1 bx
 have HWB : Hid ((w.setCell ⟨S, 0, none⟩ (.int .i32 1)).alloc (.cells #[q0, q1, q2] 35) = wb) := hwb.symm
 clear hwb
 obtain ⟨c0, c2, c3, c4, c5, c6, c7⟩ := h.cs
 have f0 := h.fr 0
 have hlt := h.lt
 obtain ⟨d0, d2, d3, d4, d5, d6, d7⟩ := h1.cs
 have ca : (w.alloc (.cells #[q0, q1, q2] 35)).cell? ⟨S, 0, none⟩ = some (.int .i32 0) := ((Touch.refl (fun _ => False) w).alloc _).at c0 (fun e => e)
 have fa : (w.alloc (.cells #[q0, q1, q2] 35)).frozen? ⟨S, 0, none⟩ = false := (((Touch.refl (fun _ => False) w).alloc (.cells #[q0, q1, q2] 35)).frozen (p := ⟨S, 0, none⟩) hlt (fun e => e)).trans f0
 have HFN : Hid (∀ W, Calls Tryz.prog 35 #[.string folder] W fun e w' => e = .returned (.bool (folderNameB folder)) ∧ Touch (fun _ => False) W w') := fun W => isFolderName_c W folder hfs
 rw [hfn] at HFN
 have x0 := row_cell bx 0
 have x1 := row_cell bx 1
 have x2 := row_cell bx 2
 go_enter_defers Tryz.func14, Tryz.ntmps14
 go_wp2_with fail
 refine (lock_free muLib ⟨S, 0, none⟩ _ ca fa).mono ?_
 rintro e w' ⟨rfl, rfl⟩
 rw [show ((w.alloc (.cells #[q0, q1, q2] 35)).setCell ⟨S, 0, none⟩ (.int .i32 1)) = wb by rw [← HWB.out]; exact alloc_set w S _ _ hlt]
 clear ca fa c0 c2 c3 c4 c5 c6 c7
 go_wp2_with (first | (go_at_call 35; refine (HFN.out _).mono ?_; rintro e w3 ⟨rfl, t3⟩; have h3 := h1.keep t3 (fun e => e); obtain ⟨e0, e2, e3, e4, e5, e6, e7⟩ := h3.cs; have T3 := tb.trans (t3.wide (fun k e => e.elim)); have hlk := HLK.out _ T3; have y0 := t3.at x0 (fun e => e); have y1 := t3.at x1 (fun e => e); have y2 := t3.at x2 (fun e => e)) | (go_at_call 11; refine (HU.out _ T3).mono ?_; rintro e w4 ⟨t4, rfl⟩; have h4 := h3.keep t4 (fun e => e)))
 refine leaves_cons (f := 34) (args := #[.pointer (some ⟨S, 0, none⟩)]) (by simp) (by simp [go_sem]) ?_
 refine (unlock_deferred muLib ⟨S, 0, none⟩ .returning _ h4.cs.1 (h4.fr 0)).mono ?_
 rintro e u' w'' ⟨rfl, rfl, rfl⟩
 exact ⟨_, results_tmp rfl _ _ _, rfl, h4.lock 0, (T3.trans (t4.wide (fun k e => e.elim))).trans (touch_cell _ _ _ _)⟩
end Go.Proofs.YtmhlkdlcpicekaaGreatDoor
