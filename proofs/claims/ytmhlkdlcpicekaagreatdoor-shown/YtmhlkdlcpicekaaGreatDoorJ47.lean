/- Texts of this seat, joined. -/
import Derived.Test.YtmhlkdlcpicekaaGreatDoorJ45
import Derived.Test.YtmhlkdlcpicekaaGreatDoorJ46
set_option linter.unusedSimpArgs false
set_option linter.unusedVariables false
set_option maxHeartbeats 20000000
namespace Go.Proofs.YtmhlkdlcpicekaaGreatDoor
open Go.RowKit Go.Shelf
theorem made_unp (MS : List Made) (hok : AllOk MS) (hl : MS.length ≤ 10) : ∃ o, unpOf ⟨(madeB 0 MS).toArray⟩ (MS.length : Int) (((MS.map fun m => m.name.length).sum : Nat) : Int) (((MS.map fun m => m.text.length).sum : Nat) : Int) = .inr o ∧ FilesOk o ∧ o.length ≤ 610 ∧ ∀ x ∈ o, x.2.length ≤ 100000 := by
 obtain ⟨A, hA⟩ : ∃ A : ByteArray, A = ⟨(madeB 0 MS).toArray⟩ := ⟨_, rfl⟩
 have hAs : A.size ≤ 1000000 := by rw [hA]; exact madeB_size hok hl
 have hLo := listOf_built (f := 0) (.inl rfl) hok hl
 have hR : listOf A (MS.length : Int) (((MS.map fun m => m.name.length).sum : Nat) : Int) (((MS.map fun m => m.text.length).sum : Nat) : Int) = .ok (spansMade 0 MS 0) := by
  rw [hA, hLo, if_neg (by omega), if_neg (by omega), if_neg (by omega)]
 have hfg : filesGo A (spansMade 0 MS 0) [] = .inr ((MS.filter fun m => !folderB ⟨m.name.toArray⟩).map fun m => ((⟨m.name.toArray⟩ : ByteArray), m.text)) := by rw [hA]; exact filesGo_built hok
 rw [← hA]
 obtain ⟨heach, hcl⟩ := listOf_each A _ _ _ _ hR
 have hn : ∀ x ∈ spansMade 0 MS 0, nameOk x.ent.name = true := fun x hx => faultOf_name _ (heach x hx).2
 have h0 : OutIs (spansMade 0 MS 0) [] [] [] := ⟨List.Perm.refl _, List.Pairwise.nil, fun f hf => (by cases hf), fun f hf => (by cases hf)⟩
 have h1 := refGo_eq A (allp_ord hn hcl) hcl (spansMade 0 MS 0) [] [] [] [] rfl h0 (fun f hf => by cases hf)
 rw [hfg] at h1
 obtain ⟨o, ho, hin⟩ := (show ∃ o, refGo A (spansMade 0 MS 0) [] = .inr o ∧ OutIs (spansMade 0 MS 0) _ (foldAll (spansMade 0 MS 0) []) o from h1)
 have hU : unpOf A (MS.length : Int) (((MS.map fun m => m.name.length).sum : Nat) : Int) (((MS.map fun m => m.text.length).sum : Nat) : Int) = .inr o := by
  unfold unpOf
  rw [hR]
  exact ho
 obtain ⟨hF, L, hL, hol⟩ := unpOf_ok (by omega) hU
 rw [hR] at hL
 cases hL
 rw [spansMade_len] at hol
 refine ⟨o, hU, hF, by omega, fun x hx => ?_⟩
 rcases List.mem_append.1 (hin.perm.mem_iff.1 hx) with h | h
 ·obtain ⟨m, hm, rfl⟩ := List.mem_map.1 h
  have h3 := (hok.each m (List.mem_filter.1 hm).1).txt
  show m.text.length ≤ _
  omega
 ·obtain ⟨p, _, rfl⟩ := List.mem_map.1 h
  exact Nat.zero_le _
theorem shown_c (w : World) (ao : Option Addr) (len cap : Nat) (co : Option Addr) (cl ccap : Nat) (R : Nat → Raw) (hlen : len ≤ 9223372036854775807) (hop : ∀ i, i < len → ∃ sb so, ao = some ⟨sb, so, none⟩ ∧ ItemAt w sb (so + i * 4) (R i)) (hcl : cl ≤ 9223372036854775807)
  (hcut : ∀ i, i < cl → ∃ cb cf X, co = some ⟨cb, cf, none⟩ ∧ w.cell? ⟨cb, cf + i, none⟩ = some (.int .i64 X) ∧ (-9223372036854775808 ≤ X ∧ X ≤ 9223372036854775807)) (hord : Ord w) (h0 : 1 < w.heap.size) :
  Calls Tryz.prog 4 #[.slice ao len cap, .slice co cl ccap] w fun r w' => r = .returned (.bool true) ∧ Below w.heap.size w w' := by
 have hraw : ∀ r ∈ (List.range (min len 10)).map R, RawOk r := fun r hr => by
  obtain ⟨i, hi, rfl⟩ := List.mem_map.1 hr
  rw [List.mem_range] at hi
  obtain ⟨sb, so, _, hI⟩ := hop i (by omega)
  exact hI.raw
 obtain ⟨MS, hMS⟩ : ∃ MS, MS = buildGo ((List.range (min len 10)).map R) [] := ⟨_, rfl⟩
 have hok : AllOk MS := by rw [hMS]; exact buildGo_ok _ _ hraw AllOk.nil
 have hl : MS.length ≤ 10 := by
  have := buildGo_len ((List.range (min len 10)).map R) []
  rw [← hMS, List.length_map, List.length_range, List.length_nil] at this
  omega
 have hopW : ∀ W, Touch (fun _ => False) w W → ∀ i, i < len → ∃ sb so, ao = some ⟨sb, so, none⟩ ∧ ItemAt W sb (so + i * 4) (R i) := fun W t i hi => by
  obtain ⟨sb, so, e, hI⟩ := hop i hi
  exact ⟨sb, so, e, hI.keep t⟩
 obtain ⟨o, hU, hF, hol, hod⟩ := made_unp MS hok hl
 have hsum := sums_le MS hok.each
 refine shown_ok w ao len cap co cl ccap ⟨(madeB 0 MS).toArray⟩ MS.length _ _ o hl (by omega) (by omega) (madeB_size hok hl) hU hF (by omega) hod hord h0 hcl hcut (fun W t => ?_)
 refine (build_0 W ao len cap R hlen (hopW W t) MS hMS hok).mono ?_
 rintro r w' ⟨t', v, rfl, hv⟩
 obtain ⟨va, vc, rfl⟩ := owned_sl hv
 exact ⟨t', va, _, vc, rfl⟩
end Go.Proofs.YtmhlkdlcpicekaaGreatDoor
