import Derived.Test.YtppblibcbjpfnaaDoorTpp
namespace Go.Proofs.YtppblibcbjpfnaaDoor.L
open Go.RowKit
set_option linter.unusedVariables false
def gpu : Tn := (⟨#[103, 112, 117]⟩, ⟨#[]⟩, ⟨#[78, 111, 69, 120, 101, 99, 117, 116, 101]⟩)
theorem gpu_ok : tE gpu = 0 := by decide +kernel
theorem gpu_text : tText gpu = ⟨#[103, 112, 117, 58, 78, 111, 69, 120, 101, 99, 117, 116, 101]⟩ := by decide +kernel
theorem gpu_parse : pT ⟨#[103, 112, 117, 58, 78, 111, 69, 120, 101, 99, 117, 116, 101]⟩ = (gpu, 0) := by decide +kernel
set_option maxHeartbeats 4000000 in
theorem awake_any (w : World) : Calls Tryd.prog 7 #[] w fun e w' => e = .returned (.bool true) ∧ Below w.heap.size w w' := by
  have HT := hid (fun W => text_ok gpu W gpu_ok)
  have HP := hid (fun W => parse_any ⟨#[103, 112, 117, 58, 78, 111, 69, 120, 101, 99, 117, 116, 101]⟩ W (by unfold maxLen; decide))
  have HN := hid (fun W => num_any 0 W (by decide))
  rw [gpu_text] at HT
  rw [gpu_parse] at HP
  simp only [tv, gpu] at *
  go_enter Tryd.func7, Tryd.ntmps7
  go_wp2_with fail
  refine (HT.out _).mono ?_
  rintro e w1 ⟨rfl, hb⟩
  have HB := hid hb
  clear hb
  go_wp2_with fail
  refine (HP.out _).mono ?_
  rintro e w2 ⟨rfl, hb⟩
  have HB2 := hid (HB.out.trans (hb.mono HB.out.size))
  clear hb
  go_wp2_with fail
  refine (HN.out _).mono ?_
  rintro e w3 ⟨rfl, hww⟩; subst hww
  go_wp2_with fail
  refine (HN.out _).mono ?_
  rintro e w3 ⟨rfl, hww⟩; subst hww
  go_wp2_with fail
  go_ret
  exact ⟨rfl, HB2.out.alloc HB2.out.size _⟩
end Go.Proofs.YtppblibcbjpfnaaDoor.L
