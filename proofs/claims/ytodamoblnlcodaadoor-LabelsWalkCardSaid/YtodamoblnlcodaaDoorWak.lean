import Derived.Test.YtodamoblnlcodaaDoorDif
import Derived.Test.YtodamoblnlcodaaDoorPrs
namespace Go.Proofs.YtodamoblnlcodaaDoor.L
open Go.RowKit
set_option linter.unusedVariables false
def ab : List Lb := [(sA, s1), (sB, s2)]
theorem wake_parse : parseN ⟨#[98, 61, 50, 44, 97, 61, 49]⟩ = ([(sB, s2), (sA, s1)], 0, 0) := by decide +kernel
theorem ok_ab : OkL ab := ⟨by decide, by unfold ab Up; simp [Lt]; decide +kernel, by decide +kernel⟩
theorem good_ab : Good ab := ⟨⟨by decide, by decide⟩, by unfold maxLen; decide +kernel⟩
theorem sorted_ab {l : List Lb} (h : Sorted [(sB, s2), (sA, s1)] l) : l = ab := by
  have d : Dist [(sB, s2), (sA, s1)] := by unfold Dist; simp; decide +kernel
  refine up_unique (sorted_ok h d) ok_ab.up fun x => ?_
  rw [h.1.mem_iff]
  unfold ab
  simp
  exact Or.comm
theorem run_eql_func_nil (w : World) (f : Fn) (a b : Array Value) : (binOp .eql 31 (.func f a b) .nilFunc).run Tryd.prog w = .ok (.bool false) w := by
  have h : ∀ d, (Op.equalIn (d + 1) 31 (.func f a b) .nilFunc).run Tryd.prog w = .ok false w := fun d => by
    simp [Op.equalIn, run_underlying Tryd.underlying31]
  simp only [binOp]
  simp [Op.equal, Op.maxDepth, h 9999]
set_option maxHeartbeats 4000000 in
set_option maxRecDepth 100000 in
theorem wakes_any (w : World) : Calls Tryd.prog 4 #[] w fun e w' => e = .returned (.bool true) ∧ Below w.heap.size w w' := by
  have HP := hid (parse_any ⟨#[98, 61, 50, 44, 97, 61, 49]⟩ w (by unfold maxLen; decide))
  rw [wake_parse] at HP
  have HD0 := hid (fun W => diff_yes (.slice none 0 0) (.slice none 0 0) [] [] W (Or.inl ⟨rfl, rfl⟩) (Or.inl ⟨rfl, rfl⟩) good_nil good_nil ok_nil ok_nil)
  have HD1 := hid (fun W v (hc : Came W v ab) => diff_yes v (.slice none 0 0) ab [] W hc (Or.inl ⟨rfl, rfl⟩) good_ab good_nil ok_ab ok_nil)
  have qf := run_eql_func_nil
  go_enter Tryd.func4, Tryd.ntmps4
  go_wp2_with fail
  refine HP.out.mono ?_
  rintro e w1 ⟨v, l, rfl, hb, hh⟩
  rcases hh with ⟨h, _⟩ | ⟨_, hc, hs⟩
  · exact absurd rfl h
  obtain rfl := sorted_ab hs
  have B1 := hid hb
  have C1 := hid hc
  clear hb hc hs
  go_wp2_with fail
  refine (HD0.out _).mono ?_
  rintro e w2 ⟨fn, rfl, hb⟩
  have B2 := hid (B1.out.trans (hb.mono B1.out.size))
  have C2 := hid (C1.out.low hb)
  clear hb C1 B1
  go_wp2_with fail
  refine (HD1.out _ _ C2.out).mono ?_
  rintro e w3 ⟨fn', rfl, hb⟩
  have B3 := hid (B2.out.trans (hb.mono B2.out.size))
  have C3 := C2.out.low hb
  clear hb C2 B2
  rcases C3 with ⟨_, h0⟩ | ⟨a, cap, rfl, hcap, h0 | ⟨b, off, rfl, hbl, hcell⟩⟩
  · cases h0
  · cases h0
  · obtain ⟨p0, p1⟩ := hcell 0 (by decide)
    obtain ⟨q0, q1⟩ := hcell 1 (by decide)
    have hl2 : ab.length = 2 := rfl
    rw [hl2]
    rw [show off + 0 * 2 = off by omega] at p0 p1
    rw [show off + 1 * 2 = off + 2 by omega] at q0 q1
    have e1 : ky ab 0 = ⟨#[97]⟩ := rfl
    have e2 : vl ab 0 = ⟨#[49]⟩ := rfl
    have e3 : ky ab 1 = ⟨#[98]⟩ := rfl
    have e4 : vl ab 1 = ⟨#[50]⟩ := rfl
    rw [e1] at p0
    rw [e2] at p1
    rw [e3] at q0
    rw [e4] at q1
    clear hcell e1 e2 e3 e4 hl2
    go_wp2_with fail
    go_ret
    exact ⟨rfl, B3.out⟩
end Go.Proofs.YtodamoblnlcodaaDoor.L
