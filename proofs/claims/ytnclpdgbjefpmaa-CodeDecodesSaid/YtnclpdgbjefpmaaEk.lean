import Derived.Test.YtnclpdgbjefpmaaEj
namespace Go.Proofs.Ytnclpdgbjefpmaa.L
open Go.RowKit
set_option linter.unusedVariables false
set_option linter.unusedSimpArgs false
/-- A program that can be read. -/
structure PgR (w : World) (v : Array Value) (p : Pg) : Prop where
  ex : ∃ a0 c0 a1 c1 a2 c2 a3 c3 a4 c4, v = #[.slice a0 p.tx.length c0, .slice a1 p.nu.length c1, .slice a2 p.st.length c2, .slice a3 p.ns.length c3, .slice a4 p.cd.length c4, .int .i64 p.dep, .int .i64 p.loc] ∧
    RdV w a0 (p.tx.map Value.string) ∧ RdV w a1 (p.nu.map (Value.int .i64)) ∧ RdL Value.string w a2 p.st ∧ RdL (Value.int .i64) w a3 p.ns ∧ RdC w a4 p.cd
/-- No list is longer than any machine's. -/
structure GdP (p : Pg) : Prop where
  tx : p.tx.length ≤ 140737488355328
  nu : p.nu.length ≤ 140737488355328
  st : p.st.length ≤ 140737488355328
  ns : p.ns.length ≤ 140737488355328
  cd : p.cd.length ≤ 140737488355328
  sk : ∀ x, x ∈ p.st → x.length ≤ 140737488355328
  nk : ∀ x, x ∈ p.ns → x.length ≤ 140737488355328
theorem PgR.low {w w' : World} {v : Array Value} {p : Pg} (h : PgR w v p) (k : Below w.heap.size w w') : PgR w' v p := by
  obtain ⟨a0, c0, a1, c1, a2, c2, a3, c3, a4, c4, e, h0, h1, h2, h3, h4⟩ := h.ex
  exact ⟨a0, c0, a1, c1, a2, c2, a3, c3, a4, c4, e, h0.low k, h1.low k, h2.low k, h3.low k, h4.low k⟩
def formB (p : Pg) : Bool := inR p.dep 0 128 && (inR p.loc 0 1024 && (decide ((p.tx.length : Int) + p.nu.length + p.st.length + p.ns.length ≤ 4096) && (decide ((p.cd.length : Int) ≤ 32768) && ((p.tx.all shS && risB ltS .none p.tx) && ((p.nu.all shI && risB ltI .none p.nu) && ((p.st.all (setB shS ltS) && risB (ltL ltS) .none p.st) && ((p.ns.all (setB shI ltI) && risB (ltL ltI) .none p.ns) && p.cd.all insB)))))))
set_option maxHeartbeats 8000000 in
set_option maxRecDepth 100000 in
theorem hasform_any (v : Array Value) (p : Pg) (w : World) (h : PgR w v p) (hg : GdP p) : Calls Try.prog 22 #[.agg v] w fun e w' => e = .returned (.bool (formB p)) ∧ Below w.heap.size w w' := by
  obtain ⟨a0, c0, a1, c1, a2, c2, a3, c3, a4, c4, rfl, r0, r1, r2, r3, r4⟩ := h.ex
  obtain ⟨cs, hcs⟩ : ∃ cs : Array Value, cs = #[.slice a0 p.tx.length c0, .slice a1 p.nu.length c1, .slice a2 p.st.length c2, .slice a3 p.ns.length c3, .slice a4 p.cd.length c4, .int .i64 p.dep, .int .i64 p.loc] := ⟨_, rfl⟩
  have HB1 := hid (belowA w (.cells #[.slice a0 p.tx.length c0, .slice a1 p.nu.length c1, .slice a2 p.st.length c2, .slice a3 p.ns.length c3, .slice a4 p.cd.length c4, .int .i64 p.dep, .int .i64 p.loc] 30))
  have HX1 := hid (heap_alloc_new w (.cells #[.slice a0 p.tx.length c0, .slice a1 p.nu.length c1, .slice a2 p.st.length c2, .slice a3 p.ns.length c3, .slice a4 p.cd.length c4, .int .i64 p.dep, .int .i64 p.loc] 30))
  have R0 := hid (rises_texts a0 p.tx c0 (w.alloc (.cells #[.slice a0 p.tx.length c0, .slice a1 p.nu.length c1, .slice a2 p.st.length c2, .slice a3 p.ns.length c3, .slice a4 p.cd.length c4, .int .i64 p.dep, .int .i64 p.loc] 30)) hg.tx (r0.low HB1.out))
  have R1 := hid (rises_nums a1 p.nu c1 (w.alloc (.cells #[.slice a0 p.tx.length c0, .slice a1 p.nu.length c1, .slice a2 p.st.length c2, .slice a3 p.ns.length c3, .slice a4 p.cd.length c4, .int .i64 p.dep, .int .i64 p.loc] 30)) hg.nu (r1.low HB1.out))
  have R2 := hid (rises_tsets a2 p.st c2 (w.alloc (.cells #[.slice a0 p.tx.length c0, .slice a1 p.nu.length c1, .slice a2 p.st.length c2, .slice a3 p.ns.length c3, .slice a4 p.cd.length c4, .int .i64 p.dep, .int .i64 p.loc] 30)) hg.st hg.sk (r2.low HB1.out))
  have R3 := hid (rises_nsets a3 p.ns c3 (w.alloc (.cells #[.slice a0 p.tx.length c0, .slice a1 p.nu.length c1, .slice a2 p.st.length c2, .slice a3 p.ns.length c3, .slice a4 p.cd.length c4, .int .i64 p.dep, .int .i64 p.loc] 30)) hg.ns hg.nk (r3.low HB1.out))
  have R4 := hid (haveform_any a4 p.cd c4 (w.alloc (.cells #[.slice a0 p.tx.length c0, .slice a1 p.nu.length c1, .slice a2 p.st.length c2, .slice a3 p.ns.length c3, .slice a4 p.cd.length c4, .int .i64 p.dep, .int .i64 p.loc] 30)) hg.cd (r4.low HB1.out))
  have HW := hid (fun n lo hi W => within_any n lo hi W)
  have n0 := hg.tx
  have n1 := hg.nu
  have n2 := hg.st
  have n3 := hg.ns
  have n4 := hg.cd
  unfold formB
  clear h hg r0 r1 r2 r3 r4 hcs
  generalize (p.tx.all shS && risB ltS .none p.tx) = q0 at *
  generalize (p.nu.all shI && risB ltI .none p.nu) = q1 at *
  generalize (p.st.all (setB shS ltS) && risB (ltL ltS) .none p.st) = q2 at *
  generalize (p.ns.all (setB shI ltI) && risB (ltL ltI) .none p.ns) = q3 at *
  generalize p.cd.all insB = q4 at *
  generalize p.tx.length = L0 at *
  generalize p.nu.length = L1 at *
  generalize p.st.length = L2 at *
  generalize p.ns.length = L3 at *
  generalize p.cd.length = L4 at *
  generalize p.dep = dp at *
  generalize p.loc = lc at *
  have b0 : L0 ≤ maxLen := by unfold maxLen; omega
  have b1 : L1 ≤ maxLen := by unfold maxLen; omega
  have b2 : L2 ≤ maxLen := by unfold maxLen; omega
  have b3 : L3 ≤ maxLen := by unfold maxLen; omega
  have b4 : L4 ≤ maxLen := by unfold maxLen; omega
  go_enter Try.func22, Try.ntmps22
  go_upto_region 1 with fail
  generalize (w.alloc (.cells #[.slice a0 L0 c0, .slice a1 L1 c1, .slice a2 L2 c2, .slice a3 L3 c3, .slice a4 L4 c4, .int .i64 dp, .int .i64 lc] 30)) = W at *
  have HG := hid (show w.heap.size = w.heap.size from rfl)
  obtain ⟨g, hg⟩ : ∃ g, g = w.heap.size := ⟨_, rfl⟩
  rw [← hg] at HX1 ⊢
  have HGG := hid hg
  clear hg HG
  have x0 : W.cell? ⟨g, 0, none⟩ = some (.slice a0 L0 c0) := cell_of_row _ _ 0 _ _ _ HX1.out
  have x1 : W.cell? ⟨g, 1, none⟩ = some (.slice a1 L1 c1) := cell_of_row _ _ 1 _ _ _ HX1.out
  have x2 : W.cell? ⟨g, 2, none⟩ = some (.slice a2 L2 c2) := cell_of_row _ _ 2 _ _ _ HX1.out
  have x3 : W.cell? ⟨g, 3, none⟩ = some (.slice a3 L3 c3) := cell_of_row _ _ 3 _ _ _ HX1.out
  have x4 : W.cell? ⟨g, 4, none⟩ = some (.slice a4 L4 c4) := cell_of_row _ _ 4 _ _ _ HX1.out
  have x5 : W.cell? ⟨g, 5, none⟩ = some (.int .i64 dp) := cell_of_row _ _ 5 _ _ _ HX1.out
  have x6 : W.cell? ⟨g, 6, none⟩ = some (.int .i64 lc) := cell_of_row _ _ 6 _ _ _ HX1.out
  have hd := hid (HW.out dp 0 128 W)
  have hl := hid (HW.out lc 0 1024 W)
  cases e1 : inR dp 0 128 with
  | false =>
    rw [e1] at hd
    go_wp2_with fail
    refine hd.out.mono ?_
    rintro e w1 ⟨rfl, rfl⟩
    go_wp2_with fail
    go_ret
    exact ⟨(show Ending.returned (.bool false) = _ from by simp [*]), by first | exact HB1.out | exact HB2.out⟩
  | true =>
    rw [e1] at hd
    try simp only [Bool.true_and]
    go_wp2_with fail
    refine hd.out.mono ?_
    rintro e w1 ⟨rfl, rfl⟩
    cases e2 : inR lc 0 1024 with
    | false =>
      rw [e2] at hl
      go_wp2_with fail
      refine hl.out.mono ?_
      rintro e w2 ⟨rfl, rfl⟩
      go_wp2_with fail
      go_ret
      exact ⟨(show Ending.returned (.bool false) = _ from by simp [*]), by first | exact HB1.out | exact HB2.out⟩
    | true =>
      rw [e2] at hl
      try simp only [Bool.true_and]
      go_wp2_with fail
      refine hl.out.mono ?_
      rintro e w2 ⟨rfl, rfl⟩
      by_cases e3 : (L0 : Int) + L1 + L2 + L3 ≤ 4096
      case neg =>
        have e3d : decide ((L0 : Int) + L1 + L2 + L3 ≤ 4096) = false := by simpa using e3
        go_wp2_with fail
        go_ret
        exact ⟨(show Ending.returned (.bool false) = _ from by simp [*]), by first | exact HB1.out | exact HB2.out⟩
      have e3d : decide ((L0 : Int) + L1 + L2 + L3 ≤ 4096) = true := by simpa using e3
      by_cases e4 : (L4 : Int) ≤ 32768
      case neg =>
        have e4d : decide ((L4 : Int) ≤ 32768) = false := by simpa using e4
        go_wp2_with fail
        go_ret
        exact ⟨(show Ending.returned (.bool false) = _ from by simp [*]), by first | exact HB1.out | exact HB2.out⟩
      have e4d : decide ((L4 : Int) ≤ 32768) = true := by simpa using e4
      try simp only [e3d, e4d, Bool.true_and]
      go_wp2_with fail
      refine R0.out.mono ?_
      rintro e w3 ⟨rfl, rfl⟩
      cases q0 with
      | false =>
        go_wp2_with fail
        go_ret
        exact ⟨(show Ending.returned (.bool false) = _ from by simp [*]), by first | exact HB1.out | exact HB2.out⟩
      | true =>
        try simp only [Bool.true_and]
        go_wp2_with fail
        refine R1.out.mono ?_
        rintro e w4 ⟨rfl, rfl⟩
        cases q1 with
        | false =>
          go_wp2_with fail
          go_ret
          exact ⟨(show Ending.returned (.bool false) = _ from by simp [*]), by first | exact HB1.out | exact HB2.out⟩
        | true =>
          try simp only [Bool.true_and]
          go_wp2_with fail
          refine R2.out.mono ?_
          rintro e w5 ⟨rfl, rfl⟩
          cases q2 with
          | false =>
            go_wp2_with fail
            go_ret
            exact ⟨(show Ending.returned (.bool false) = _ from by simp [*]), by first | exact HB1.out | exact HB2.out⟩
          | true =>
            try simp only [Bool.true_and]
            go_wp2_with fail
            refine R3.out.mono ?_
            rintro e w6 ⟨rfl, rfl⟩
            cases q3 with
            | false =>
              go_wp2_with fail
              go_ret
              exact ⟨(show Ending.returned (.bool false) = _ from by simp [*]), by first | exact HB1.out | exact HB2.out⟩
            | true =>
              try simp only [Bool.true_and]
              go_wp2_with fail
              refine R4.out.mono ?_
              rintro e w9 ⟨rfl, l9⟩
              have HB2 := hid (bch HB1.out l9)
              clear l9
              go_wp2_with fail
              go_ret
              exact ⟨(show Ending.returned (.bool q4) = _ from by simp [*]), HB2.out⟩
end Go.Proofs.Ytnclpdgbjefpmaa.L
