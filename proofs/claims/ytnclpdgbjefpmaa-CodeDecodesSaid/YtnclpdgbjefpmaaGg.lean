import Derived.Laws.StructEq
import Derived.Test.YtnclpdgbjefpmaaGf
namespace Go.Proofs.Ytnclpdgbjefpmaa.L
open Go.RowKit
set_option linter.unusedVariables false
set_option linter.unusedSimpArgs false
theorem fldI : (Try.prog.fieldsOf 68).toList = [{ name := "Op", type := 66, offset := 0, embedded := false, tag := "", pkgPath := "", byteOffset := 0 }, { name := "A", type := 3, offset := 1, embedded := false, tag := "", pkgPath := "", byteOffset := 8 }, { name := "B", type := 3, offset := 2, embedded := false, tag := "", pkgPath := "", byteOffset := 16 }, { name := "C", type := 3, offset := 3, embedded := false, tag := "", pkgPath := "", byteOffset := 24 }] := by
  kernel_rfl
theorem strI : Try.prog.underlying 68 = some (.struct (Try.prog.fieldsOf 68)) := by kernel_rfl
theorem heldI : Try.prog.stoodInHeld 68 = false := by kernel_rfl
theorem guardI : Try.prog.eqGuardType Try.prog.depth 68 = false := by kernel_rfl
def insE (i j : Ins) : Bool := i.op == j.op && (i.a == j.a && (i.b == j.b && i.c == j.c))
theorem insE_iff (i j : Ins) : insE i j = true ↔ i = j := by
  obtain ⟨a, b, c, d⟩ := i
  obtain ⟨a', b', c', d'⟩ := j
  unfold insE
  simp [Bool.and_eq_true]
theorem ptI0 (a b c d : Int) (w : World) : (part 66 #[.int .i64 a, .int .i64 b, .int .i64 c, .int .i64 d] 0).run Try.prog w = .ok (.int .i64 a) w := by kernel_rfl
theorem ptI1 (a b c d : Int) (w : World) : (part 3 #[.int .i64 a, .int .i64 b, .int .i64 c, .int .i64 d] 1).run Try.prog w = .ok (.int .i64 b) w := by kernel_rfl
theorem ptI2 (a b c d : Int) (w : World) : (part 3 #[.int .i64 a, .int .i64 b, .int .i64 c, .int .i64 d] 2).run Try.prog w = .ok (.int .i64 c) w := by kernel_rfl
theorem ptI3 (a b c d : Int) (w : World) : (part 3 #[.int .i64 a, .int .i64 b, .int .i64 c, .int .i64 d] 3).run Try.prog w = .ok (.int .i64 d) w := by kernel_rfl
theorem eq_ins (a b c d a' b' c' d' : Int) (w : World) : (Op.equalIn 10000 68 (.agg #[.int .i64 a, .int .i64 b, .int .i64 c, .int .i64 d]) (.agg #[.int .i64 a', .int .i64 b', .int .i64 c', .int .i64 d'])).run Try.prog w = .ok (insE ⟨a, b, c, d⟩ ⟨a', b', c', d'⟩) w := by
  have e0 := ptI0 a b c d
  have e1 := ptI1 a b c d
  have e2 := ptI2 a b c d
  have e3 := ptI3 a b c d
  have f0 := ptI0 a' b' c' d'
  have f1 := ptI1 a' b' c' d'
  have f2 := ptI2 a' b' c' d'
  have f3 := ptI3 a' b' c' d'
  rw [run_equalIn_struct w 9999 68 _ _ strI heldI, fldI]
  generalize (#[.int .i64 a, .int .i64 b, .int .i64 c, .int .i64 d] : Array Value) = X at *
  generalize (#[.int .i64 a', .int .i64 b', .int .i64 c', .int .i64 d'] : Array Value) = Y at *
  have i0 : ∀ (x y : Int) (w : World), (Op.equalIn 9999 66 (.int .i64 x) (.int .i64 y)).run Try.prog w = .ok (x == y) w := fun x y w => by
    rw [run_equalIn_int w 9998 66 .i64 .i64 x y (by kernel_rfl)]
  have i1 : ∀ (x y : Int) (w : World), (Op.equalIn 9999 3 (.int .i64 x) (.int .i64 y)).run Try.prog w = .ok (x == y) w := fun x y w => by
    rw [run_equalIn_int w 9998 3 .i64 .i64 x y (by kernel_rfl)]
  unfold insE
  cases h0 : a == a' <;> cases h1 : b == b' <;> cases h2 : c == c' <;> cases h3 : d == d' <;> simp [Op.eqFields, Sem.run_bind, e0, e1, e2, e3, f0, f1, f2, f3, i0, i1, h0, h1, h2, h3]
theorem run_neI (a b c d a' b' c' d' : Int) (w : World) : (binOp .neq 68 (.agg #[.int .i64 a, .int .i64 b, .int .i64 c, .int .i64 d]) (.agg #[.int .i64 a', .int .i64 b', .int .i64 c', .int .i64 d'])).run Try.prog w = .ok (.bool (!insE ⟨a, b, c, d⟩ ⟨a', b', c', d'⟩)) w := by
  rw [run_neq_struct, eq_ins]
  rfl
/-- It answers whether. -/
def SmP (e : Ending) (P : Prop) : Prop := ∃ z, e = .returned (.bool z) ∧ (z = true ↔ P)
theorem rdl_at {α : Type} {inj : α → Value} {W : World} {a : Option Addr} {ls : List (List α)} (h : RdL inj W a ls) {k : Nat} (hk : k < ls.length) : ∃ b off ea ec, a = some ⟨b, off, none⟩ ∧ b < W.heap.size ∧ W.cell? ⟨b, off + k, none⟩ = some (.slice ea (ls.getD k []).length ec) ∧ RdV W ea ((ls.getD k []).map inj) := by
  obtain ⟨vs, h1, h2, h3⟩ := h
  obtain ⟨ea, ec, e, r⟩ := h3 k hk
  rcases h2 with h0 | ⟨b, off, ha, hb, hc⟩
  · omega
  · exact ⟨b, off, ea, ec, ha, hb, by rw [hc k (by omega), e], r⟩
theorem list_ext {α : Type} (d : α) {a b : List α} (hl : a.length = b.length) (h : ∀ j, j < a.length → a.getD j d = b.getD j d) : a = b := by
  refine List.ext_getElem hl fun j h1 h2 => ?_
  have := h j h1
  rw [List.getD_eq_getElem?_getD, List.getD_eq_getElem?_getD, List.getElem?_eq_getElem h1, List.getElem?_eq_getElem h2] at this
  exact this
theorem pg_ext {p q : Pg} (h0 : p.tx = q.tx) (h1 : p.nu = q.nu) (h2 : p.st = q.st) (h3 : p.ns = q.ns) (h4 : p.cd = q.cd) (h5 : p.dep = q.dep) (h6 : p.loc = q.loc) : p = q := by
  cases p
  cases q
  simp only at h0 h1 h2 h3 h4 h5 h6
  rw [h0, h1, h2, h3, h4, h5, h6]
set_option maxHeartbeats 4000000 in
set_option maxRecDepth 100000 in
theorem same_any (pv qv : Array Value) (p q : Pg) (w : World) (hp : PgR w pv p) (hq : PgR w qv q) (gp : GdP p) (gq : GdP q) : Calls Try.prog 17 #[.agg pv, .agg qv] w fun e w' => SmP e (p = q) ∧ Below w.heap.size w w' := by
  obtain ⟨a0, c0, a1, c1, a2, c2, a3, c3, a4, c4, rfl, r0, r1, r2, r3, r4⟩ := hp.ex
  obtain ⟨b0, d0, b1, d1, b2, d2, b3, d3, b4, d4, rfl, s0, s1, s2, s3, s4⟩ := hq.ex
  have HB1 := hid (show Below w.heap.size w ((w.alloc (.cells #[.slice a0 p.tx.length c0, .slice a1 p.nu.length c1, .slice a2 p.st.length c2, .slice a3 p.ns.length c3, .slice a4 p.cd.length c4, .int .i64 p.dep, .int .i64 p.loc] 30)).alloc (.cells #[.slice b0 q.tx.length d0, .slice b1 q.nu.length d1, .slice b2 q.st.length d2, .slice b3 q.ns.length d3, .slice b4 q.cd.length d4, .int .i64 q.dep, .int .i64 q.loc] 30)) from (belowA w _).trans ((belowA _ _).mono (belowA w _).size))
  have HPX := hid (show ∀ Y, Below ((w.alloc (.cells #[.slice a0 p.tx.length c0, .slice a1 p.nu.length c1, .slice a2 p.st.length c2, .slice a3 p.ns.length c3, .slice a4 p.cd.length c4, .int .i64 p.dep, .int .i64 p.loc] 30)).alloc (.cells #[.slice b0 q.tx.length d0, .slice b1 q.nu.length d1, .slice b2 q.st.length d2, .slice b3 q.ns.length d3, .slice b4 q.cd.length d4, .int .i64 q.dep, .int .i64 q.loc] 30)).heap.size ((w.alloc (.cells #[.slice a0 p.tx.length c0, .slice a1 p.nu.length c1, .slice a2 p.st.length c2, .slice a3 p.ns.length c3, .slice a4 p.cd.length c4, .int .i64 p.dep, .int .i64 p.loc] 30)).alloc (.cells #[.slice b0 q.tx.length d0, .slice b1 q.nu.length d1, .slice b2 q.st.length d2, .slice b3 q.ns.length d3, .slice b4 q.cd.length d4, .int .i64 q.dep, .int .i64 q.loc] 30)) Y → Y.heap[w.heap.size]? = some (.cells #[.slice a0 p.tx.length c0, .slice a1 p.nu.length c1, .slice a2 p.st.length c2, .slice a3 p.ns.length c3, .slice a4 p.cd.length c4, .int .i64 p.dep, .int .i64 p.loc] 30 (0, 0)) from fun Y hY => (hY.block _ (by simp; omega)).trans (((belowA (w.alloc (.cells #[.slice a0 p.tx.length c0, .slice a1 p.nu.length c1, .slice a2 p.st.length c2, .slice a3 p.ns.length c3, .slice a4 p.cd.length c4, .int .i64 p.dep, .int .i64 p.loc] 30)) (.cells #[.slice b0 q.tx.length d0, .slice b1 q.nu.length d1, .slice b2 q.st.length d2, .slice b3 q.ns.length d3, .slice b4 q.cd.length d4, .int .i64 q.dep, .int .i64 q.loc] 30)).block _ (by simp)).trans (heap_alloc_new w _)))
  have HQX := hid (show ∀ Y, Below ((w.alloc (.cells #[.slice a0 p.tx.length c0, .slice a1 p.nu.length c1, .slice a2 p.st.length c2, .slice a3 p.ns.length c3, .slice a4 p.cd.length c4, .int .i64 p.dep, .int .i64 p.loc] 30)).alloc (.cells #[.slice b0 q.tx.length d0, .slice b1 q.nu.length d1, .slice b2 q.st.length d2, .slice b3 q.ns.length d3, .slice b4 q.cd.length d4, .int .i64 q.dep, .int .i64 q.loc] 30)).heap.size ((w.alloc (.cells #[.slice a0 p.tx.length c0, .slice a1 p.nu.length c1, .slice a2 p.st.length c2, .slice a3 p.ns.length c3, .slice a4 p.cd.length c4, .int .i64 p.dep, .int .i64 p.loc] 30)).alloc (.cells #[.slice b0 q.tx.length d0, .slice b1 q.nu.length d1, .slice b2 q.st.length d2, .slice b3 q.ns.length d3, .slice b4 q.cd.length d4, .int .i64 q.dep, .int .i64 q.loc] 30)) Y → Y.heap[w.heap.size + 1]? = some (.cells #[.slice b0 q.tx.length d0, .slice b1 q.nu.length d1, .slice b2 q.st.length d2, .slice b3 q.ns.length d3, .slice b4 q.cd.length d4, .int .i64 q.dep, .int .i64 q.loc] 30 (0, 0)) from fun Y hY => (hY.block _ (by simp)).trans (by have h := heap_alloc_new (w.alloc (.cells #[.slice a0 p.tx.length c0, .slice a1 p.nu.length c1, .slice a2 p.st.length c2, .slice a3 p.ns.length c3, .slice a4 p.cd.length c4, .int .i64 p.dep, .int .i64 p.loc] 30)) (.cells #[.slice b0 q.tx.length d0, .slice b1 q.nu.length d1, .slice b2 q.st.length d2, .slice b3 q.ns.length d3, .slice b4 q.cd.length d4, .int .i64 q.dep, .int .i64 q.loc] 30); rw [World.size_alloc] at h; exact h))
  have R0 := hid (r0.low HB1.out)
  have R1 := hid (r1.low HB1.out)
  have R2 := hid (r2.low HB1.out)
  have R3 := hid (r3.low HB1.out)
  have R4 := hid (r4.low HB1.out)
  have S0 := hid (s0.low HB1.out)
  have S1 := hid (s1.low HB1.out)
  have S2 := hid (s2.low HB1.out)
  have S3 := hid (s3.low HB1.out)
  have S4 := hid (s4.low HB1.out)
  have HGP := hid gp
  have HGQ := hid gq
  clear hp hq gp gq r0 r1 r2 r3 r4 s0 s1 s2 s3 s4
  obtain ⟨L0, hL0⟩ : ∃ L, L = p.tx.length := ⟨_, rfl⟩
  obtain ⟨L1, hL1⟩ : ∃ L, L = p.nu.length := ⟨_, rfl⟩
  obtain ⟨L2, hL2⟩ : ∃ L, L = p.st.length := ⟨_, rfl⟩
  obtain ⟨L3, hL3⟩ : ∃ L, L = p.ns.length := ⟨_, rfl⟩
  obtain ⟨L4, hL4⟩ : ∃ L, L = p.cd.length := ⟨_, rfl⟩
  obtain ⟨M0, hM0⟩ : ∃ L, L = q.tx.length := ⟨_, rfl⟩
  obtain ⟨M1, hM1⟩ : ∃ L, L = q.nu.length := ⟨_, rfl⟩
  obtain ⟨M2, hM2⟩ : ∃ L, L = q.st.length := ⟨_, rfl⟩
  obtain ⟨M3, hM3⟩ : ∃ L, L = q.ns.length := ⟨_, rfl⟩
  obtain ⟨M4, hM4⟩ : ∃ L, L = q.cd.length := ⟨_, rfl⟩
  obtain ⟨dp, hdp⟩ : ∃ d, d = p.dep := ⟨_, rfl⟩
  obtain ⟨lp, hlp⟩ : ∃ d, d = p.loc := ⟨_, rfl⟩
  obtain ⟨dq, hdq⟩ : ∃ d, d = q.dep := ⟨_, rfl⟩
  obtain ⟨lq, hlq⟩ : ∃ d, d = q.loc := ⟨_, rfl⟩
  have HT := hid (fun (w1 : World) (h : Below _ _ w1) => same_s p.tx q.tx a0 b0 c0 d0 w1 HGP.out.tx HGQ.out.tx (R0.out.low h) (S0.out.low h))
  have HU := hid (fun (w1 : World) (h : Below _ _ w1) => same_i p.nu q.nu a1 b1 c1 d1 w1 HGP.out.nu HGQ.out.nu (R1.out.low h) (S1.out.low h))
  simp only [← hL0, ← hL1, ← hL2, ← hL3, ← hL4, ← hM0, ← hM1, ← hM2, ← hM3, ← hM4, ← hdp, ← hlp, ← hdq, ← hlq] at HB1 HPX HQX HT HU R0 R1 R2 R3 R4 S0 S1 S2 S3 S4 ⊢
  have HL0 := hid hL0
  have HL1 := hid hL1
  have HL2 := hid hL2
  have HL3 := hid hL3
  have HL4 := hid hL4
  have HM0 := hid hM0
  have HM1 := hid hM1
  have HM2 := hid hM2
  have HM3 := hid hM3
  have HM4 := hid hM4
  have Hdp := hid hdp
  have Hlp := hid hlp
  have Hdq := hid hdq
  have Hlq := hid hlq
  have eL0 : L0 ≤ 140737488355328 := by rw [hL0]; exact HGP.out.tx
  have eL1 : L1 ≤ 140737488355328 := by rw [hL1]; exact HGP.out.nu
  have eL2 : L2 ≤ 140737488355328 := by rw [hL2]; exact HGP.out.st
  have eL3 : L3 ≤ 140737488355328 := by rw [hL3]; exact HGP.out.ns
  have eL4 : L4 ≤ 140737488355328 := by rw [hL4]; exact HGP.out.cd
  have eM0 : M0 ≤ 140737488355328 := by rw [hM0]; exact HGQ.out.tx
  have eM1 : M1 ≤ 140737488355328 := by rw [hM1]; exact HGQ.out.nu
  have eM2 : M2 ≤ 140737488355328 := by rw [hM2]; exact HGQ.out.st
  have eM3 : M3 ≤ 140737488355328 := by rw [hM3]; exact HGQ.out.ns
  have eM4 : M4 ≤ 140737488355328 := by rw [hM4]; exact HGQ.out.cd
  have mL0 : L0 ≤ maxLen := by unfold maxLen; omega
  have mL1 : L1 ≤ maxLen := by unfold maxLen; omega
  have mL2 : L2 ≤ maxLen := by unfold maxLen; omega
  have mL3 : L3 ≤ maxLen := by unfold maxLen; omega
  have mL4 : L4 ≤ maxLen := by unfold maxLen; omega
  have mM0 : M0 ≤ maxLen := by unfold maxLen; omega
  have mM1 : M1 ≤ maxLen := by unfold maxLen; omega
  have mM2 : M2 ≤ maxLen := by unfold maxLen; omega
  have mM3 : M3 ≤ maxLen := by unfold maxLen; omega
  have mM4 : M4 ≤ maxLen := by unfold maxLen; omega
  clear hL0 hL1 hL2 hL3 hL4 hM0 hM1 hM2 hM3 hM4 hdp hlp hdq hlq
  go_enter Try.func17, Try.ntmps17
  go_upto_region 1 with fail
  try simp only [World.size_alloc]
  generalize ((w.alloc (.cells #[.slice a0 L0 c0, .slice a1 L1 c1, .slice a2 L2 c2, .slice a3 L3 c3, .slice a4 L4 c4, .int .i64 dp, .int .i64 lp] 30)).alloc (.cells #[.slice b0 M0 d0, .slice b1 M1 d1, .slice b2 M2 d2, .slice b3 M3 d3, .slice b4 M4 d4, .int .i64 dq, .int .i64 lq] 30)) = W1 at *
  obtain ⟨pb, hpb⟩ : ∃ b, b = w.heap.size := ⟨_, rfl⟩
  obtain ⟨qb, hqb⟩ : ∃ b, b = w.heap.size + 1 := ⟨_, rfl⟩
  rw [← hpb] at HPX
  rw [← hqb] at HQX
  rw [← hqb, ← hpb]
  clear hpb hqb
  have x0 : W1.cell? ⟨pb, 0, none⟩ = some (.slice a0 L0 c0) := cell_of_row _ _ 0 _ _ _ (HPX.out W1 (Below.refl _ _))
  have y0 : W1.cell? ⟨qb, 0, none⟩ = some (.slice b0 M0 d0) := cell_of_row _ _ 0 _ _ _ (HQX.out W1 (Below.refl _ _))
  have x1 : W1.cell? ⟨pb, 1, none⟩ = some (.slice a1 L1 c1) := cell_of_row _ _ 1 _ _ _ (HPX.out W1 (Below.refl _ _))
  have y1 : W1.cell? ⟨qb, 1, none⟩ = some (.slice b1 M1 d1) := cell_of_row _ _ 1 _ _ _ (HQX.out W1 (Below.refl _ _))
  have x2 : W1.cell? ⟨pb, 2, none⟩ = some (.slice a2 L2 c2) := cell_of_row _ _ 2 _ _ _ (HPX.out W1 (Below.refl _ _))
  have y2 : W1.cell? ⟨qb, 2, none⟩ = some (.slice b2 M2 d2) := cell_of_row _ _ 2 _ _ _ (HQX.out W1 (Below.refl _ _))
  have x3 : W1.cell? ⟨pb, 3, none⟩ = some (.slice a3 L3 c3) := cell_of_row _ _ 3 _ _ _ (HPX.out W1 (Below.refl _ _))
  have y3 : W1.cell? ⟨qb, 3, none⟩ = some (.slice b3 M3 d3) := cell_of_row _ _ 3 _ _ _ (HQX.out W1 (Below.refl _ _))
  have x4 : W1.cell? ⟨pb, 4, none⟩ = some (.slice a4 L4 c4) := cell_of_row _ _ 4 _ _ _ (HPX.out W1 (Below.refl _ _))
  have y4 : W1.cell? ⟨qb, 4, none⟩ = some (.slice b4 M4 d4) := cell_of_row _ _ 4 _ _ _ (HQX.out W1 (Below.refl _ _))
  have x5 : W1.cell? ⟨pb, 5, none⟩ = some (.int .i64 dp) := cell_of_row _ _ 5 _ _ _ (HPX.out W1 (Below.refl _ _))
  have y5 : W1.cell? ⟨qb, 5, none⟩ = some (.int .i64 dq) := cell_of_row _ _ 5 _ _ _ (HQX.out W1 (Below.refl _ _))
  have x6 : W1.cell? ⟨pb, 6, none⟩ = some (.int .i64 lp) := cell_of_row _ _ 6 _ _ _ (HPX.out W1 (Below.refl _ _))
  have y6 : W1.cell? ⟨qb, 6, none⟩ = some (.int .i64 lq) := cell_of_row _ _ 6 _ _ _ (HQX.out W1 (Below.refl _ _))
  by_cases hd : dp = dq
  rotate_left
  · have HN := hid (show ¬ p = q from fun h => hd (by rw [Hdp.out, Hdq.out, h]))
    have n1 : (dp != dq) = true := by simpa using hd
    have n2 : (dp == dq) = false := by simpa using hd
    clear hd
    go_wp2_with fail
    go_ret
    exact ⟨⟨false, by first | rfl | simp, ⟨fun h => (by cases h), fun h => absurd h HN.out⟩⟩, HB1.out.trans ((Below.refl _ _).mono HB1.out.size)⟩
  by_cases hl : lp = lq
  rotate_left
  · have HN := hid (show ¬ p = q from fun h => hl (by rw [Hlp.out, Hlq.out, h]))
    have n0 : (dp != dq) = false := by simp [hd]
    have n1 : (lp != lq) = true := by simpa using hl
    have n2 : (lp == lq) = false := by simpa using hl
    clear hl hd
    go_wp2_with fail
    go_ret
    exact ⟨⟨false, by first | rfl | simp, ⟨fun h => (by cases h), fun h => absurd h HN.out⟩⟩, HB1.out.trans ((Below.refl _ _).mono HB1.out.size)⟩
  have HD := hid hd
  have HLL := hid hl
  have n0 : (dp != dq) = false := by simp [hd]
  have n1 : (lp != lq) = false := by simp [hl]
  clear hd hl
  go_wp2_with fail
  clear x0 y0 x1 y1 x2 y2 x3 y3 x4 y4 x5 y5 x6 y6
  refine (HT.out W1 (Below.refl _ _)).mono ?_
  rintro e w1 ⟨rfl, l1⟩
  have HB2 := hid l1
  clear l1 HT
  cases ht : smB ltS p.tx q.tx with
  | false =>
    have HN := hid (show ¬ p = q from fun h => by rw [h, (smS_iff _ _).2 rfl] at ht; cases ht)
    clear ht
    go_wp2_with fail
    go_ret
    exact ⟨⟨false, by first | rfl | simp, ⟨fun h => (by cases h), fun h => absurd h HN.out⟩⟩, HB1.out.trans ((HB2.out).mono HB1.out.size)⟩
  | true =>
    have HTX := hid ((smS_iff _ _).1 ht)
    clear ht
    have x0 : w1.cell? ⟨pb, 0, none⟩ = some (.slice a0 L0 c0) := cell_of_row _ _ 0 _ _ _ (HPX.out w1 HB2.out)
    have y0 : w1.cell? ⟨qb, 0, none⟩ = some (.slice b0 M0 d0) := cell_of_row _ _ 0 _ _ _ (HQX.out w1 HB2.out)
    have x1 : w1.cell? ⟨pb, 1, none⟩ = some (.slice a1 L1 c1) := cell_of_row _ _ 1 _ _ _ (HPX.out w1 HB2.out)
    have y1 : w1.cell? ⟨qb, 1, none⟩ = some (.slice b1 M1 d1) := cell_of_row _ _ 1 _ _ _ (HQX.out w1 HB2.out)
    have x2 : w1.cell? ⟨pb, 2, none⟩ = some (.slice a2 L2 c2) := cell_of_row _ _ 2 _ _ _ (HPX.out w1 HB2.out)
    have y2 : w1.cell? ⟨qb, 2, none⟩ = some (.slice b2 M2 d2) := cell_of_row _ _ 2 _ _ _ (HQX.out w1 HB2.out)
    have x3 : w1.cell? ⟨pb, 3, none⟩ = some (.slice a3 L3 c3) := cell_of_row _ _ 3 _ _ _ (HPX.out w1 HB2.out)
    have y3 : w1.cell? ⟨qb, 3, none⟩ = some (.slice b3 M3 d3) := cell_of_row _ _ 3 _ _ _ (HQX.out w1 HB2.out)
    have x4 : w1.cell? ⟨pb, 4, none⟩ = some (.slice a4 L4 c4) := cell_of_row _ _ 4 _ _ _ (HPX.out w1 HB2.out)
    have y4 : w1.cell? ⟨qb, 4, none⟩ = some (.slice b4 M4 d4) := cell_of_row _ _ 4 _ _ _ (HQX.out w1 HB2.out)
    have x5 : w1.cell? ⟨pb, 5, none⟩ = some (.int .i64 dp) := cell_of_row _ _ 5 _ _ _ (HPX.out w1 HB2.out)
    have y5 : w1.cell? ⟨qb, 5, none⟩ = some (.int .i64 dq) := cell_of_row _ _ 5 _ _ _ (HQX.out w1 HB2.out)
    have x6 : w1.cell? ⟨pb, 6, none⟩ = some (.int .i64 lp) := cell_of_row _ _ 6 _ _ _ (HPX.out w1 HB2.out)
    have y6 : w1.cell? ⟨qb, 6, none⟩ = some (.int .i64 lq) := cell_of_row _ _ 6 _ _ _ (HQX.out w1 HB2.out)
    go_wp2_with fail
    clear x0 y0 x1 y1 x2 y2 x3 y3 x4 y4 x5 y5 x6 y6
    refine (HU.out w1 HB2.out).mono ?_
    rintro e w2 ⟨rfl, l1⟩
    have HB3 := hid (bch HB2.out l1)
    clear l1 HU HB2
    cases ht : smB ltI p.nu q.nu with
    | false =>
      have HN := hid (show ¬ p = q from fun h => by rw [h, (smI_iff _ _).2 rfl] at ht; cases ht)
      clear ht
      go_wp2_with fail
      go_ret
      exact ⟨⟨false, by first | rfl | simp, ⟨fun h => (by cases h), fun h => absurd h HN.out⟩⟩, HB1.out.trans ((HB3.out).mono HB1.out.size)⟩
    | true =>
      have HNU := hid ((smI_iff _ _).1 ht)
      clear ht
      have x0 : w2.cell? ⟨pb, 0, none⟩ = some (.slice a0 L0 c0) := cell_of_row _ _ 0 _ _ _ (HPX.out w2 HB3.out)
      have y0 : w2.cell? ⟨qb, 0, none⟩ = some (.slice b0 M0 d0) := cell_of_row _ _ 0 _ _ _ (HQX.out w2 HB3.out)
      have x1 : w2.cell? ⟨pb, 1, none⟩ = some (.slice a1 L1 c1) := cell_of_row _ _ 1 _ _ _ (HPX.out w2 HB3.out)
      have y1 : w2.cell? ⟨qb, 1, none⟩ = some (.slice b1 M1 d1) := cell_of_row _ _ 1 _ _ _ (HQX.out w2 HB3.out)
      have x2 : w2.cell? ⟨pb, 2, none⟩ = some (.slice a2 L2 c2) := cell_of_row _ _ 2 _ _ _ (HPX.out w2 HB3.out)
      have y2 : w2.cell? ⟨qb, 2, none⟩ = some (.slice b2 M2 d2) := cell_of_row _ _ 2 _ _ _ (HQX.out w2 HB3.out)
      have x3 : w2.cell? ⟨pb, 3, none⟩ = some (.slice a3 L3 c3) := cell_of_row _ _ 3 _ _ _ (HPX.out w2 HB3.out)
      have y3 : w2.cell? ⟨qb, 3, none⟩ = some (.slice b3 M3 d3) := cell_of_row _ _ 3 _ _ _ (HQX.out w2 HB3.out)
      have x4 : w2.cell? ⟨pb, 4, none⟩ = some (.slice a4 L4 c4) := cell_of_row _ _ 4 _ _ _ (HPX.out w2 HB3.out)
      have y4 : w2.cell? ⟨qb, 4, none⟩ = some (.slice b4 M4 d4) := cell_of_row _ _ 4 _ _ _ (HQX.out w2 HB3.out)
      have x5 : w2.cell? ⟨pb, 5, none⟩ = some (.int .i64 dp) := cell_of_row _ _ 5 _ _ _ (HPX.out w2 HB3.out)
      have y5 : w2.cell? ⟨qb, 5, none⟩ = some (.int .i64 dq) := cell_of_row _ _ 5 _ _ _ (HQX.out w2 HB3.out)
      have x6 : w2.cell? ⟨pb, 6, none⟩ = some (.int .i64 lp) := cell_of_row _ _ 6 _ _ _ (HPX.out w2 HB3.out)
      have y6 : w2.cell? ⟨qb, 6, none⟩ = some (.int .i64 lq) := cell_of_row _ _ 6 _ _ _ (HQX.out w2 HB3.out)
      by_cases hL2 : L2 = M2
      rotate_left
      · have HN := hid (show ¬ p = q from fun h => hL2 (by rw [HL2.out, HM2.out, h]))
        have n2 : (((L2 : Nat) : Int) != ((M2 : Nat) : Int)) = true := by simp; omega
        have n3 : (((L2 : Nat) : Int) == ((M2 : Nat) : Int)) = false := by simp; omega
        have n4 : ¬ (((L2 : Nat) : Int) = ((M2 : Nat) : Int)) := by omega
        clear hL2 
        go_wp2_with fail
        go_ret
        exact ⟨⟨false, by first | rfl | simp, ⟨fun h => (by cases h), fun h => absurd h HN.out⟩⟩, HB1.out.trans ((HB3.out).mono HB1.out.size)⟩
      by_cases hL3 : L3 = M3
      rotate_left
      · have HN := hid (show ¬ p = q from fun h => hL3 (by rw [HL3.out, HM3.out, h]))
        have n2 : (((L3 : Nat) : Int) != ((M3 : Nat) : Int)) = true := by simp; omega
        have n3 : (((L3 : Nat) : Int) == ((M3 : Nat) : Int)) = false := by simp; omega
        have n4 : ¬ (((L3 : Nat) : Int) = ((M3 : Nat) : Int)) := by omega
        have nL2 : (((L2 : Nat) : Int) != ((M2 : Nat) : Int)) = false := by simp; omega
        clear hL3 hL2
        go_wp2_with fail
        go_ret
        exact ⟨⟨false, by first | rfl | simp, ⟨fun h => (by cases h), fun h => absurd h HN.out⟩⟩, HB1.out.trans ((HB3.out).mono HB1.out.size)⟩
      by_cases hL4 : L4 = M4
      rotate_left
      · have HN := hid (show ¬ p = q from fun h => hL4 (by rw [HL4.out, HM4.out, h]))
        have n2 : (((L4 : Nat) : Int) != ((M4 : Nat) : Int)) = true := by simp; omega
        have n3 : (((L4 : Nat) : Int) == ((M4 : Nat) : Int)) = false := by simp; omega
        have n4 : ¬ (((L4 : Nat) : Int) = ((M4 : Nat) : Int)) := by omega
        have nL2 : (((L2 : Nat) : Int) != ((M2 : Nat) : Int)) = false := by simp; omega
        have nL3 : (((L3 : Nat) : Int) != ((M3 : Nat) : Int)) = false := by simp; omega
        clear hL4 hL2 hL3
        go_wp2_with fail
        go_ret
        exact ⟨⟨false, by first | rfl | simp, ⟨fun h => (by cases h), fun h => absurd h HN.out⟩⟩, HB1.out.trans ((HB3.out).mono HB1.out.size)⟩
      have nL2 : (((L2 : Nat) : Int) != ((M2 : Nat) : Int)) = false := by simp; omega
      have nL3 : (((L3 : Nat) : Int) != ((M3 : Nat) : Int)) = false := by simp; omega
      have nL4 : (((L4 : Nat) : Int) != ((M4 : Nat) : Int)) = false := by simp; omega
      have HL2M := hid hL2
      have HL3M := hid hL3
      have HL4M := hid hL4
      clear hL2 hL3 hL4
      go_wp2_with fail
      clear x0 y0 x1 y1 x2 y2 x3 y3 x4 y4 x5 y5 x6 y6
      clear n0 n1 nL2 nL3 nL4
      go_loopw [5] (fun i wr => ∃ k : Nat, k ≤ L2 ∧ i = .int .i64 k ∧ Hid (Below W1.heap.size W1 wr) ∧ Hid (∀ j, j < k → p.st.getD j [] = q.st.getD j [])) (fun i _ => L2 - (intOf i).toNat)
      case atStart => exact ⟨0, Nat.zero_le _, rfl, HB3, hid (fun j hj => absurd hj (Nat.not_lt_zero j))⟩
      case round =>
        obtain ⟨k, hk, rfl, HB, HK⟩ := hrel
        by_cases hlt : k < L2
        · have g1 : (k : Int) < (L2 : Int) := by omega
          have g2 : (0 : Int) ≤ (k : Int) := by omega
          have g3 : (k : Int) < (M2 : Int) := by have := HL2M.out; omega
          obtain ⟨b, off, ea, ec, hae, hbb, hcc, hrr⟩ := rdl_at R2.out (by rw [← HL2.out]; exact hlt)
          obtain ⟨b', off', ea', ec', hae', hbb', hcc', hrr'⟩ := rdl_at S2.out (show k < q.st.length from by rw [← HM2.out]; have := HL2M.out; omega)
          subst hae hae'
          have HCA := hid (fun (Y : World) (hY : Below W1.heap.size W1 Y) => (hY.cell (p := ⟨b, off + k, none⟩) hbb).trans hcc)
          have HCB := hid (fun (Y : World) (hY : Below W1.heap.size W1 Y) => (hY.cell (p := ⟨b', off' + k, none⟩) hbb').trans hcc')
          have HTT := hid (fun (Y : World) (hY : Below W1.heap.size W1 Y) => same_s (p.st.getD k []) (q.st.getD k []) ea ea' ec ec' Y (HGP.out.sk _ (by rw [List.getD_eq_getElem?_getD, List.getElem?_eq_getElem (by rw [← HL2.out]; exact hlt)]; exact List.getElem_mem _)) (HGQ.out.sk _ (by rw [List.getD_eq_getElem?_getD, List.getElem?_eq_getElem (by rw [← HM2.out]; have := HL2M.out; omega)]; exact List.getElem_mem _)) (hrr.low hY) (hrr'.low hY))
          clear hbb hbb' hcc hcc' hrr hrr'
          obtain ⟨z, hz⟩ : ∃ z, z = smB ltS (p.st.getD k []) (q.st.getD k []) := ⟨_, rfl⟩
          rw [← hz] at HTT
          have HZ := hid hz
          clear hz
          generalize (p.st.getD k []).length = n1 at *
          generalize (q.st.getD k []).length = n2 at *
          have MS := hid (show ∀ Y, Below W1.heap.size W1 Y → (fun Y : World => Y.cell? ⟨pb, 2, none⟩ = some (.slice (some ⟨b, off, none⟩) L2 c2) ∧ Y.cell? ⟨qb, 2, none⟩ = some (.slice (some ⟨b', off', none⟩) M2 d2) ∧ Y.cell? ⟨b, off + k, none⟩ = some (.slice ea n1 ec) ∧ Y.cell? ⟨b', off' + k, none⟩ = some (.slice ea' n2 ec')) Y from fun Y hY => ⟨cell_of_row _ _ 2 _ _ _ (HPX.out Y hY), cell_of_row _ _ 2 _ _ _ (HQX.out Y hY), HCA.out Y hY, HCB.out Y hY⟩)
          have HDZ := hid (HB.out.trans ((drew_below wr 1).mono HB.out.size))
          obtain ⟨x2, y2, z1, z2⟩ := MS.out wr HB.out
          go_upto_region 6 with fail
          clear x2 y2 z1 z2
          refine wp_region_held_drew (S := (fun Y : World => Y.cell? ⟨pb, 2, none⟩ = some (.slice (some ⟨b, off, none⟩) L2 c2) ∧ Y.cell? ⟨qb, 2, none⟩ = some (.slice (some ⟨b', off', none⟩) M2 d2) ∧ Y.cell? ⟨b, off + k, none⟩ = some (.slice ea n1 ec) ∧ Y.cell? ⟨b', off' + k, none⟩ = some (.slice ea' n2 ec'))) (by kernel_rfl) ?_ (fun hHeld => ?_)
          · exact MS.out _ HDZ.out
          have HDZ := hid (show Below W1.heap.size W1 wr.drew from HDZ.out)
          generalize wr.drew = Z at *
          refine wpAnyH_take (i := 0) (v := ?_) rfl (by kernel_rfl) (by kernel_rfl) (by kernel_rfl) (fun _ _ _ h => h) (Or.inl ⟨by rfl, ?_⟩) (by assumption) ?_
          rotate_left
          · (intro w hSw; (try dsimp only at hSw); go_simp; try with_reducible rfl)
          try simp only [Act.put, List.setIfInBounds_toArray, List.set_cons_zero, List.set_cons_succ]
          refine wpAnyH_take (i := 1) (v := ?_) rfl (by kernel_rfl) (by kernel_rfl) (by kernel_rfl) (fun _ _ _ h => h) (Or.inl ⟨by rfl, ?_⟩) (by assumption) ?_
          rotate_left
          · (intro w hSw; (try dsimp only at hSw); go_simp; try with_reducible rfl)
          try simp only [Act.put, List.setIfInBounds_toArray, List.set_cons_zero, List.set_cons_succ]
          refine wpAnyH_take (i := 2) (v := ?_) rfl (by kernel_rfl) (by kernel_rfl) (by kernel_rfl) (fun _ _ _ h => h) (Or.inl ⟨by rfl, ?_⟩) (by assumption) ?_
          rotate_left
          · (intro w hSw; (try dsimp only at hSw); go_simp; try with_reducible rfl)
          try simp only [Act.put, List.setIfInBounds_toArray, List.set_cons_zero, List.set_cons_succ]
          refine wpAnyH_take (i := 3) (v := ?_) rfl (by kernel_rfl) (by kernel_rfl) (by kernel_rfl) (fun _ _ _ h => h) (Or.inl ⟨by rfl, ?_⟩) (by assumption) ?_
          rotate_left
          · (intro w hSw; (try dsimp only at hSw); go_simp; try with_reducible rfl)
          try simp only [Act.put, List.setIfInBounds_toArray, List.set_cons_zero, List.set_cons_succ]
          refine wpAnyH_take (i := 4) (v := ?_) rfl (by kernel_rfl) (by kernel_rfl) (by kernel_rfl) (fun _ _ _ h => h) (Or.inl ⟨by rfl, ?_⟩) (by assumption) ?_
          rotate_left
          · (intro w hSw; (try dsimp only at hSw); go_simp; try with_reducible rfl)
          try simp only [Act.put, List.setIfInBounds_toArray, List.set_cons_zero, List.set_cons_succ]
          refine wpAnyH_take (i := 5) (v := ?_) rfl (by kernel_rfl) (by kernel_rfl) (by kernel_rfl) (fun _ _ _ h => h) (Or.inl ⟨by rfl, ?_⟩) (by assumption) ?_
          rotate_left
          · (intro w hSw; (try dsimp only at hSw); go_simp; try with_reducible rfl)
          try simp only [Act.put, List.setIfInBounds_toArray, List.set_cons_zero, List.set_cons_succ]
          refine wpAnyH_take (i := 6) (v := ?_) rfl (by kernel_rfl) (by kernel_rfl) (by kernel_rfl) (fun _ _ _ h => h) (Or.inl ⟨by rfl, ?_⟩) (by assumption) ?_
          rotate_left
          · (intro w hSw; (try dsimp only at hSw); go_simp; try with_reducible rfl)
          try simp only [Act.put, List.setIfInBounds_toArray, List.set_cons_zero, List.set_cons_succ]
          refine wpAnyH_take (i := 7) (v := ?_) rfl (by kernel_rfl) (by kernel_rfl) (by kernel_rfl) (fun _ _ _ h => h) (Or.inl ⟨by rfl, ?_⟩) (by assumption) ?_
          rotate_left
          · (intro w hSw; (try dsimp only at hSw); go_simp; try with_reducible rfl)
          try simp only [Act.put, List.setIfInBounds_toArray, List.set_cons_zero, List.set_cons_succ]
          refine wpAnyH_take (i := 8) (v := ?_) rfl (by kernel_rfl) (by kernel_rfl) (by kernel_rfl) (fun _ _ _ h => h) (Or.inl ⟨by rfl, ?_⟩) (by assumption) ?_
          rotate_left
          · (intro w hSw; (try dsimp only at hSw); go_simp; try with_reducible rfl)
          try simp only [Act.put, List.setIfInBounds_toArray, List.set_cons_zero, List.set_cons_succ]
          refine wpAnyH_take (i := 9) (v := ?_) rfl (by kernel_rfl) (by kernel_rfl) (by kernel_rfl) (fun _ _ _ h => h) (Or.inl ⟨by rfl, ?_⟩) (by assumption) ?_
          rotate_left
          · (intro w hSw; (try dsimp only at hSw); go_simp; try with_reducible rfl)
          try simp only [Act.put, List.setIfInBounds_toArray, List.set_cons_zero, List.set_cons_succ]
          refine wpAnyH_ready (rs := [10]) (by kernel_rfl) (by simp) ?_
          refine AllReadyH.cons rfl (fun K hK => ?_) AllReadyH.nil
          go_simp
          refine (HTT.out Z HDZ.out).mono ?_
          rintro e w3 ⟨rfl, l1⟩
          have HB4 := hid (bch HDZ.out l1)
          clear l1 HTT
          refine hK.out _ _ ?_ (fun hHeld => ?_)
          · exact MS.out _ HB4.out
          clear hK K hHeld
          try simp only [Act.put, List.setIfInBounds_toArray, List.set_cons_zero, List.set_cons_succ]
          have hHeld := MS.out _ HB4.out
          refine wpAnyH_take (i := 11) (v := ?_) rfl (by kernel_rfl) (by kernel_rfl) (by kernel_rfl) (fun _ _ _ h => h) (Or.inl ⟨by rfl, ?_⟩) (by assumption) ?_
          rotate_left
          · (intro w hSw; (try dsimp only at hSw); go_simp; try with_reducible rfl)
          try simp only [Act.put, List.setIfInBounds_toArray, List.set_cons_zero, List.set_cons_succ]
          refine wpAnyH_done (by kernel_rfl) ?_ _
          clear hHeld
          cases z with
          | false =>
            have HN := hid (show ¬ p = q from fun h => by have ht := HZ.out; rw [h, (smS_iff _ _).2 rfl] at ht; cases ht)
            go_wp2_with fail
            go_ret
            exact ⟨⟨false, by first | rfl | simp, ⟨fun h => (by cases h), fun h => absurd h HN.out⟩⟩, HB1.out.trans (HB4.out.mono HB1.out.size)⟩
          | true =>
            have HEQ := hid ((smS_iff _ _).1 HZ.out.symm)
            go_wp2_with fail
            refine ⟨⟨k + 1, by omega, by go_num, HB4, hid (fun j hj => ?_)⟩, by simp [intOf]; omega⟩
            by_cases hj2 : j < k
            · exact HK.out j hj2
            · obtain rfl : j = k := by omega
              exact HEQ.out
        · obtain rfl : k = L2 := by omega
          have HB5E := hid (show p.st = q.st from list_ext [] (by rw [← HL2.out, ← HM2.out]; exact HL2M.out) (by rw [← HL2.out]; exact HK.out))
          have HB5 := HB
          clear HK
          have g1 : ¬ (k : Int) < (k : Int) := by omega
          have x2 : wr.cell? ⟨pb, 2, none⟩ = some (.slice a2 k c2) := cell_of_row _ _ 2 _ _ _ (HPX.out wr HB.out)
          go_wp2_with fail
          clear x2
          go_loopw [6] (fun i wr => ∃ k : Nat, k ≤ L3 ∧ i = .int .i64 k ∧ Hid (Below W1.heap.size W1 wr) ∧ Hid (∀ j, j < k → p.ns.getD j [] = q.ns.getD j [])) (fun i _ => L3 - (intOf i).toNat)
          case atStart => exact ⟨0, Nat.zero_le _, rfl, HB5, hid (fun j hj => absurd hj (Nat.not_lt_zero j))⟩
          case round =>
            obtain ⟨k, hk, rfl, HB, HK⟩ := hrel
            by_cases hlt : k < L3
            · have g1 : (k : Int) < (L3 : Int) := by omega
              have g2 : (0 : Int) ≤ (k : Int) := by omega
              have g3 : (k : Int) < (M3 : Int) := by have := HL3M.out; omega
              obtain ⟨b, off, ea, ec, hae, hbb, hcc, hrr⟩ := rdl_at R3.out (by rw [← HL3.out]; exact hlt)
              obtain ⟨b', off', ea', ec', hae', hbb', hcc', hrr'⟩ := rdl_at S3.out (show k < q.ns.length from by rw [← HM3.out]; have := HL3M.out; omega)
              subst hae hae'
              have HCA := hid (fun (Y : World) (hY : Below W1.heap.size W1 Y) => (hY.cell (p := ⟨b, off + k, none⟩) hbb).trans hcc)
              have HCB := hid (fun (Y : World) (hY : Below W1.heap.size W1 Y) => (hY.cell (p := ⟨b', off' + k, none⟩) hbb').trans hcc')
              have HTT := hid (fun (Y : World) (hY : Below W1.heap.size W1 Y) => same_i (p.ns.getD k []) (q.ns.getD k []) ea ea' ec ec' Y (HGP.out.nk _ (by rw [List.getD_eq_getElem?_getD, List.getElem?_eq_getElem (by rw [← HL3.out]; exact hlt)]; exact List.getElem_mem _)) (HGQ.out.nk _ (by rw [List.getD_eq_getElem?_getD, List.getElem?_eq_getElem (by rw [← HM3.out]; have := HL3M.out; omega)]; exact List.getElem_mem _)) (hrr.low hY) (hrr'.low hY))
              clear hbb hbb' hcc hcc' hrr hrr'
              obtain ⟨z, hz⟩ : ∃ z, z = smB ltI (p.ns.getD k []) (q.ns.getD k []) := ⟨_, rfl⟩
              rw [← hz] at HTT
              have HZ := hid hz
              clear hz
              generalize (p.ns.getD k []).length = n1 at *
              generalize (q.ns.getD k []).length = n2 at *
              have MS := hid (show ∀ Y, Below W1.heap.size W1 Y → (fun Y : World => Y.cell? ⟨pb, 3, none⟩ = some (.slice (some ⟨b, off, none⟩) L3 c3) ∧ Y.cell? ⟨qb, 3, none⟩ = some (.slice (some ⟨b', off', none⟩) M3 d3) ∧ Y.cell? ⟨b, off + k, none⟩ = some (.slice ea n1 ec) ∧ Y.cell? ⟨b', off' + k, none⟩ = some (.slice ea' n2 ec')) Y from fun Y hY => ⟨cell_of_row _ _ 3 _ _ _ (HPX.out Y hY), cell_of_row _ _ 3 _ _ _ (HQX.out Y hY), HCA.out Y hY, HCB.out Y hY⟩)
              have HDZ := hid (HB.out.trans ((drew_below wr 1).mono HB.out.size))
              obtain ⟨x3, y3, z1, z2⟩ := MS.out wr HB.out
              go_upto_region 11 with fail
              clear x3 y3 z1 z2
              refine wp_region_held_drew (S := (fun Y : World => Y.cell? ⟨pb, 3, none⟩ = some (.slice (some ⟨b, off, none⟩) L3 c3) ∧ Y.cell? ⟨qb, 3, none⟩ = some (.slice (some ⟨b', off', none⟩) M3 d3) ∧ Y.cell? ⟨b, off + k, none⟩ = some (.slice ea n1 ec) ∧ Y.cell? ⟨b', off' + k, none⟩ = some (.slice ea' n2 ec'))) (by kernel_rfl) ?_ (fun hHeld => ?_)
              · exact MS.out _ HDZ.out
              have HDZ := hid (show Below W1.heap.size W1 wr.drew from HDZ.out)
              generalize wr.drew = Z at *
              refine wpAnyH_take (i := 0) (v := ?_) rfl (by kernel_rfl) (by kernel_rfl) (by kernel_rfl) (fun _ _ _ h => h) (Or.inl ⟨by rfl, ?_⟩) (by assumption) ?_
              rotate_left
              · (intro w hSw; (try dsimp only at hSw); go_simp; try with_reducible rfl)
              try simp only [Act.put, List.setIfInBounds_toArray, List.set_cons_zero, List.set_cons_succ]
              refine wpAnyH_take (i := 1) (v := ?_) rfl (by kernel_rfl) (by kernel_rfl) (by kernel_rfl) (fun _ _ _ h => h) (Or.inl ⟨by rfl, ?_⟩) (by assumption) ?_
              rotate_left
              · (intro w hSw; (try dsimp only at hSw); go_simp; try with_reducible rfl)
              try simp only [Act.put, List.setIfInBounds_toArray, List.set_cons_zero, List.set_cons_succ]
              refine wpAnyH_take (i := 2) (v := ?_) rfl (by kernel_rfl) (by kernel_rfl) (by kernel_rfl) (fun _ _ _ h => h) (Or.inl ⟨by rfl, ?_⟩) (by assumption) ?_
              rotate_left
              · (intro w hSw; (try dsimp only at hSw); go_simp; try with_reducible rfl)
              try simp only [Act.put, List.setIfInBounds_toArray, List.set_cons_zero, List.set_cons_succ]
              refine wpAnyH_take (i := 3) (v := ?_) rfl (by kernel_rfl) (by kernel_rfl) (by kernel_rfl) (fun _ _ _ h => h) (Or.inl ⟨by rfl, ?_⟩) (by assumption) ?_
              rotate_left
              · (intro w hSw; (try dsimp only at hSw); go_simp; try with_reducible rfl)
              try simp only [Act.put, List.setIfInBounds_toArray, List.set_cons_zero, List.set_cons_succ]
              refine wpAnyH_take (i := 4) (v := ?_) rfl (by kernel_rfl) (by kernel_rfl) (by kernel_rfl) (fun _ _ _ h => h) (Or.inl ⟨by rfl, ?_⟩) (by assumption) ?_
              rotate_left
              · (intro w hSw; (try dsimp only at hSw); go_simp; try with_reducible rfl)
              try simp only [Act.put, List.setIfInBounds_toArray, List.set_cons_zero, List.set_cons_succ]
              refine wpAnyH_take (i := 5) (v := ?_) rfl (by kernel_rfl) (by kernel_rfl) (by kernel_rfl) (fun _ _ _ h => h) (Or.inl ⟨by rfl, ?_⟩) (by assumption) ?_
              rotate_left
              · (intro w hSw; (try dsimp only at hSw); go_simp; try with_reducible rfl)
              try simp only [Act.put, List.setIfInBounds_toArray, List.set_cons_zero, List.set_cons_succ]
              refine wpAnyH_take (i := 6) (v := ?_) rfl (by kernel_rfl) (by kernel_rfl) (by kernel_rfl) (fun _ _ _ h => h) (Or.inl ⟨by rfl, ?_⟩) (by assumption) ?_
              rotate_left
              · (intro w hSw; (try dsimp only at hSw); go_simp; try with_reducible rfl)
              try simp only [Act.put, List.setIfInBounds_toArray, List.set_cons_zero, List.set_cons_succ]
              refine wpAnyH_take (i := 7) (v := ?_) rfl (by kernel_rfl) (by kernel_rfl) (by kernel_rfl) (fun _ _ _ h => h) (Or.inl ⟨by rfl, ?_⟩) (by assumption) ?_
              rotate_left
              · (intro w hSw; (try dsimp only at hSw); go_simp; try with_reducible rfl)
              try simp only [Act.put, List.setIfInBounds_toArray, List.set_cons_zero, List.set_cons_succ]
              refine wpAnyH_take (i := 8) (v := ?_) rfl (by kernel_rfl) (by kernel_rfl) (by kernel_rfl) (fun _ _ _ h => h) (Or.inl ⟨by rfl, ?_⟩) (by assumption) ?_
              rotate_left
              · (intro w hSw; (try dsimp only at hSw); go_simp; try with_reducible rfl)
              try simp only [Act.put, List.setIfInBounds_toArray, List.set_cons_zero, List.set_cons_succ]
              refine wpAnyH_take (i := 9) (v := ?_) rfl (by kernel_rfl) (by kernel_rfl) (by kernel_rfl) (fun _ _ _ h => h) (Or.inl ⟨by rfl, ?_⟩) (by assumption) ?_
              rotate_left
              · (intro w hSw; (try dsimp only at hSw); go_simp; try with_reducible rfl)
              try simp only [Act.put, List.setIfInBounds_toArray, List.set_cons_zero, List.set_cons_succ]
              refine wpAnyH_ready (rs := [10]) (by kernel_rfl) (by simp) ?_
              refine AllReadyH.cons rfl (fun K hK => ?_) AllReadyH.nil
              go_simp
              refine (HTT.out Z HDZ.out).mono ?_
              rintro e w3 ⟨rfl, l1⟩
              have HB4 := hid (bch HDZ.out l1)
              clear l1 HTT
              refine hK.out _ _ ?_ (fun hHeld => ?_)
              · exact MS.out _ HB4.out
              clear hK K hHeld
              try simp only [Act.put, List.setIfInBounds_toArray, List.set_cons_zero, List.set_cons_succ]
              have hHeld := MS.out _ HB4.out
              refine wpAnyH_take (i := 11) (v := ?_) rfl (by kernel_rfl) (by kernel_rfl) (by kernel_rfl) (fun _ _ _ h => h) (Or.inl ⟨by rfl, ?_⟩) (by assumption) ?_
              rotate_left
              · (intro w hSw; (try dsimp only at hSw); go_simp; try with_reducible rfl)
              try simp only [Act.put, List.setIfInBounds_toArray, List.set_cons_zero, List.set_cons_succ]
              refine wpAnyH_done (by kernel_rfl) ?_ _
              clear hHeld
              cases z with
              | false =>
                have HN := hid (show ¬ p = q from fun h => by have ht := HZ.out; rw [h, (smI_iff _ _).2 rfl] at ht; cases ht)
                go_wp2_with fail
                go_ret
                exact ⟨⟨false, by first | rfl | simp, ⟨fun h => (by cases h), fun h => absurd h HN.out⟩⟩, HB1.out.trans (HB4.out.mono HB1.out.size)⟩
              | true =>
                have HEQ := hid ((smI_iff _ _).1 HZ.out.symm)
                go_wp2_with fail
                refine ⟨⟨k + 1, by omega, by go_num, HB4, hid (fun j hj => ?_)⟩, by simp [intOf]; omega⟩
                by_cases hj2 : j < k
                · exact HK.out j hj2
                · obtain rfl : j = k := by omega
                  exact HEQ.out
            · obtain rfl : k = L3 := by omega
              have HB6E := hid (show p.ns = q.ns from list_ext [] (by rw [← HL3.out, ← HM3.out]; exact HL3M.out) (by rw [← HL3.out]; exact HK.out))
              have HB6 := HB
              clear HK
              have g1 : ¬ (k : Int) < (k : Int) := by omega
              have x3 : wr.cell? ⟨pb, 3, none⟩ = some (.slice a3 k c3) := cell_of_row _ _ 3 _ _ _ (HPX.out wr HB.out)
              go_wp2_with fail
              clear x3
              go_loopw [7] (fun i wr => ∃ k : Nat, k ≤ L4 ∧ i = .int .i64 k ∧ Hid (Below W1.heap.size W1 wr) ∧ Hid (∀ j, j < k → p.cd.getD j default = q.cd.getD j default)) (fun i _ => L4 - (intOf i).toNat)
              case atStart => exact ⟨0, Nat.zero_le _, rfl, HB6, hid (fun j hj => absurd hj (Nat.not_lt_zero j))⟩
              case round =>
                obtain ⟨k, hk, rfl, HB, HK⟩ := hrel
                by_cases hlt : k < L4
                · have g1 : (k : Int) < (L4 : Int) := by omega
                  have g2 : (0 : Int) ≤ (k : Int) := by omega
                  have g3 : (k : Int) < (M4 : Int) := by have := HL4M.out; omega
                  rcases R4.out.low HB.out with h0 | ⟨b, off, rfl, hb, hc⟩
                  · have := HL4.out; omega
                  rcases S4.out.low HB.out with h0 | ⟨b', off', rfl, hb', hc'⟩
                  · have := HM4.out; have := HL4M.out; omega
                  obtain ⟨u0, u1, u2, u3⟩ := hc k (by rw [← HL4.out]; exact hlt)
                  obtain ⟨v0, v1, v2, v3⟩ := hc' k (by rw [← HM4.out]; have := HL4M.out; omega)
                  clear hc hc' hb hb'
                  have g53 := guardI
                  obtain ⟨i, hi⟩ : ∃ i, i = p.cd.getD k default := ⟨_, rfl⟩
                  obtain ⟨j, hj⟩ : ∃ j, j = q.cd.getD k default := ⟨_, rfl⟩
                  rw [← hi] at u0 u1 u2 u3
                  rw [← hj] at v0 v1 v2 v3
                  have HI := hid hi
                  have HJ := hid hj
                  clear hi hj
                  obtain ⟨i0, i1, i2, i3⟩ := i
                  obtain ⟨j0, j1, j2, j3⟩ := j
                  simp only at u0 u1 u2 u3 v0 v1 v2 v3
                  have hne := run_neI i0 i1 i2 i3 j0 j1 j2 j3
                  obtain ⟨z, hz⟩ : ∃ z, z = insE ⟨i0, i1, i2, i3⟩ ⟨j0, j1, j2, j3⟩ := ⟨_, rfl⟩
                  rw [← hz] at hne
                  have HZ := hid hz
                  clear hz
                  have x4 : wr.cell? ⟨pb, 4, none⟩ = some (.slice (some ⟨b, off, none⟩) L4 c4) := cell_of_row _ _ 4 _ _ _ (HPX.out wr HB.out)
                  have y4 : wr.cell? ⟨qb, 4, none⟩ = some (.slice (some ⟨b', off', none⟩) M4 d4) := cell_of_row _ _ 4 _ _ _ (HQX.out wr HB.out)
                  go_upto_region 16 with fail
                  cases z with
                  | false =>
                    have HN := hid (show ¬ p = q from fun h => by have h1 := HZ.out; rw [HI.out, HJ.out, h, (insE_iff _ _).2 rfl] at h1; cases h1)
                    go_quiet (fail)
                    have HD1 := hid (HB.out.trans ((drew_below wr nq).mono HB.out.size))
                    generalize wr.drewN nq = V at *
                    clear x4 y4
                    go_wp2_with fail
                    go_ret
                    exact ⟨⟨false, by first | rfl | simp, ⟨fun h => (by cases h), fun h => absurd h HN.out⟩⟩, HB1.out.trans (HD1.out.mono HB1.out.size)⟩
                  | true =>
                    have HEQ := hid (show p.cd.getD k default = q.cd.getD k default from by rw [← HI.out, ← HJ.out]; exact (insE_iff _ _).1 HZ.out.symm)
                    go_quiet (fail)
                    have HD1 := hid (HB.out.trans ((drew_below wr nq).mono HB.out.size))
                    generalize wr.drewN nq = V at *
                    clear x4 y4
                    go_wp2_with fail
                    refine ⟨⟨k + 1, by omega, by go_num, HD1, hid (fun j hj => ?_)⟩, by simp [intOf]; omega⟩
                    by_cases hj2 : j < k
                    · exact HK.out j hj2
                    · obtain rfl : j = k := by omega
                      exact HEQ.out
                · obtain rfl : k = L4 := by omega
                  have HE := hid (show p = q from pg_ext HTX.out HNU.out HB5E.out HB6E.out (list_ext default (by rw [← HL4.out, ← HM4.out]; exact HL4M.out) (by rw [← HL4.out]; exact HK.out)) (by rw [← Hdp.out, ← Hdq.out]; exact HD.out) (by rw [← Hlp.out, ← Hlq.out]; exact HLL.out))
                  have g1 : ¬ (k : Int) < (k : Int) := by omega
                  have x4 : wr.cell? ⟨pb, 4, none⟩ = some (.slice a4 k c4) := cell_of_row _ _ 4 _ _ _ (HPX.out wr HB.out)
                  go_wp2_with fail
                  go_ret
                  exact ⟨⟨true, by first | rfl | simp, ⟨fun _ => HE.out, fun _ => rfl⟩⟩, HB1.out.trans (HB.out.mono HB1.out.size)⟩
end Go.Proofs.Ytnclpdgbjefpmaa.L
