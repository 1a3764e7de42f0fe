import Derived.Test.YtnclpdgbjefpmaaGn
import Derived.Test.YtnclpdgbjefpmaaJi
namespace Go.Proofs.Ytnclpdgbjefpmaa.L
open Go.ChangeShapes Go.WideShapes Go.ChangeAt Go.RowKit Go.Joins
set_option linter.unusedVariables false
set_option linter.unusedSimpArgs false
theorem cellsBl : Try.prog.cellsOf 32 = 1 := by kernel_rfl
theorem bytesBl : Try.prog.bytesOf 32 = 24 := by kernel_rfl
theorem readBl : Try.prog.readableRec 41 = true := by kernel_rfl
theorem rowBl : 41 < Try.prog.types.size := of_decide_eq_true (by kernel_rfl)
/-- Lists of bytes that came in. -/
def BsL (W : World) (a : Option Addr) (n : Nat) : Prop := n = 0 ∨ ∃ b off, a = some ⟨b, off, none⟩ ∧ b < W.heap.size ∧ ∀ j, j < n → ∃ ea ec l, W.cell? ⟨b, off + j, none⟩ = some (.slice ea (List.length l) ec) ∧ BsN W ea ec l
theorem BsL.low {W W' : World} {a : Option Addr} {n : Nat} (h : BsL W a n) (k : Below W.heap.size W W') : BsL W' a n := by
  rcases h with h | ⟨b, off, rfl, hb, h3⟩
  · exact Or.inl h
  · refine Or.inr ⟨b, off, rfl, Nat.lt_of_lt_of_le hb k.size, fun j hj => ?_⟩
    obtain ⟨ea, ec, l, h1, h2⟩ := h3 j hj
    exact ⟨ea, ec, l, (k.cell hb).trans h1, h2.low k⟩
set_option maxRecDepth 100000 in
theorem bytess_arg {H : Type} {enc : TypeId × Value → H} {W : World} {base : Nat} {v : Value} {d : DataW H} {p : List MemPlace} (hv : Value.okWide Try.prog W .any base 41 v) (h : DataW.Trod enc Try.prog W 0 (fun _ => true) true 41 v d p)
    (hsz : ∀ x ∈ d.weights Try.prog 41, x ≤ reachBytes) : ∃ (a : Option Addr) (n : Nat) (cap : Nat), v = .slice a n cap ∧ BsL W a n ∧ n ≤ 140737488355328 := by
  obtain ⟨a, len, cap, rfl⟩ := okWide_slice Try.underlying41 hv
  obtain ⟨fuel, hf⟩ := h
  have hf' : DataW.trod enc Try.prog W 0 (fun _ => true) true fuel 41 [.slice a len cap] = some (d, p) := by simpa [Value.cells] using hf
  obtain ⟨a', zs, cap', e, r, _, l, ok⟩ := one_open (Prod.fst : Value × List UInt8 → Value) (fun z => ∃ ea ec, z.1 = .slice ea z.2.length ec ∧ BsN W ea ec z.2) Try.underlying41 cellsBl bytesBl (by omega) hf' hsz (fun {_} {u} {_} {_} h2 hk2 => by
    obtain ⟨ea, A, ec, e1, b1⟩ := bytes_open h2 hk2
    exact ⟨(u, A), rfl, ea, ec, e1, b1⟩)
  refine ⟨a', zs.length, cap', e, ?_, l⟩
  rcases r with h0 | ⟨b, off, ha, hb, hc⟩
  · exact Or.inl (by simpa using h0)
  · refine Or.inr ⟨b, off, ha, hb, fun j hj => ?_⟩
    obtain ⟨ea, ec, e2, b2⟩ := ok zs[j] (List.getElem_mem hj)
    refine ⟨ea, ec, zs[j].2, ?_, b2⟩
    rw [hc j (by simpa using hj)]
    simp only [List.getD_eq_getElem?_getD, List.getElem?_map, List.getElem?_eq_getElem hj]
    show some (zs[j].1) = _
    rw [e2]
end Go.Proofs.Ytnclpdgbjefpmaa.L
namespace Go.Proofs.Ytnclpdgbjefpmaa.L
open Go.RowKit
set_option linter.unusedVariables false
set_option linter.unusedSimpArgs false
/-- What bytes hold: the program, the fault's code, its place. -/
def dP (B : List UInt8) : Pg := match dec B with | .ok p => p | .error _ => pz
def dF (B : List UInt8) : Int := match dec B with | .ok _ => 0 | .error e => (e.1 : Int)
def dA (B : List UInt8) : Int := match dec B with | .ok _ => 0 | .error e => (e.2 : Int)
def Fe (w : World) (B : List UInt8) (ev : Value) : Prop := match dec B with | .ok _ => ev = .nilIface | .error e => ∃ N, ev = fv N ∧ Fli w N e.1 e.2
theorem dP_gd (B : List UInt8) : GdP (dP B) := by
  unfold dP
  cases h : dec B with
  | ok p => exact fm_gd ((formB_iff p).1 ((form_iff p).1 (enc_dec h).1))
  | error e => exact pz_gd
theorem dd_join {B : List UInt8} {e : Ending} {w' : World} (h : DdR B e w') : ∃ pv, e = .returned (.tuple #[.agg pv, .int .i64 (dF B), .int .i64 (dA B)]) ∧ PgR w' pv (dP B) := by
  unfold DdR at h
  unfold dF dA dP
  cases hd : dec B with
  | ok p => rw [hd] at h; obtain ⟨pv, rfl, hp⟩ := h; exact ⟨pv, rfl, hp⟩
  | error q => obtain ⟨c, q⟩ := q; rw [hd] at h; exact ⟨z7, h, pz_pg _⟩
theorem de_join {B : List UInt8} {w : World} {e : Ending} {w' : World} (h : DeR B w e w') : ∃ pv ev, e = .returned (.tuple #[.agg pv, ev]) ∧ PgR w' pv (dP B) ∧ Fe w' B ev := by
  unfold DeR at h
  unfold dP Fe
  cases hd : dec B with
  | ok p => rw [hd] at h; obtain ⟨v0, v1, v2, v3, v4, rfl, how⟩ := h; exact ⟨_, _, rfl, owg_pg how, rfl⟩
  | error q => obtain ⟨c, q⟩ := q; rw [hd] at h; obtain ⟨N, rfl, hf⟩ := h; exact ⟨_, _, rfl, pz_pg _, N, rfl, hf⟩
theorem Fe.low {w w' : World} {B : List UInt8} {ev : Value} (h : Fe w B ev) (k : Below w.heap.size w w') : Fe w' B ev := by
  unfold Fe at h ⊢
  cases hd : dec B with
  | ok p => rw [hd] at h; exact h
  | error q => rw [hd] at h; obtain ⟨N, h1, h2⟩ := h; exact ⟨N, h1, (k.block _ (lt_blk h2)).trans h2⟩
theorem isfault_ok (w : World) : Calls Try.prog 18 #[.nilIface, .int .i64 0, .int .i64 0] w fun e w' => e = .returned (.bool true) ∧ w' = w := by
  go_enter Try.func18, Try.ntmps18
  go_wp2
  go_ret
  exact ⟨rfl, rfl⟩
theorem isf_join {w : World} {B : List UInt8} {ev : Value} (h : Fe w B ev) : Calls Try.prog 18 #[ev, .int .i64 (dF B), .int .i64 (dA B)] w fun e w' => e = .returned (.bool true) ∧ w' = w := by
  unfold Fe at h
  unfold dF dA
  cases hd : dec B with
  | ok p => rw [hd] at h; subst h; exact isfault_ok w
  | error q =>
    obtain ⟨c, q⟩ := q
    rw [hd] at h
    obtain ⟨N, rfl, hf⟩ := h
    exact isfault_yes N c q w hf (by have := (dec_bad hd).1; omega)
set_option maxHeartbeats 4000000 in
set_option maxRecDepth 100000 in
theorem codedecodes_any (a : Option Addr) (n cap : Nat) (w : World) (h : BsL w a n) (hn : n ≤ 140737488355328) : Calls Try.prog 4 #[.slice a n cap] w fun e w' => e = .returned (.bool true) ∧ Below w.heap.size w w' := by
  have HL := hid h
  have hnm : n ≤ maxLen := by unfold maxLen; omega
  clear h
  go_enter Try.func4, Try.ntmps4
  go_wp2_with fail
  refine (fixed_any _).mono ?_
  rintro e W0 ⟨rfl, l0⟩
  have HB := hid l0
  clear l0
  go_wp2_with fail
  go_loopw [14] (fun i wr => ∃ k : Nat, k ≤ n ∧ i = .int .i64 (k : Int) ∧ Hid (Below w.heap.size w wr)) (fun i _ => n - (intOf i).toNat)
  case atStart => exact ⟨0, Nat.zero_le _, rfl, HB⟩
  case round =>
    clear HB
    obtain ⟨k, hk, rfl, HB⟩ := hrel
    by_cases hlt : k < n
    · have g1 : (k : Int) < (n : Int) := by omega
      have g2 : (0 : Int) ≤ (k : Int) := by omega
      rcases HL.out.low HB.out with h0 | ⟨b, off, hae, hb, hc⟩
      · omega
      subst hae
      obtain ⟨ea, ec, A, hcell, hbs⟩ := hc k hlt
      clear hc hb
      obtain ⟨na, hna⟩ : ∃ n, n = A.length := ⟨_, rfl⟩
      rw [← hna] at hcell
      have HNA := hid (show na = A.length ∧ na ≤ 140737488355328 from ⟨hna, by rw [hna]; exact hbs.len⟩)
      have HZA := hid (show ea = none → ec = 0 ∧ na = 0 from fun h => by rw [hna]; exact hbs.no h)
      have HBS := hid hbs
      have hnam : na ≤ maxLen := by have := hbs.len; unfold maxLen; omega
      clear hbs hna
      obtain ⟨i0, hi, hz0, hz1, hz2⟩ := info_parts infoB
      go_wp2_with (at_builtin; go_loud (refine wpl_app rfl _ _ 32 rfl wr.heap.size 5 i0 (.int .u8 0) 1 1 Try.underlying32 hi hz0 hz1 hz2 rfl (by decide) (.slice (some ⟨wr.heap.size, 0, none⟩) 0 0) 0 [] rfl (World.ownsRow_made wr #[] 0 (Nat.le_refl _) (Nat.zero_le _) rfl) ea na ec (Lib.byteCells A) rfl (fun h => HZA.out h) (by rw [Nat.mul_one, byteCells_eq, List.length_map]; exact HNA.out.1.symm) (br_news (br_below HBS.out.br (belowA wr _))) (by intro u hu; rw [byteCells_eq, List.mem_map] at hu; obtain ⟨z, _, rfl⟩ := hu; rfl) (by have := HNA.out.2; unfold maxLen; omega) (by have := HNA.out.2; omega) (by simp) ?_))
      clear hi hz0 hz1 hz2 i0
      intro vs W2 hos hgs
      obtain ⟨xs, ns, ys, rfl⟩ := row_form hos
      have hobs : OwnB W2 wr.heap.size (.slice xs ns ys) A := by
        unfold OwnB
        (try rw [Nat.zero_add, List.nil_append] at hos); rw [HNA.out.1] at hos
        exact hos
      have HLs := hid (grown_new hgs)
      clear hos hgs
      obtain ⟨xas, xcs, hxes, hbrs, hbls, hbcs, hbms⟩ := own_br hobs
      injection hxes with e1 e2 e3
      subst e1 e2 e3
      have HD1 := hid (ddecode_any A xs ys W2 hbrs hbls (by have h1 := HNA.out; omega) hbcs hbms)
      rw [← HNA.out.1] at HD1 ⊢
      clear hobs hbrs hbls hbcs hbms
      have HB := hid (bch HB.out HLs.out)
      have HBS := hid (HBS.out.low HLs.out)
      clear HLs hcell
      go_wp2_with fail
      refine HD1.out.mono ?_
      rintro e W3 ⟨hd, l3⟩
      obtain ⟨pv, rfl, hp⟩ := dd_join hd
      have HBS := hid (HBS.out.low l3)
      have HB := hid (bch HB.out l3)
      clear hd l3 HD1
      obtain ⟨fc, hfc⟩ : ∃ x, x = dF A := ⟨_, rfl⟩
      obtain ⟨fa, hfa⟩ : ∃ x, x = dA A := ⟨_, rfl⟩
      rw [← hfc, ← hfa]
      have HFC := hid hfc
      have HFA := hid hfa
      clear hfc hfa
      obtain ⟨L0, hL0⟩ : ∃ L, L = (dP A).tx.length := ⟨_, rfl⟩
      have HL0 := hid hL0
      clear hL0
      obtain ⟨L1, hL1⟩ : ∃ L, L = (dP A).nu.length := ⟨_, rfl⟩
      have HL1 := hid hL1
      clear hL1
      obtain ⟨L2, hL2⟩ : ∃ L, L = (dP A).st.length := ⟨_, rfl⟩
      have HL2 := hid hL2
      clear hL2
      obtain ⟨L3, hL3⟩ : ∃ L, L = (dP A).ns.length := ⟨_, rfl⟩
      have HL3 := hid hL3
      clear hL3
      obtain ⟨L4, hL4⟩ : ∃ L, L = (dP A).cd.length := ⟨_, rfl⟩
      have HL4 := hid hL4
      clear hL4
      obtain ⟨dp, hdp⟩ : ∃ d, d = (dP A).dep := ⟨_, rfl⟩
      obtain ⟨lp, hlp⟩ : ∃ d, d = (dP A).loc := ⟨_, rfl⟩
      have HL5 := hid hdp
      have HL6 := hid hlp
      clear hdp hlp
      obtain ⟨q0, qc0, q1, qc1, q2, qc2, q3, qc3, q4, qc4, hpvq, _⟩ := hp.ex
      rw [← HL0.out, ← HL1.out, ← HL2.out, ← HL3.out, ← HL4.out, ← HL5.out, ← HL6.out] at hpvq
      subst hpvq
      have HA4 := hid (belowA W3 (.cells #[.slice q0 L0 qc0, .slice q1 L1 qc1, .slice q2 L2 qc2, .slice q3 L3 qc3, .slice q4 L4 qc4, .int .i64 dp, .int .i64 lp] 30))
      have HX5 := hid (heap_alloc_new W3 (.cells #[.slice q0 L0 qc0, .slice q1 L1 qc1, .slice q2 L2 qc2, .slice q3 L3 qc3, .slice q4 L4 qc4, .int .i64 dp, .int .i64 lp] 30))
      have HP5 := hid (hp.low HA4.out)
      have HBS := hid (HBS.out.low HA4.out)
      have HB := hid (bch HB.out HA4.out)
      clear hp
      go_upto_region 7 with fail
      generalize W3.alloc (.cells #[.slice q0 L0 qc0, .slice q1 L1 qc1, .slice q2 L2 qc2, .slice q3 L3 qc3, .slice q4 L4 qc4, .int .i64 dp, .int .i64 lp] 30) = W4 at *
      obtain ⟨qb, hqb⟩ : ∃ b, b = W3.heap.size := ⟨_, rfl⟩
      rw [← hqb] at HX5 ⊢
      clear hqb HA4
      obtain ⟨i0, hi, hz0, hz1, hz2⟩ := info_parts infoB
      go_wp2_with (at_builtin; go_loud (refine wpl_app rfl _ _ 32 rfl W4.heap.size 5 i0 (.int .u8 0) 1 1 Try.underlying32 hi hz0 hz1 hz2 rfl (by decide) (.slice (some ⟨W4.heap.size, 0, none⟩) 0 0) 0 [] rfl (World.ownsRow_made W4 #[] 0 (Nat.le_refl _) (Nat.zero_le _) rfl) ea na ec (Lib.byteCells A) rfl (fun h => HZA.out h) (by rw [Nat.mul_one, byteCells_eq, List.length_map]; exact HNA.out.1.symm) (br_news (br_below HBS.out.br (belowA W4 _))) (by intro u hu; rw [byteCells_eq, List.mem_map] at hu; obtain ⟨z, _, rfl⟩ := hu; rfl) (by have := HNA.out.2; unfold maxLen; omega) (by have := HNA.out.2; omega) (by simp) ?_))
      clear hi hz0 hz1 hz2 i0
      intro vs W5 hos hgs
      obtain ⟨xs, ns, ys, rfl⟩ := row_form hos
      have hobs : OwnB W5 W4.heap.size (.slice xs ns ys) A := by
        unfold OwnB
        (try rw [Nat.zero_add, List.nil_append] at hos); rw [HNA.out.1] at hos
        exact hos
      have HLs := hid (grown_new hgs)
      clear hos hgs
      obtain ⟨xas, xcs, hxes, hbrs, hbls, hbcs, hbms⟩ := own_br hobs
      injection hxes with e1 e2 e3
      subst e1 e2 e3
      have HD2 := hid (decode_any A xs ys W5 hbrs hbls (by have h1 := HNA.out; omega) hbcs hbms)
      rw [← HNA.out.1] at HD2 ⊢
      clear hobs hbrs hbls hbcs hbms
      have HB := hid (bch HB.out HLs.out)
      have HBS := hid (HBS.out.low HLs.out)
      have HX5 := hid ((HLs.out.block _ (lt_blk HX5.out)).trans HX5.out)
      have HP5 := hid (HP5.out.low HLs.out)
      clear HLs HBS
      go_wp2_with fail
      refine HD2.out.mono ?_
      rintro e W6 ⟨hd, l6⟩
      obtain ⟨pv, ev, rfl, hp, hfe⟩ := de_join hd
      have HX5 := hid ((l6.block _ (lt_blk HX5.out)).trans HX5.out)
      have HP5 := hid (HP5.out.low l6)
      have HB := hid (bch HB.out l6)
      clear hd l6 HD2
      obtain ⟨r0, rc0, r1, rc1, r2, rc2, r3, rc3, r4, rc4, hpvr, _⟩ := hp.ex
      rw [← HL0.out, ← HL1.out, ← HL2.out, ← HL3.out, ← HL4.out, ← HL5.out, ← HL6.out] at hpvr
      subst hpvr
      have HA7 := hid (belowA W6 (.cells #[.slice r0 L0 rc0, .slice r1 L1 rc1, .slice r2 L2 rc2, .slice r3 L3 rc3, .slice r4 L4 rc4, .int .i64 dp, .int .i64 lp] 30))
      have HX8 := hid (heap_alloc_new W6 (.cells #[.slice r0 L0 rc0, .slice r1 L1 rc1, .slice r2 L2 rc2, .slice r3 L3 rc3, .slice r4 L4 rc4, .int .i64 dp, .int .i64 lp] 30))
      have HP8 := hid (hp.low HA7.out)
      have HP5 := hid (HP5.out.low HA7.out)
      have HX5 := hid ((HA7.out.block _ (lt_blk HX5.out)).trans HX5.out)
      have HFE := hid (hfe.low HA7.out)
      have HB := hid (bch HB.out HA7.out)
      clear hp hfe
      go_upto_region 8 with fail
      generalize W6.alloc (.cells #[.slice r0 L0 rc0, .slice r1 L1 rc1, .slice r2 L2 rc2, .slice r3 L3 rc3, .slice r4 L4 rc4, .int .i64 dp, .int .i64 lp] 30) = W7 at *
      obtain ⟨rb, hrb⟩ : ∃ b, b = W6.heap.size := ⟨_, rfl⟩
      rw [← hrb] at HX8 ⊢
      clear hrb HA7
      have x0 : W7.cell? ⟨qb, 0, none⟩ = some (.slice q0 L0 qc0) := cell_of_row _ _ 0 _ _ _ HX5.out
      have x1 : W7.cell? ⟨qb, 1, none⟩ = some (.slice q1 L1 qc1) := cell_of_row _ _ 1 _ _ _ HX5.out
      have x2 : W7.cell? ⟨qb, 2, none⟩ = some (.slice q2 L2 qc2) := cell_of_row _ _ 2 _ _ _ HX5.out
      have x3 : W7.cell? ⟨qb, 3, none⟩ = some (.slice q3 L3 qc3) := cell_of_row _ _ 3 _ _ _ HX5.out
      have x4 : W7.cell? ⟨qb, 4, none⟩ = some (.slice q4 L4 qc4) := cell_of_row _ _ 4 _ _ _ HX5.out
      have x5 : W7.cell? ⟨qb, 5, none⟩ = some (.int .i64 dp) := cell_of_row _ _ 5 _ _ _ HX5.out
      have x6 : W7.cell? ⟨qb, 6, none⟩ = some (.int .i64 lp) := cell_of_row _ _ 6 _ _ _ HX5.out
      have y0 : W7.cell? ⟨rb, 0, none⟩ = some (.slice r0 L0 rc0) := cell_of_row _ _ 0 _ _ _ HX8.out
      have y1 : W7.cell? ⟨rb, 1, none⟩ = some (.slice r1 L1 rc1) := cell_of_row _ _ 1 _ _ _ HX8.out
      have y2 : W7.cell? ⟨rb, 2, none⟩ = some (.slice r2 L2 rc2) := cell_of_row _ _ 2 _ _ _ HX8.out
      have y3 : W7.cell? ⟨rb, 3, none⟩ = some (.slice r3 L3 rc3) := cell_of_row _ _ 3 _ _ _ HX8.out
      have y4 : W7.cell? ⟨rb, 4, none⟩ = some (.slice r4 L4 rc4) := cell_of_row _ _ 4 _ _ _ HX8.out
      have y5 : W7.cell? ⟨rb, 5, none⟩ = some (.int .i64 dp) := cell_of_row _ _ 5 _ _ _ HX8.out
      have y6 : W7.cell? ⟨rb, 6, none⟩ = some (.int .i64 lp) := cell_of_row _ _ 6 _ _ _ HX8.out
      have HSA := hid (same_any #[.slice r0 L0 rc0, .slice r1 L1 rc1, .slice r2 L2 rc2, .slice r3 L3 rc3, .slice r4 L4 rc4, .int .i64 dp, .int .i64 lp] #[.slice q0 L0 qc0, .slice q1 L1 qc1, .slice q2 L2 qc2, .slice q3 L3 qc3, .slice q4 L4 qc4, .int .i64 dp, .int .i64 lp] (dP A) (dP A) W7 HP8.out HP5.out (dP_gd A) (dP_gd A))
      go_wp2_with fail
      refine HSA.out.mono ?_
      rintro e W8 ⟨⟨z, rfl, hz⟩, l8⟩
      obtain rfl : z = true := by simpa using hz
      have HB := hid (bch HB.out l8)
      have HIF := hid (isf_join (HFE.out.low l8))
      rw [← HFC.out, ← HFA.out] at HIF
      clear l8 hz HSA x0 x1 x2 x3 x4 x5 x6 y0 y1 y2 y3 y4 y5 y6
      go_wp2_with fail
      refine HIF.out.mono ?_
      rintro e W9 ⟨rfl, hw⟩
      have hw2 := hw.symm
      subst hw2
      clear hw HIF
      go_wp2_with fail
      exact ⟨⟨k + 1, by omega, by go_num, HB⟩, by simp [intOf]; omega⟩
    · obtain rfl : k = n := by omega
      have g1 : ¬ (k : Int) < (k : Int) := by omega
      go_wp2_with fail
      go_ret
      exact ⟨by first | rfl | simp, HB.out⟩
end Go.Proofs.Ytnclpdgbjefpmaa.L
