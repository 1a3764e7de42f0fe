import Derived.Test.YtnclpdgbjefpmaaGl
namespace Go.Proofs.Ytnclpdgbjefpmaa.L
open Go.RowKit
set_option linter.unusedVariables false
set_option linter.unusedSimpArgs false
/-- Bytes that came in. -/
structure BsN (w : World) (a : Option Addr) (c : Nat) (A : List UInt8) : Prop where
  br : BR w a A
  no : a = none → c = 0 ∧ A.length = 0
  len : A.length ≤ 140737488355328
theorem BsN.low {w w' : World} {a : Option Addr} {c : Nat} {A : List UInt8} (h : BsN w a c A) (k : Below w.heap.size w w') : BsN w' a c A :=
  ⟨br_below h.br k, h.no, h.len⟩
abbrev pz : Pg := ⟨[], [], [], [], [], 0, 0⟩
theorem pz_pg (W : World) : PgR W #[.slice none 0 0, .slice none 0 0, .slice none 0 0, .slice none 0 0, .slice none 0 0, .int .i64 0, .int .i64 0] pz := ⟨none, 0, none, 0, none, 0, none, 0, none, 0, rfl, Or.inl rfl, Or.inl rfl, ⟨[], rfl, Or.inl rfl, fun j h => absurd h (Nat.not_lt_zero j)⟩, ⟨[], rfl, Or.inl rfl, fun j h => absurd h (Nat.not_lt_zero j)⟩, Or.inl rfl⟩
theorem pz_gd : GdP pz := ⟨by decide, by decide, by decide, by decide, by decide, (fun x h => by cases h), (fun x h => by cases h)⟩
set_option maxHeartbeats 4000000 in
set_option maxRecDepth 100000 in
theorem codeoneform_any (A B : List UInt8) (a b : Option Addr) (ca cb : Nat) (w : World) (hA : BsN w a ca A) (hB : BsN w b cb B) : Calls Try.prog 6 #[.slice a A.length ca, .slice b B.length cb] w fun e w' => e = .returned (.bool true) ∧ Below w.heap.size w w' := by
  obtain ⟨na, hna⟩ : ∃ n, n = A.length := ⟨_, rfl⟩
  obtain ⟨nb, hnb⟩ : ∃ n, n = B.length := ⟨_, rfl⟩
  rw [← hna, ← hnb]
  have HNA := hid (show na = A.length ∧ na ≤ 140737488355328 from ⟨hna, by rw [hna]; exact hA.len⟩)
  have HNB := hid (show nb = B.length ∧ nb ≤ 140737488355328 from ⟨hnb, by rw [hnb]; exact hB.len⟩)
  have HZA := hid (show a = none → ca = 0 ∧ na = 0 from fun h => by rw [hna]; exact hA.no h)
  have HZB := hid (show b = none → cb = 0 ∧ nb = 0 from fun h => by rw [hnb]; exact hB.no h)
  have HA0 := hid hA
  have HB0 := hid hB
  have hnam : na ≤ maxLen := by have := hA.len; unfold maxLen; omega
  clear hA hB hna hnb
  go_enter Try.func6, Try.ntmps6
  go_wp2_with fail
  refine (fixed_any w).mono ?_
  rintro e W1 ⟨rfl, l1⟩
  have HA1 := hid (HA0.out.low l1)
  have HB1 := hid (HB0.out.low l1)
  have HW1 := hid l1
  have HBRA := hid HA1.out.br
  clear l1 HA0 HB0
  obtain ⟨i0, hi, hz0, hz1, hz2⟩ := info_parts infoB
  go_wp2_with (at_builtin; go_loud (refine wpl_app rfl _ _ 32 rfl W1.heap.size 5 i0 (.int .u8 0) 1 1 Try.underlying32 hi hz0 hz1 hz2 rfl (by decide) (.slice (some ⟨W1.heap.size, 0, none⟩) 0 0) 0 [] rfl (World.ownsRow_made W1 #[] 0 (Nat.le_refl _) (Nat.zero_le _) rfl) a na ca (Lib.byteCells A) rfl (fun h => HZA.out h) (by rw [Nat.mul_one, byteCells_eq, List.length_map]; exact HNA.out.1.symm) (br_news (br_below HBRA.out (belowA W1 _))) (by intro u hu; rw [byteCells_eq, List.mem_map] at hu; obtain ⟨z, _, rfl⟩ := hu; rfl) (by have := HNA.out.2; unfold maxLen; omega) (by have := HNA.out.2; omega) (by simp) ?_))
  clear hi hz0 hz1 hz2 i0
  intro vs W2 hos hgs
  obtain ⟨xs, ns, ys, rfl⟩ := row_form hos
  have hobs : OwnB W2 W1.heap.size (.slice xs ns ys) A := by
    unfold OwnB
    (try rw [Nat.zero_add, List.nil_append] at hos); rw [HNA.out.1] at hos
    exact hos
  have HLs := hid (grown_new hgs)
  clear hos hgs
  obtain ⟨xas, xcs, hxes, hbrs, hbls, hbcs, hbms⟩ := own_br hobs
  injection hxes with e1 e2 e3
  subst e1 e2 e3
  have HOBs := hid hobs
  have HDEs := hid (decode_any A xs ys W2 hbrs hbls (by have h1 := HNA.out; omega) hbcs hbms)
  rw [← HNA.out.1] at HDEs ⊢
  clear hobs hbrs hbls hbcs hbms
  have HA2 := hid (HA1.out.low HLs.out)
  have HB2 := hid (HB1.out.low HLs.out)
  have HW2 := hid (bch HW1.out HLs.out)
  clear HLs HA1 HB1 HW1 HBRA HOBs
  go_wp2_with fail
  refine HDEs.out.mono ?_
  rintro e W3 ⟨hd, l3⟩
  have HA3 := hid (HA2.out.low l3)
  have HB3 := hid (HB2.out.low l3)
  have HW3 := hid (bch HW2.out l3)
  clear l3 HDEs HA2 HB2 HW2
  unfold DeR at hd
  cases hdec : dec A with
  | error q =>
    obtain ⟨c, q⟩ := q
    rw [hdec] at hd
    obtain ⟨N, rfl, hf⟩ := hd
    have hbad := dec_bad hdec
    clear hdec
    have HL4 := hid (belowA W3 (.cells #[.slice none 0 0, .slice none 0 0, .slice none 0 0, .slice none 0 0, .slice none 0 0, .int .i64 0, .int .i64 0] 30))
    have HQ4 := hid (heap_alloc_new W3 (.cells #[.slice none 0 0, .slice none 0 0, .slice none 0 0, .slice none 0 0, .slice none 0 0, .int .i64 0, .int .i64 0] 30))
    have HF4 := hid ((HL4.out.block _ (lt_blk hf)).trans hf)
    have HW4 := hid (bch HW3.out HL4.out)
    clear hf HL4 HA3 HB3 HW3
    go_upto_region 4 with fail
    generalize W3.alloc (.cells #[.slice none 0 0, .slice none 0 0, .slice none 0 0, .slice none 0 0, .slice none 0 0, .int .i64 0, .int .i64 0] 30) = W4 at *
    obtain ⟨qb, hqb⟩ : ∃ b, b = W3.heap.size := ⟨_, rfl⟩
    rw [← hqb] at HQ4 ⊢
    clear hqb
    have ra := run_asok
    obtain ⟨f0, f1, f2, f3⟩ := Fli.cells (show Fli W4 N c q from HF4.out)
    have g1 : (200 : Int) ≤ (c : Int) := by omega
    have g2 : (c : Int) ≤ 206 := by omega
    have g3 : (0 : Int) ≤ (q : Int) := by omega
    have g4 : (q : Int) ≤ (na : Int) := by have := HNA.out.1; omega
    clear hbad
    have y0 : W4.cell? ⟨qb, 0, none⟩ = some (.slice none 0 0) := cell_of_row _ _ 0 _ _ _ HQ4.out
    have y1 : W4.cell? ⟨qb, 1, none⟩ = some (.slice none 0 0) := cell_of_row _ _ 1 _ _ _ HQ4.out
    have y2 : W4.cell? ⟨qb, 2, none⟩ = some (.slice none 0 0) := cell_of_row _ _ 2 _ _ _ HQ4.out
    have y3 : W4.cell? ⟨qb, 3, none⟩ = some (.slice none 0 0) := cell_of_row _ _ 3 _ _ _ HQ4.out
    have y4 : W4.cell? ⟨qb, 4, none⟩ = some (.slice none 0 0) := cell_of_row _ _ 4 _ _ _ HQ4.out
    have y5 : W4.cell? ⟨qb, 5, none⟩ = some (.int .i64 0) := cell_of_row _ _ 5 _ _ _ HQ4.out
    have y6 : W4.cell? ⟨qb, 6, none⟩ = some (.int .i64 0) := cell_of_row _ _ 6 _ _ _ HQ4.out
    have HSA := hid (same_any #[.slice none 0 0, .slice none 0 0, .slice none 0 0, .slice none 0 0, .slice none 0 0, .int .i64 0, .int .i64 0] #[.slice none 0 0, .slice none 0 0, .slice none 0 0, .slice none 0 0, .slice none 0 0, .int .i64 0, .int .i64 0] pz pz W4 (pz_pg _) (pz_pg _) pz_gd pz_gd)
    go_wp2_with fail
    refine HSA.out.mono ?_
    rintro e W8 ⟨⟨z, rfl, hz⟩, l8⟩
    obtain rfl : z = true := by simpa using hz
    have HB8 := hid (bch HW4.out l8)
    clear l8 hz HSA
    go_wp2_with fail
    go_ret
    exact ⟨by first | rfl | simp, HB8.out⟩
  | ok p =>
    rw [hdec] at hd
    obtain ⟨v0, v1, v2, v3, v4, rfl, how⟩ := hd
    obtain ⟨⟨b0, n0, d0, rfl⟩, ⟨b1, n1, d1, rfl⟩, ⟨b2, n2, d2, rfl⟩, ⟨b3, n3, d3, rfl⟩, ⟨b4, n4, d4, rfl⟩⟩ := owg_form how
    have HPQ := hid (owg_pg how)
    obtain ⟨hfp, hen⟩ := enc_dec hdec
    have hfb := (form_iff p).1 hfp
    have HGP := hid (fm_gd ((formB_iff p).1 hfb))
    have HFB := hid hfb
    have HEN := hid hen
    clear hdec hfp hen hfb how
    obtain ⟨dp, hdp⟩ : ∃ d, d = p.dep := ⟨_, rfl⟩
    obtain ⟨lp, hlp⟩ : ∃ d, d = p.loc := ⟨_, rfl⟩
    rw [← hdp, ← hlp] at HPQ ⊢
    clear hdp hlp
    have HL4 := hid (belowA W3 (.cells #[.slice b0 n0 d0, .slice b1 n1 d1, .slice b2 n2 d2, .slice b3 n3 d3, .slice b4 n4 d4, .int .i64 dp, .int .i64 lp] 30))
    have HQ4 := hid (heap_alloc_new W3 (.cells #[.slice b0 n0 d0, .slice b1 n1 d1, .slice b2 n2 d2, .slice b3 n3 d3, .slice b4 n4 d4, .int .i64 dp, .int .i64 lp] 30))
    have HP4 := hid (HPQ.out.low HL4.out)
    have HA4 := hid (HA3.out.low HL4.out)
    have HB4 := hid (HB3.out.low HL4.out)
    have HW4 := hid (bch HW3.out HL4.out)
    clear HL4 HA3 HB3 HW3 HPQ
    go_upto_region 4 with fail
    generalize W3.alloc (.cells #[.slice b0 n0 d0, .slice b1 n1 d1, .slice b2 n2 d2, .slice b3 n3 d3, .slice b4 n4 d4, .int .i64 dp, .int .i64 lp] 30) = W4 at *
    obtain ⟨qb, hqb⟩ : ∃ b, b = W3.heap.size := ⟨_, rfl⟩
    rw [← hqb] at HQ4 ⊢
    clear hqb
    have y0 : W4.cell? ⟨qb, 0, none⟩ = some (.slice b0 n0 d0) := cell_of_row _ _ 0 _ _ _ HQ4.out
    have y1 : W4.cell? ⟨qb, 1, none⟩ = some (.slice b1 n1 d1) := cell_of_row _ _ 1 _ _ _ HQ4.out
    have y2 : W4.cell? ⟨qb, 2, none⟩ = some (.slice b2 n2 d2) := cell_of_row _ _ 2 _ _ _ HQ4.out
    have y3 : W4.cell? ⟨qb, 3, none⟩ = some (.slice b3 n3 d3) := cell_of_row _ _ 3 _ _ _ HQ4.out
    have y4 : W4.cell? ⟨qb, 4, none⟩ = some (.slice b4 n4 d4) := cell_of_row _ _ 4 _ _ _ HQ4.out
    have y5 : W4.cell? ⟨qb, 5, none⟩ = some (.int .i64 dp) := cell_of_row _ _ 5 _ _ _ HQ4.out
    have y6 : W4.cell? ⟨qb, 6, none⟩ = some (.int .i64 lp) := cell_of_row _ _ 6 _ _ _ HQ4.out
    have HEE := hid (encode_any p #[.slice b0 n0 d0, .slice b1 n1 d1, .slice b2 n2 d2, .slice b3 n3 d3, .slice b4 n4 d4, .int .i64 dp, .int .i64 lp] W4 HP4.out HGP.out)
    go_wp2_with fail
    clear y0 y1 y2 y3 y4 y5 y6
    refine HEE.out.mono ?_
    rintro e W5 ⟨l5, _, hyes⟩
    obtain ⟨v', rfl, hob⟩ := hyes HFB.out
    obtain ⟨ba, bc, rfl, hbr, _, _, _⟩ := own_br hob
    rw [HEN.out] at hbr ⊢
    rw [← HNA.out.1]
    have HQ5 := hid ((l5.block _ (lt_blk HQ4.out)).trans HQ4.out)
    have HP5 := hid (HP4.out.low l5)
    have HA5 := hid (HA4.out.low l5)
    have HB5 := hid (HB4.out.low l5)
    have HW5 := hid (bch HW4.out l5)
    have HSB := hid (samebytes_any A A ba a bc ca W5 hbr HA5.out.br)
    rw [← HNA.out.1] at HSB
    clear l5 hyes hob hbr HQ4 HP4 HA4 HB4 HW4 HEE
    go_wp2_with fail
    refine HSB.out.mono ?_
    rintro e W5' ⟨⟨z, rfl, hz⟩, hw⟩
    obtain rfl : z = true := by simpa using hz
    have hw2 := hw.symm
    subst hw2
    clear hw hz HSB
    have HBRB := hid HB5.out.br
    obtain ⟨i0, hi, hz0, hz1, hz2⟩ := info_parts infoB
    go_wp2_with (at_builtin; go_loud (refine wpl_app rfl _ _ 32 rfl W5.heap.size 5 i0 (.int .u8 0) 1 1 Try.underlying32 hi hz0 hz1 hz2 rfl (by decide) (.slice (some ⟨W5.heap.size, 0, none⟩) 0 0) 0 [] rfl (World.ownsRow_made W5 #[] 0 (Nat.le_refl _) (Nat.zero_le _) rfl) b nb cb (Lib.byteCells B) rfl (fun h => HZB.out h) (by rw [Nat.mul_one, byteCells_eq, List.length_map]; exact HNB.out.1.symm) (br_news (br_below HBRB.out (belowA W5 _))) (by intro u hu; rw [byteCells_eq, List.mem_map] at hu; obtain ⟨z, _, rfl⟩ := hu; rfl) (by have := HNB.out.2; unfold maxLen; omega) (by have := HNB.out.2; omega) (by simp) ?_))
    clear hi hz0 hz1 hz2 i0
    intro vt W6 hot hgt
    obtain ⟨xt, nt, yt, rfl⟩ := row_form hot
    have hobt : OwnB W6 W5.heap.size (.slice xt nt yt) B := by
      unfold OwnB
      (try rw [Nat.zero_add, List.nil_append] at hot); rw [HNB.out.1] at hot
      exact hot
    have HLt := hid (grown_new hgt)
    clear hot hgt
    obtain ⟨xat, xct, hxet, hbrt, hblt, hbct, hbmt⟩ := own_br hobt
    injection hxet with e1 e2 e3
    subst e1 e2 e3
    have HOBt := hid hobt
    have HDEt := hid (decode_any B xt yt W6 hbrt hblt (by have h1 := HNB.out; omega) hbct hbmt)
    rw [← HNB.out.1] at HDEt ⊢
    clear hobt hbrt hblt hbct hbmt
    have HQ6 := hid ((HLt.out.block _ (lt_blk HQ5.out)).trans HQ5.out)
    have HP6 := hid (HP5.out.low HLt.out)
    have HA6 := hid (HA5.out.low HLt.out)
    have HB6 := hid (HB5.out.low HLt.out)
    have HW6 := hid (bch HW5.out HLt.out)
    clear HLt HQ5 HP5 HA5 HB5 HW5 HBRB HOBt
    go_wp2_with fail
    refine HDEt.out.mono ?_
    rintro e W7 ⟨hd, l7⟩
    have HQ7 := hid ((l7.block _ (lt_blk HQ6.out)).trans HQ6.out)
    have HP7 := hid (HP6.out.low l7)
    have HA7 := hid (HA6.out.low l7)
    have HB7 := hid (HB6.out.low l7)
    have HW7 := hid (bch HW6.out l7)
    clear l7 HDEt HQ6 HP6 HA6 HB6 HW6
    unfold DeR at hd
    cases hdec : dec B with
    | error q =>
      obtain ⟨c, q⟩ := q
      rw [hdec] at hd
      obtain ⟨N, rfl, hf⟩ := hd
      have HW8 := hid (bch HW7.out (belowA W7 (.cells #[.slice none 0 0, .slice none 0 0, .slice none 0 0, .slice none 0 0, .slice none 0 0, .int .i64 0, .int .i64 0] 30)))
      clear hf hdec
      go_wp2_with fail
      go_ret
      exact ⟨by first | rfl | simp, HW8.out⟩
    | ok q =>
      rw [hdec] at hd
      obtain ⟨v0, v1, v2, v3, v4, rfl, how⟩ := hd
      obtain ⟨⟨e0, m0, f0, rfl⟩, ⟨e1, m1, f1, rfl⟩, ⟨e2, m2, f2, rfl⟩, ⟨e3, m3, f3, rfl⟩, ⟨e4, m4, f4, rfl⟩⟩ := owg_form how
      have HPR := hid (owg_pg how)
      obtain ⟨hfq, heq⟩ := enc_dec hdec
      have HGQ := hid (fm_gd ((formB_iff q).1 ((form_iff q).1 hfq)))
      have HEQ := hid heq
      clear hdec hfq heq how
      obtain ⟨dq, hdq⟩ : ∃ d, d = q.dep := ⟨_, rfl⟩
      obtain ⟨lq, hlq⟩ : ∃ d, d = q.loc := ⟨_, rfl⟩
      rw [← hdq, ← hlq] at HPR ⊢
      clear hdq hlq
      have HL8 := hid (belowA W7 (.cells #[.slice e0 m0 f0, .slice e1 m1 f1, .slice e2 m2 f2, .slice e3 m3 f3, .slice e4 m4 f4, .int .i64 dq, .int .i64 lq] 30))
      have HR8 := hid (heap_alloc_new W7 (.cells #[.slice e0 m0 f0, .slice e1 m1 f1, .slice e2 m2 f2, .slice e3 m3 f3, .slice e4 m4 f4, .int .i64 dq, .int .i64 lq] 30))
      have HPR8 := hid (HPR.out.low HL8.out)
      have HP8 := hid (HP7.out.low HL8.out)
      have HQ8 := hid ((HL8.out.block _ (lt_blk HQ7.out)).trans HQ7.out)
      have HA8 := hid (HA7.out.low HL8.out)
      have HB8 := hid (HB7.out.low HL8.out)
      have HW8 := hid (bch HW7.out HL8.out)
      clear HL8 HA7 HB7 HW7 HPR HP7 HQ7
      go_upto_region 11 with fail
      generalize W7.alloc (.cells #[.slice e0 m0 f0, .slice e1 m1 f1, .slice e2 m2 f2, .slice e3 m3 f3, .slice e4 m4 f4, .int .i64 dq, .int .i64 lq] 30) = W8 at *
      obtain ⟨rb, hrb⟩ : ∃ b, b = W7.heap.size := ⟨_, rfl⟩
      rw [← hrb] at HR8 ⊢
      clear hrb
      have HSB := hid (samebytes_any A B a b ca cb W8 HA8.out.br HB8.out.br)
      rw [← HNA.out.1, ← HNB.out.1] at HSB
      go_wp2_with fail
      refine HSB.out.mono ?_
      rintro e W8' ⟨⟨z, rfl, hz⟩, hw⟩
      have hw2 := hw.symm
      subst hw2
      have HZZ := hid hz
      clear hw hz HSB
      cases z with
      | true =>
        go_wp2_with fail
        go_ret
        exact ⟨by first | rfl | simp, HW8.out⟩
      | false =>
        have y0 : W8.cell? ⟨qb, 0, none⟩ = some (.slice b0 n0 d0) := cell_of_row _ _ 0 _ _ _ HQ8.out
        have y1 : W8.cell? ⟨qb, 1, none⟩ = some (.slice b1 n1 d1) := cell_of_row _ _ 1 _ _ _ HQ8.out
        have y2 : W8.cell? ⟨qb, 2, none⟩ = some (.slice b2 n2 d2) := cell_of_row _ _ 2 _ _ _ HQ8.out
        have y3 : W8.cell? ⟨qb, 3, none⟩ = some (.slice b3 n3 d3) := cell_of_row _ _ 3 _ _ _ HQ8.out
        have y4 : W8.cell? ⟨qb, 4, none⟩ = some (.slice b4 n4 d4) := cell_of_row _ _ 4 _ _ _ HQ8.out
        have y5 : W8.cell? ⟨qb, 5, none⟩ = some (.int .i64 dp) := cell_of_row _ _ 5 _ _ _ HQ8.out
        have y6 : W8.cell? ⟨qb, 6, none⟩ = some (.int .i64 lp) := cell_of_row _ _ 6 _ _ _ HQ8.out
        have x0 : W8.cell? ⟨rb, 0, none⟩ = some (.slice e0 m0 f0) := cell_of_row _ _ 0 _ _ _ HR8.out
        have x1 : W8.cell? ⟨rb, 1, none⟩ = some (.slice e1 m1 f1) := cell_of_row _ _ 1 _ _ _ HR8.out
        have x2 : W8.cell? ⟨rb, 2, none⟩ = some (.slice e2 m2 f2) := cell_of_row _ _ 2 _ _ _ HR8.out
        have x3 : W8.cell? ⟨rb, 3, none⟩ = some (.slice e3 m3 f3) := cell_of_row _ _ 3 _ _ _ HR8.out
        have x4 : W8.cell? ⟨rb, 4, none⟩ = some (.slice e4 m4 f4) := cell_of_row _ _ 4 _ _ _ HR8.out
        have x5 : W8.cell? ⟨rb, 5, none⟩ = some (.int .i64 dq) := cell_of_row _ _ 5 _ _ _ HR8.out
        have x6 : W8.cell? ⟨rb, 6, none⟩ = some (.int .i64 lq) := cell_of_row _ _ 6 _ _ _ HR8.out
        have HSA := hid (same_any #[.slice b0 n0 d0, .slice b1 n1 d1, .slice b2 n2 d2, .slice b3 n3 d3, .slice b4 n4 d4, .int .i64 dp, .int .i64 lp] #[.slice e0 m0 f0, .slice e1 m1 f1, .slice e2 m2 f2, .slice e3 m3 f3, .slice e4 m4 f4, .int .i64 dq, .int .i64 lq] p q W8 HP8.out HPR8.out HGP.out HGQ.out)
        go_wp2_with fail
        refine HSA.out.mono ?_
        rintro e W9 ⟨⟨z, rfl, hz⟩, l9⟩
        have hzf : z = false := by
          cases z with
          | false => rfl
          | true =>
            have hpq := hz.1 rfl
            have := HZZ.out.2 (by rw [← HEN.out, ← HEQ.out, hpq])
            cases this
        subst hzf
        have HB9 := hid (bch HW8.out l9)
        clear l9 hz HSA
        go_wp2_with fail
        go_ret
        exact ⟨by first | rfl | simp, HB9.out⟩
end Go.Proofs.Ytnclpdgbjefpmaa.L
