import Derived.Test.YtbplmglddinkdaaDoorZD
namespace Go.Proofs.YtbplmglddinkdaaDoor.L
open Go.RowKit Go.Shelf
set_option linter.unusedVariables false
theorem run_assert_nil' (w : World) : (Instr.typeAssert .nilIface 26 45 true).run Tryd.prog w = .ok (.tuple #[.pointer none, .bool false]) w := by
  kernel_rfl
set_option maxHeartbeats 8000000 in
set_option maxRecDepth 100000 in
theorem covers_bad (s : ByteArray) (w : World) (hvar : Vars w) (c a : Nat) (hT : (scanT s).2 = some (c, a)) : Calls Tryd.prog 6 #[.string s] w fun e w' => e = .returned (.bool true) ∧ Below w.heap.size w w' := by
  have HF := hid (fixed_any w hvar)
  have HQ := hid (fun W => fixq_any W)
  have HV := hid hvar
  have A1 := hid (fun W hv => scan_bad' s c a W hv hT)
  have RA := run_assert
  have hc : 110 ≤ c ∧ c ≤ 115 ∧ a ≤ s.size ∧ (4096 < s.size ↔ c = 110) := by
    by_cases hs : s.size ≤ 4096
    · rw [show scanT s = scanS s 0 from if_pos hs] at hT
      have h1 := scan_codes s _ 0 rfl c a hT
      have h2 := scan_at s _ 0 rfl c a hT
      omega
    · rw [show scanT s = ([], some (110, 4096)) from if_neg hs] at hT
      cases hT
      omega
  obtain ⟨k1, k2, k3, k4⟩ := hc
  clear hT
  have z1 : (0 : Int) ≤ a := by omega
  have z2 : (a : Int) ≤ s.size := by omega
  have z3 : (110 : Int) ≤ c := by omega
  have z4 : (c : Int) ≤ 115 := by omega
  by_cases hs : 4096 < s.size
  · have e : c = 110 := k4.1 hs
    subst e
    have hs' : (4096 : Int) < s.size := by omega
    go_enter Tryd.func6, Tryd.ntmps6
    go_wp2_with (first
      | (go_at_call 8; refine HF.out.mono ?_; rintro e w1 ⟨rfl, l1⟩; have L1 := hid l1; clear l1)
      | (go_at_call 15; refine (HQ.out _).mono ?_; rintro e w2 ⟨rfl, l2⟩; have L2 := hid (L1.out.trans (l2.mono L1.out.size)); have HV1 := hid (HV.out.low L2.out); clear l2)
      | (go_at_call 9; refine (A1.out _ HV1.out).mono ?_; rintro e w3 ⟨N, he, f2, n2, l2⟩; unfold fv at he; subst he; have c0 := f2.cells.1; have c1 := f2.cells.2.1; have L3 := hid (L2.out.trans (l2.mono L2.out.size)); clear l2 f2 n2))
    go_ret
    exact ⟨rfl, L3.out⟩
  · have e : c ≠ 110 := fun e => hs (k4.2 e)
    have hs' : ¬ (4096 : Int) < s.size := by omega
    have e' : ((c : Int) == 110) = false := by simp; omega
    have hs'' : decide ((4096 : Int) < s.size) = false := by simpa using hs'
    go_enter Tryd.func6, Tryd.ntmps6
    go_wp2_with (first
      | (go_at_call 8; refine HF.out.mono ?_; rintro e w1 ⟨rfl, l1⟩; have L1 := hid l1; clear l1)
      | (go_at_call 15; refine (HQ.out _).mono ?_; rintro e w2 ⟨rfl, l2⟩; have L2 := hid (L1.out.trans (l2.mono L1.out.size)); have HV1 := hid (HV.out.low L2.out); clear l2)
      | (go_at_call 9; refine (A1.out _ HV1.out).mono ?_; rintro e w3 ⟨N, he, f2, n2, l2⟩; unfold fv at he; subst he; have c0 := f2.cells.1; have c1 := f2.cells.2.1; have L3 := hid (L2.out.trans (l2.mono L2.out.size)); clear l2 f2 n2))
    go_ret
    exact ⟨rfl, L3.out⟩
theorem gap_at {s : ByteArray} {p a : Nat} (hp : p ≤ s.size) (hg : gapS s p = a) : p ≤ a ∧ a ≤ s.size ∧ ∃ r, gapR (s.extract p a) 0 (s.extract p a).size false = some r ∧ (a < s.size → r = false) := by
  have h1 := gapS_in s _ p rfl hp
  rw [hg] at h1
  obtain ⟨r, h2, h3⟩ := gapR_gap s _ p rfl hp
  rw [hg] at h2 h3
  refine ⟨h1.1, h1.2, r, ?_, h3⟩
  rw [ext_sz s p a h1.2, gapR_cut s p a h1.2 _ 0 false rfl]
  exact h2
set_option maxHeartbeats 16000000 in
set_option maxRecDepth 100000 in
theorem covers_ok (s : ByteArray) (w : World) (hvar : Vars w) (htab : TabW w) (hT : (scanT s).2 = none) : Calls Tryd.prog 6 #[.string s] w fun e w' => e = .returned (.bool true) ∧ Below w.heap.size w w' := by
  have HF := hid (fixed_any w hvar)
  have HQ := hid (fun W => fixq_any W)
  have HV := hid hvar
  have HTB := hid htab
  have RA := run_assert_nil'
  have hs : s.size ≤ 4096 := by
    apply Classical.byContradiction
    intro n
    rw [show scanT s = ([], some (110, 4096)) from if_neg n] at hT
    cases hT
  have e1 : scanT s = scanS s 0 := if_pos hs
  have hTL := scanT_len s
  have A1 := hid (fun W hv => scan_ok s (scanT s).1 W hv (by rw [← hT]))
  rw [e1] at hT hTL A1
  have HCH := hid (fun j hj => chain s _ 0 rfl (Nat.zero_le _) hT j hj)
  have hpos : 0 < (scanS s 0).1.length := by
    obtain ⟨l, e, _⟩ := toks_spec s _ 0 rfl (Nat.zero_le _) hT
    rw [e]; simp
  generalize (scanS s 0).1 = L at *
  clear e1 hT hvar htab
  have hs' : ¬ (4096 : Int) < s.size := by omega
  obtain ⟨n, hN⟩ : ∃ n, n = L.length := ⟨_, rfl⟩
  go_enter Tryd.func6, Tryd.ntmps6
  go_upto_region 4 with (first
    | (go_at_call 8; refine HF.out.mono ?_; rintro e w1 ⟨rfl, l1⟩; have L1 := hid l1; clear l1)
    | (go_at_call 15; refine (HQ.out _).mono ?_; rintro e w2 ⟨rfl, l2⟩; have L2 := hid (L1.out.trans (l2.mono L1.out.size)); have HV1 := hid (HV.out.low L2.out); clear l2)
    | (go_at_call 9; refine (A1.out _ HV1.out).mono ?_; rintro e w3 ⟨v3, rfl, o3, l3⟩; have O3 := hid o3.lst; have L3 := hid (L2.out.trans (l3.mono L2.out.size)); clear l3 o3))
  obtain ⟨va, vc, rfl, hlst⟩ := O3.out
  have hn0 : ¬ ((L.length : Int) = 0) := by omega
  have hn0' : (((L.length : Nat) : Int) == 0) = false := beq_eq_false_iff_ne.2 hn0
  have HLS := hid hlst
  have HN := hid hN
  clear hlst O3 A1
  rw [← hN] at hn0 hn0' hpos hTL HLS HCH ⊢
  clear hN
  go_wp2_with fail
  go_loopw [7, 93] (fun at_ i wr => ∃ k : Nat, k ≤ n ∧ i = .int .i64 k ∧ at_ = .int .i64 (prv L 0 k : Nat) ∧ Hid (Below w3.heap.size w3 wr)) (fun _ i _ => n - (intOf i).toNat)
  case atStart => exact ⟨0, Nat.zero_le _, rfl, rfl, hid (Below.refl _ _)⟩
  case round =>
    obtain ⟨k, hk, rfl, rfl, HB⟩ := hrel
    by_cases hlt : k < n
    · rcases HLS.out with h0 | ⟨b, rfl, hbl, hc⟩
      · omega
      obtain ⟨p0, p1, p2, p3, p4⟩ := hc k hlt
      rw [← HB.out.cell (p := ⟨b, k * 5, none⟩) hbl] at p0
      rw [← HB.out.cell (p := ⟨b, k * 5 + 1, none⟩) hbl] at p1
      rw [← HB.out.cell (p := ⟨b, k * 5 + 2, none⟩) hbl] at p2
      rw [← HB.out.cell (p := ⟨b, k * 5 + 3, none⟩) hbl] at p3
      rw [← HB.out.cell (p := ⟨b, k * 5 + 4, none⟩) hbl] at p4
      have LN := HCH.out k hlt
      have HPE := hid (show prv L 0 (k + 1) = (tk L k).e from rfl)
      obtain ⟨y1, y2, r, y3, y4⟩ := gap_at LN.le LN.gap
      have y0 := LN.le
      have g1 : (k : Int) < (n : Int) := by omega
      have g2 : (0 : Int) ≤ (k : Int) := by omega
      clear hc HLS
      by_cases hl1 : k + 1 < n
      · have hm := LN.mid (by rw [← HN.out]; exact hl1)
        have hin := tok_in hm.1 hm.2
        have KN := knd_of hm.1 hs hm.2
        have HGO := hid (fun W => gaponly_any (s.extract (prv L 0 k) (tk L k).a) false r W (by rw [ext_sz _ _ _ y2]; omega) y3 (Or.inl (y4 hm.1)))
        have g3 : ((k : Int) == (n : Int) - 1) = false := by simp; omega
        have hxs := ext_sz s (tk L k).a (tk L k).e hin.2.2
        clear LN y3 y4
        generalize prv L 0 k = p at *
        generalize tk L k = t at *
        obtain ⟨xk, xt, xn, xa, xe⟩ := t
        simp only at p0 p1 p2 p3 p4 hin KN HGO y1 y2 hxs HPE
        have hkd : xk ≠ 0 := tok_kind hm.2
        have hkd' : ((xk : Int) == 0) = false := by simp; omega
        have hin1 := hin.2.1
        have hin2 := hin.2.2
        have k1 : ¬ (xa : Int) < p := by omega
        have k2 : ¬ (s.size : Int) < xe := by omega
        have k3 : ¬ (xe : Int) < xa := by omega
        have k4 : ((xe : Int) == xa) = false := by simp; omega
        have k5 : (p : Int) ≤ xa := by omega
        have k6 : (xa : Int) ≤ s.size := by omega
        have k7 : (xa : Int) ≤ xe := by omega
        have k8 : (xe : Int) ≤ s.size := by omega
        clear hin hm
        go_upto_region 13 with fail
        have hz0 := HB.out.size
        have BV := hid (HB.out.alloc hz0 (.cells #[.int .i64 xk, .string xt, .int .i64 xn, .int .i64 xa, .int .i64 xe] 39))
        have WT := hid (heap_alloc_new wr (.cells #[.int .i64 xk, .string xt, .int .i64 xn, .int .i64 xa, .int .i64 xe] 39))
        have hbv : wr.heap.size < (wr.alloc (.cells #[.int .i64 xk, .string xt, .int .i64 xn, .int .i64 xa, .int .i64 xe] 39)).heap.size := by simp
        generalize wr.alloc (.cells #[.int .i64 xk, .string xt, .int .i64 xn, .int .i64 xa, .int .i64 xe] 39) = V at *
        have ⟨q0, q1, q2, q3, q4⟩ := tcells WT.out
        generalize wr.heap.size = tb at *
        clear p0 p1 p2 p3 p4 HB
        go_upto_region 17 with (go_at_call 18; refine (HGO.out _).mono ?_; rintro e w6 ⟨rfl, hww⟩; have hw2 := hww.symm; clear hww; subst hw2)
        cases KN with
        | txt h hn l hl hu =>
          simp only at h hn hl hu
          have HU := hid (fun W => unq_any (s.extract xa xe) W (by omega))
          rw [hu] at HU
          unfold UQ at HU
          simp only [] at HU
          rw [← hl] at HU
          clear hu hkd hkd' hl
          subst h hn
          generalize s.extract xa xe = own at *
          go_upto_region 24 with (go_at_call 17; refine (HU.out _).mono ?_; rintro e w7 ⟨rfl, l7⟩; have W7 := hid ((l7.block tb hbv).trans WT.out); have L7 := hid (BV.out.trans (l7.mono BV.out.size)); clear l7)
          clear q0 q1 q2 q3 q4
          have ⟨q0, q1, q2, q3, q4⟩ := tcells W7.out
          go_wp2_with fail
          refine ⟨⟨k + 1, by omega, by go_num, by rw [HPE.out], L7⟩, ?_⟩
          simp [intOf]
          omega
        | num h ht hi h0 h1 =>
          simp only at h ht hi h0 h1
          have HTV := hid (HTB.out.low (L3.out.trans (BV.out.mono L3.out.size)))
          have HI := hid (fun W hv => itoa_any xn (s.extract xa xe) (by omega) (by omega) W hv hi)
          clear hi hkd hkd'
          subst h ht
          generalize s.extract xa xe = own at *
          go_wp2_with (go_at_call 19; refine (HI.out _ HTV.out).mono ?_; rintro e w7 ⟨rfl, l7⟩; have W7 := hid ((l7.block tb hbv).trans WT.out); have q1' := (tcells W7.out).2.1; have q4' := (tcells W7.out).2.2.2.2; have L7 := hid (BV.out.trans (l7.mono BV.out.size)); clear l7)
          refine ⟨⟨k + 1, by omega, by go_num, by rw [HPE.out], L7⟩, ?_⟩
          simp [intOf]
          omega
        | wrd h hn ht =>
          simp only at h hn ht
          clear hkd hkd'
          subst hn
          generalize s.extract xa xe = own at *
          subst ht
          rcases h with h | h <;> subst h
          · go_wp2_with fail
            refine ⟨⟨k + 1, by omega, by go_num, by rw [HPE.out], BV⟩, ?_⟩
            simp [intOf]
            omega
          · go_wp2_with fail
            refine ⟨⟨k + 1, by omega, by go_num, by rw [HPE.out], BV⟩, ?_⟩
            simp [intOf]
            omega
      · have hlast := LN.last (by rw [← HN.out]; exact hl1)
        have HGO := hid (fun W => gaponly_any (s.extract (prv L 0 k) (tk L k).a) true r W (by rw [ext_sz _ _ _ y2]; omega) y3 (Or.inr rfl))
        have g3 : ((k : Int) == (n : Int) - 1) = true := by simp; omega
        rw [hlast] at HGO HPE p0 p1 p2 p3 p4 y1 y2
        have hs0 : s.extract s.size s.size = ⟨#[]⟩ := by apply ByteArray.ext; simp
        clear LN y3 y4 hlast
        generalize prv L 0 k = p at *
        simp only [tokE] at p0 p1 p2 p3 p4 HGO HPE y1
        have k1 : ¬ (s.size : Int) < p := by omega
        have k5 : (p : Int) ≤ s.size := by omega
        have p0' : wr.cell? ⟨b, k * 5, none⟩ = some (.int .i64 0) := p0
        have p1' : wr.cell? ⟨b, k * 5 + 1, none⟩ = some (.string ⟨#[]⟩) := p1
        clear p0 p1
        go_upto_region 13 with fail
        have hz0 := HB.out.size
        have BV := hid (HB.out.alloc hz0 (.cells #[.int .i64 0, .string ⟨#[]⟩, .int .i64 0, .int .i64 s.size, .int .i64 s.size] 39))
        have WT := hid (heap_alloc_new wr (.cells #[.int .i64 0, .string ⟨#[]⟩, .int .i64 0, .int .i64 s.size, .int .i64 s.size] 39))
        generalize wr.alloc (.cells #[.int .i64 0, .string ⟨#[]⟩, .int .i64 0, .int .i64 s.size, .int .i64 s.size] 39) = V at *
        have ⟨q0, q1, q2, q3, q4⟩ := tcells WT.out
        generalize wr.heap.size = tb at *
        clear p0' p1' p2 p3 p4 HB
        go_upto_region 17 with (go_at_call 18; refine (HGO.out _).mono ?_; rintro e w6 ⟨rfl, hww⟩; have hw2 := hww.symm; clear hww; subst hw2)
        go_wp2_with fail
        refine ⟨⟨k + 1, by omega, by go_num, by rw [HPE.out], BV⟩, ?_⟩
        simp [intOf]
        omega
    · obtain rfl : k = n := by omega
      go_wp2_with fail
      go_ret
      exact ⟨rfl, L3.out.trans (HB.out.mono L3.out.size)⟩
theorem covers_any (s : ByteArray) (w : World) (hvar : Vars w) (htab : TabW w) : Calls Tryd.prog 6 #[.string s] w fun e w' => e = .returned (.bool true) ∧ Below w.heap.size w w' := by
  cases hT : (scanT s).2 with
  | none => exact covers_ok s w hvar htab hT
  | some p => obtain ⟨c, a⟩ := p; exact covers_bad s w hvar c a hT
end Go.Proofs.YtbplmglddinkdaaDoor.L
