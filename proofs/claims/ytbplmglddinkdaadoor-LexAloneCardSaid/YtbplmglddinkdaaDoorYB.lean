import Derived.Test.YtbplmglddinkdaaDoorYA
namespace Go.Proofs.YtbplmglddinkdaaDoor.L
open Go.RowKit Go.Shelf
set_option linter.unusedVariables false
theorem key_get {M L : List Tok} (h : M.map key = L.map key) {j : Nat} (h1 : j < M.length) (h2 : j < L.length) : key (tk M j) = key (tk L j) := by
  have := congrArg (fun l => l[j]?) h
  simp only [List.getElem?_map, List.getElem?_eq_getElem h1, List.getElem?_eq_getElem h2, Option.map_some] at this
  rw [tk_get h1, tk_get h2]
  exact Option.some.inj this
set_option maxHeartbeats 8000000 in
set_option maxRecDepth 100000 in
theorem alone_any (s : ByteArray) (w : World) (hvar : Vars w) : Calls Tryd.prog 7 #[.string s] w fun e w' => e = .returned (.bool true) ∧ Below w.heap.size w w' := by
  have HF := hid (fixed_any w hvar)
  have HV := hid hvar
  cases hT : (scanT s).2 with
  | some p =>
    obtain ⟨c, a⟩ := p
    have A1 := hid (fun W hv => scan_bad' s c a W hv hT)
    clear hT
    go_enter Tryd.func7, Tryd.ntmps7
    go_wp2_with (first
      | (go_at_call 8; refine HF.out.mono ?_; rintro e w1 ⟨rfl, l1⟩; have L1 := hid l1; have HV1 := hid (HV.out.low l1); clear l1)
      | (go_at_call 9; refine (A1.out _ HV1.out).mono ?_; rintro e w2 ⟨N, he, f2, n2, l2⟩; unfold fv at he; subst he; have L2 := hid (L1.out.trans (l2.mono L1.out.size)); clear l2 f2 n2))
    go_ret
    exact ⟨rfl, L2.out⟩
  | none =>
    have hs : s.size ≤ 4096 := by
      apply Classical.byContradiction
      intro n
      rw [show scanT s = ([], some (110, 4096)) from if_neg n] at hT
      cases hT
    have e1 : scanT s = scanS s 0 := if_pos hs
    rw [e1] at hT
    obtain ⟨l, hl, hall⟩ := toks_spec s _ 0 rfl (Nat.zero_le _) hT
    obtain ⟨L, hL⟩ : ∃ L, L = l ++ [tokE s.size] := ⟨_, rfl⟩
    have hTL := scanT_len s
    rw [e1, hl, ← hL] at hTL
    have A1 := hid (fun W hv => scan_ok s L W hv (by rw [e1, hL, ← hl, ← hT]))
    have hpos : 0 < L.length := by rw [hL]; simp
    have HAT := hid (fun i (hi : i < L.length) => hL ▸ at_of s hs l hall i (hL ▸ hi))
    have HWD := hid (show wid s L = widc s l by rw [hL]; have := wid_all s l ⟨#[]⟩; unfold wid; rw [this]; rfl)
    have HWS := hid (wide_scan s l hall ⟨#[]⟩)
    rw [← hL] at HWS
    clear hT hl hall e1 hL
    obtain ⟨n, hN⟩ : ∃ n, n = L.length := ⟨_, rfl⟩
    go_enter Tryd.func7, Tryd.ntmps7
    go_upto_region 4 with (first
      | (go_at_call 8; refine HF.out.mono ?_; rintro e w1 ⟨rfl, l1⟩; have L1 := hid l1; have HV1 := hid (HV.out.low l1); clear l1)
      | (go_at_call 9; refine (A1.out _ HV1.out).mono ?_; rintro e w2 ⟨v2, rfl, o2, l2⟩; have O2 := hid o2.lst; have L2 := hid (L1.out.trans (l2.mono L1.out.size)); clear l2 o2))
    obtain ⟨va, vc, rfl, hlst⟩ := O2.out
    have hn0 : ¬ ((L.length : Int) = 0) := by omega
    have hn0' : (((L.length : Nat) : Int) == 0) = false := beq_eq_false_iff_ne.2 hn0
    have HLS := hid hlst
    clear hlst O2 A1
    have HN := hid hN
    rw [← hN] at hn0 hn0' hpos hTL HLS ⊢
    clear hN
    go_wp2_with fail
    go_loopw [5, 29] (fun wd i wr => ∃ k : Nat, k ≤ n ∧ i = .int .i64 k ∧ wd = .string (wid s (L.take k)) ∧ Hid (Below w2.heap.size w2 wr)) (fun _ i _ => n - (intOf i).toNat)
    case atStart => exact ⟨0, Nat.zero_le _, rfl, rfl, hid (Below.refl _ _)⟩
    case round =>
      obtain ⟨k, hk, rfl, rfl, HB⟩ := hrel
      by_cases hlt : k < n
      · rcases HLS.out with h0 | ⟨b, rfl, hbl, hc⟩
        · omega
        obtain ⟨p0, p1, p2, p3, p4⟩ := hc k hlt
        rw [← HB.out.cell (p := ⟨b, k * 5, none⟩) hbl] at p0
        rw [← HB.out.cell (p := ⟨b, k * 5 + 1, none⟩) hbl] at p1
        rw [← HB.out.cell (p := ⟨b, k * 5 + 2, none⟩) hbl] at p2
        rw [← HB.out.cell (p := ⟨b, k * 5 + 3, none⟩) hbl] at p3
        rw [← HB.out.cell (p := ⟨b, k * 5 + 4, none⟩) hbl] at p4
        have AT := HAT.out k (by rw [← HN.out]; exact hlt)
        have ha := AT.a
        have he := AT.e
        have HONE := hid AT.one
        rw [← HN.out] at HONE
        have HTK := hid (take_tk L k (by rw [← HN.out]; exact hlt))
        have hws : (wid s (L.take k)).size ≤ 4097 * 4100 := Nat.le_trans (wid_size s (L.take k)) (Nat.mul_le_mul (by rw [List.length_take]; omega) (by omega))
        have HW1 := hid (show wid s (L.take (k + 1)) = wid s (L.take k) ++ (gp ++ s.extract (tk L k).a (tk L k).e) by rw [HTK.out, wid_snoc])
        generalize wid s (L.take k) = wd at *
        generalize tk L k = t at *
        obtain ⟨xk, xt, xn, xa, xe⟩ := t
        simp only at p0 p1 p2 p3 p4 ha he HONE HW1
        have g1 : (k : Int) < (n : Int) := by omega
        have g2 : (0 : Int) ≤ (k : Int) := by omega
        have k1 : ¬ (xa : Int) < 0 := by omega
        have k2 : ¬ (s.size : Int) < xe := by omega
        have k3 : ¬ (xe : Int) < xa := by omega
        have k4 : (xa : Int) ≤ xe := by omega
        have k5 : (xe : Int) ≤ s.size := by omega
        clear hc HLS AT
        go_upto_region 10 with fail
        have hz0 := HB.out.size
        have BV := hid (HB.out.alloc hz0 (.cells #[.int .i64 xk, .string xt, .int .i64 xn, .int .i64 xa, .int .i64 xe] 39))
        have WT := hid (heap_alloc_new wr (.cells #[.int .i64 xk, .string xt, .int .i64 xn, .int .i64 xa, .int .i64 xe] 39))
        have hbv : wr.heap.size < (wr.alloc (.cells #[.int .i64 xk, .string xt, .int .i64 xn, .int .i64 xa, .int .i64 xe] 39)).heap.size := by simp
        generalize wr.alloc (.cells #[.int .i64 xk, .string xt, .int .i64 xn, .int .i64 xa, .int .i64 xe] 39) = V at *
        have ⟨q0, q1, q2, q3, q4⟩ := tcells WT.out
        generalize wr.heap.size = tb at *
        clear p0 p1 p2 p3 p4 HB
        go_upto_region 13 with fail
        by_cases hl1 : k + 1 < n
        · have hown := ext_sz s xa xe he
          have HO := hid (HONE.out hl1)
          rw [← hown] at HO
          have g3 : (k : Int) < (n : Int) - 1 := by omega
          have hos : (s.extract xa xe).size ≤ 4096 := by omega
          clear hown
          generalize s.extract xa xe = own at *
          have A2 := hid (fun W hv => scan_ok own _ W hv HO.out)
          have HV2 := hid (HV.out.low (L2.out.trans (BV.out.mono L2.out.size)))
          go_upto_region 15 with (go_at_call 9; refine (A2.out _ HV2.out).mono ?_; rintro e w3 ⟨v3, rfl, o3, l3⟩; have O3 := hid o3.lst; have WT3 := hid ((l3.block tb hbv).trans WT.out); have L3 := hid (BV.out.trans (l3.mono BV.out.size)); clear l3 o3)
          obtain ⟨a3, c3, rfl, h3⟩ := O3.out
          rcases h3 with h0 | ⟨b3, rfl, hb3, hc3⟩
          · cases h0
          have hr := hc3 0 (by simp)
          simp only [Nat.zero_mul, Nat.zero_add] at hr
          obtain ⟨r0, r1, r2, r3, r4⟩ := hr
          have r0' : w3.cell? ⟨b3, 0, none⟩ = some (.int .i64 xk) := r0
          have r1' : w3.cell? ⟨b3, 1, none⟩ = some (.string xt) := r1
          have r2' : w3.cell? ⟨b3, 2, none⟩ = some (.int .i64 xn) := r2
          have r3' : w3.cell? ⟨b3, 3, none⟩ = some (.int .i64 0) := r3
          have r4' : w3.cell? ⟨b3, 4, none⟩ = some (.int .i64 own.size) := r4
          clear q0 q1 q2 q3 q4 r0 r1 r2 r3 r4 hc3 O3
          have ⟨q0, q1, q2, q3, q4⟩ := tcells WT3.out
          go_quiet (fail)
          go_wp2_with fail
          refine ⟨⟨k + 1, by omega, by go_num, by rw [HW1.out]; rfl, hid (below_drewN L3.out nq)⟩, ?_⟩
          simp [intOf]
          omega
        · have hos : (s.extract xa xe).size ≤ 4096 := by rw [ext_sz s xa xe he]; omega
          have g3 : ¬ (k : Int) < (n : Int) - 1 := by omega
          generalize s.extract xa xe = own at *
          go_wp2_with fail
          refine ⟨⟨k + 1, by omega, by go_num, by rw [HW1.out]; rfl, BV⟩, ?_⟩
          simp [intOf]
          omega
      · have hkn : k = n := by omega
        subst hkn
        have HU := hid (show wid s (L.take k) = widc s l by rw [HN.out, List.take_length]; exact HWD.out)
        rw [HU.out]
        have HV2 := hid (HV.out.low (L2.out.trans (HB.out.mono L2.out.size)))
        have ee : (⟨#[]⟩ : ByteArray) ++ widc s l = widc s l := by apply ByteArray.ext; simp
        rw [ee, show (⟨#[]⟩ : ByteArray).size = 0 from rfl] at HWS
        generalize widc s l = U at *
        clear HU HWD ee
        by_cases hU : U.size ≤ 4096
        · have hU' : ¬ (4096 : Int) < U.size := by omega
          have eU : scanT U = scanS U 0 := if_pos hU
          obtain ⟨M, hM⟩ : ∃ M, M = (scanS U 0).1 := ⟨_, rfl⟩
          have A3 := hid (fun W hv => scan_ok U M W hv (by rw [eU, hM, ← HWS.out.1]))
          have HK := hid (show M.map key = L.map key by rw [hM]; exact HWS.out.2)
          have hlen : M.length = k := by have := congrArg List.length HK.out; simp at this; rw [HN.out]; exact this
          clear hM eU HWS
          go_upto_region 24 with (go_at_call 9; refine (A3.out _ HV2.out).mono ?_; rintro e w3 ⟨v3, rfl, o3, l3⟩; have O3 := hid o3.lst; have L3 := hid (HB.out.trans (l3.mono HB.out.size)); obtain ⟨a3, c3, rfl, h3⟩ := O3.out; rw [hlen]; clear l3 o3)
          have H3 := hid h3
          clear h3 O3
          rw [hlen] at H3
          go_wp2_with fail
          go_loopw [143] (fun i wr => ∃ j : Nat, j ≤ k ∧ i = .int .i64 j ∧ Hid (Below w3.heap.size w3 wr)) (fun i _ => k - (intOf i).toNat)
          case atStart => exact ⟨0, Nat.zero_le _, rfl, hid (Below.refl _ _)⟩
          case round =>
            obtain ⟨j, hj, rfl, HB3⟩ := hrel
            by_cases hjl : j < k
            · rcases HLS.out with h0 | ⟨b, rfl, hbl, hc⟩
              · omega
              rcases H3.out with h0 | ⟨b3, rfl, hb3, hc3⟩
              · omega
              have hbl3 : b < w3.heap.size := Nat.lt_of_lt_of_le hbl L3.out.size
              obtain ⟨p0, p1, p2, p3, p4⟩ := hc j hjl
              obtain ⟨q0, q1, q2, q3, q4⟩ := hc3 j hjl
              rw [← L3.out.cell (p := ⟨b, j * 5, none⟩) hbl, ← HB3.out.cell (p := ⟨b, j * 5, none⟩) hbl3] at p0
              rw [← L3.out.cell (p := ⟨b, j * 5 + 1, none⟩) hbl, ← HB3.out.cell (p := ⟨b, j * 5 + 1, none⟩) hbl3] at p1
              rw [← L3.out.cell (p := ⟨b, j * 5 + 2, none⟩) hbl, ← HB3.out.cell (p := ⟨b, j * 5 + 2, none⟩) hbl3] at p2
              rw [← HB3.out.cell (p := ⟨b3, j * 5, none⟩) hb3] at q0
              rw [← HB3.out.cell (p := ⟨b3, j * 5 + 1, none⟩) hb3] at q1
              rw [← HB3.out.cell (p := ⟨b3, j * 5 + 2, none⟩) hb3] at q2
              have hkey := key_get HK.out (j := j) (by omega) (by rw [← HN.out]; exact hjl)
              unfold key at hkey
              simp only [Prod.mk.injEq] at hkey
              obtain ⟨y0, y1, y2⟩ := hkey
              rw [y0] at q0
              rw [y1] at q1
              rw [y2] at q2
              clear y0 y1 y2 hc hc3 p3 p4 q3 q4
              generalize (tk L j).kind = s1 at *
              generalize (tk L j).text = s2 at *
              generalize (tk L j).num = s3 at *
              have g1 : (j : Int) < (k : Int) := by omega
              have g2 : (0 : Int) ≤ (j : Int) := by omega
              go_wp2_with fail
              go_quiet (fail)
              go_wp2_with fail
              exact ⟨⟨j + 1, by omega, by go_num, hid (below_drewN HB3.out nq)⟩, by simp [intOf]; omega⟩
            · obtain rfl : j = k := by omega
              go_wp2_with fail
              go_ret
              exact ⟨rfl, (L2.out.trans (L3.out.mono L2.out.size)).trans (HB3.out.mono (Nat.le_trans L2.out.size L3.out.size))⟩
        · have hU' : (4096 : Int) < U.size := by omega
          have A3 := hid (fun W hv => scan_bad' U 110 4096 W hv (by rw [show scanT U = ([], some (110, 4096)) from if_neg hU]))
          have IF := hid (fun N W (h : Flt W N 110 4096) => isfault_yes N 110 4096 W h (by decide))
          unfold fv at IF
          clear HWS
          go_wp2_with (first
            | (go_at_call 9; refine (A3.out _ HV2.out).mono ?_; rintro e w3 ⟨N, he, f3, n3, l3⟩; unfold fv at he; subst he; have F3 := hid f3; have L3 := hid (HB.out.trans (l3.mono HB.out.size)); clear l3 f3 n3)
            | (go_at_call 12; refine (IF.out _ _ F3.out).mono ?_; rintro e w6 ⟨rfl, hww⟩; have hw2 := hww.symm; clear hww; subst hw2))
          go_ret
          exact ⟨rfl, L2.out.trans (L3.out.mono L2.out.size)⟩
end Go.Proofs.YtbplmglddinkdaaDoor.L
