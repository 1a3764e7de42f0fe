import Derived.Test.YtbplmglddinkdabDoorVB
namespace Go.Proofs.YtbplmglddinkdabDoor.L
open Go.RowKit Go.Shelf
set_option linter.unusedVariables false
def TT (s : ByteArray) : List Tok := match (scanT s).2 with | none => (scanT s).1 | some _ => []
theorem TT_len (s : ByteArray) : (TT s).length ≤ 4097 := by
  unfold TT
  split
  · exact scanT_len s
  · simp
/-- What stands beside the tokens: nothing, or the fault. -/
def ER (fo : Option (Nat × Nat)) (W : World) (x : Value) (B : Nat) : Prop := match fo with
  | none => x = .nilIface
  | some (c, a) => ∃ N, x = fv N ∧ Flt W N c a ∧ B ≤ N
theorem ER.low {fo : Option (Nat × Nat)} {W W' : World} {x : Value} {B : Nat} (h : ER fo W x B) (hb : Below W.heap.size W W') : ER fo W' x B := by
  cases fo with
  | none => exact h
  | some p =>
    obtain ⟨N, e, f, hN⟩ := h
    exact ⟨N, e, f.low hb f.lt, hN⟩
theorem er_lt {fo : Option (Nat × Nat)} {W : World} {x : Value} {B N : Nat} (h : ER fo W x B) (e : x = fv N) (hf : ∃ c a, fo = some (c, a)) : N < W.heap.size := by
  obtain ⟨c, a, rfl⟩ := hf
  obtain ⟨M, e1, f, _⟩ := h
  rw [e] at e1
  unfold fv at e1
  have : N = M := by injection e1 with _ e2; injection e2 with e3; injection e3 with e4; injection e4
  rw [this]
  exact f.lt
theorem scan_u (s : ByteArray) (w : World) (hv : Vars w) : Calls Tryd.prog 6 #[.string s] w fun e w' => ∃ v x, e = .returned (.tuple #[v, x]) ∧ OwnT w' w.heap.size v (TT s) ∧ ER (scanT s).2 w' x w.heap.size ∧ Below w.heap.size w w' := by
  refine (scan_any s w hv).mono ?_
  rintro e w' ⟨hb, ⟨v, h1, e1, o⟩ | ⟨N, c, a, h1, e1, f, hN⟩⟩
  · refine ⟨v, _, e1, ?_, ?_, hb⟩
    · unfold TT; rw [h1]; exact o
    · rw [h1]; rfl
  · refine ⟨_, _, e1, ?_, ?_, hb⟩
    · unfold TT; rw [h1]; exact World.ownsRow_nil _ _ _ _
    · rw [h1]; exact ⟨N, rfl, f, hN⟩
theorem rscan_u (s : ByteArray) (w : World) : Calls Tryd.prog 8 #[.string s] w fun e w' => ∃ v, e = .returned (.tuple #[v, .int .i64 ((ca (scanT s).2).1 : Nat), .int .i64 ((ca (scanT s).2).2 : Nat)]) ∧ OwnT w' w.heap.size v (TT s) ∧ Below w.heap.size w w' := by
  refine (rscan_any s w).mono ?_
  rintro e w' ⟨hb, ⟨v, h1, e1, o⟩ | ⟨c, a, h1, e1⟩⟩
  · refine ⟨v, ?_, ?_, hb⟩
    · rw [h1]; exact e1
    · unfold TT; rw [h1]; exact o
  · refine ⟨.slice none 0 0, ?_, ?_, hb⟩
    · rw [h1]; exact e1
    · unfold TT; rw [h1]; exact World.ownsRow_nil _ _ _ _
theorem isf_u (s : ByteArray) (x : Value) (B : Nat) (w : World) (h : ER (scanT s).2 w x B) : Calls Tryd.prog 7 #[x, .int .i64 ((ca (scanT s).2).1 : Nat), .int .i64 ((ca (scanT s).2).2 : Nat)] w fun e w' => e = .returned (.bool true) ∧ w' = w := by
  cases hf : (scanT s).2 with
  | none =>
    rw [hf] at h
    have e : x = .nilIface := h
    rw [e]
    exact isfault_ok 0 w
  | some p =>
    obtain ⟨c, a⟩ := p
    rw [hf] at h
    obtain ⟨N, e, f, _⟩ := h
    rw [e]
    exact isfault_yes N c a w f (scanT_code s hf)
/-- The lists as they are collected. -/
structure Fk (W : World) (base : Nat) (va : Value) (fl : List Value) (T : List Tok) (k : Nat) : Prop where
  all : W.ownsRow base 23 1 va k fl
  own : ∀ j, j < k → OwnT W base (fv_ fl j) T
  sep : ∀ i j, i < k → j < k → i ≠ j → (fv_ fl i).ownBlock = none ∨ (fv_ fl i).ownBlock ≠ (fv_ fl j).ownBlock
theorem Fk.low {W W' : World} {base k : Nat} {va : Value} {fl : List Value} {T : List Tok} (h : Fk W base va fl T k) (hk : Below W.heap.size W W') : Fk W' base va fl T k :=
  ⟨row_low h.all hk, fun j hj => row_low (h.own j hj) hk, h.sep⟩
theorem Fk.snoc {W W1 W2 : World} {base k : Nat} {va va' v : Value} {fl : List Value} {T : List Tok} (h : Fk W base va fl T k) (hb : Below W.heap.size W W1) (ho : OwnT W1 W.heap.size v T) (hbase : base ≤ W.heap.size) (hg : W1.grownBy W2 va.ownBlock) (hr : W2.ownsRow base 23 1 va' (k + 1) (fl ++ [v])) : Fk W2 base va' (fl ++ [v]) T (k + 1) := by
  have hlen : fl.length = k := by have := h.all.1; simpa using this
  have h1 := h.low hb
  have ne43 : ∀ (u : Value) (b : Nat) (l : List Tok), OwnT W1 b u l → u.ownBlock = none ∨ u.ownBlock ≠ va.ownBlock := fun u b l o => row_ne o h1.all (by decide)
  refine ⟨hr, fun j hj => ?_, fun i j hi hj hne => ?_⟩
  · rw [fv_snoc, hlen]
    by_cases hjk : j < k
    · rw [if_pos hjk]
      exact World.ownsRow.kept (h1.own j hjk) hg (ne43 _ _ _ (h1.own j hjk))
    · rw [if_neg hjk, if_pos (by omega)]
      exact row_mono (World.ownsRow.kept ho hg (ne43 _ _ _ ho)) hbase
  · rw [fv_snoc, fv_snoc, hlen]
    by_cases hik : i < k
    · rw [if_pos hik]
      by_cases hjk : j < k
      · rw [if_pos hjk]
        exact h.sep i j hik hjk hne
      · rw [if_neg hjk, if_pos (by omega)]
        cases e : (fv_ fl i).ownBlock with
        | none => exact .inl rfl
        | some b =>
          right
          intro e2
          have q1 := (row_lt (h.own i hik) e).2
          have q2 := (row_lt ho e2.symm).1
          omega
    · rw [if_neg hik, if_pos (by omega), if_pos (by omega : j < k)]
      cases e : v.ownBlock with
      | none => exact .inl rfl
      | some b =>
        right
        intro e2
        have q1 := (row_lt (h.own j (by omega)) e2.symm).2
        have q2 := (row_lt ho e).1
        omega
set_option maxHeartbeats 16000000 in
set_option maxRecDepth 100000 in
theorem keeps_any (s : ByteArray) (w : World) (hvar : Vars w) : Calls Tryd.prog 4 #[.string s] w fun e w' => e = .returned (.bool true) ∧ Below w.heap.size w w' := by
  obtain ⟨i1, hi1, hy0, hy1, hy2⟩ := info_parts infoS
  have HF := hid (fixed_any w hvar)
  have HV := hid hvar
  have A1 := hid (fun W hv => scan_u s W hv)
  have A2 := hid (fun W => rscan_u s W)
  have A3 := hid (fun v1 v2 W (h1 : TokL W v1 (TT s)) (h2 : TokL W v2 (TT s)) => same_tokens v1 v2 (TT s) W h1 h2 (TT_len s))
  have IF := hid (fun x B W (h : ER (scanT s).2 W x B) => isf_u s x B W h)
  have HTL := hid (TT_len s)
  have HCODE := hid (fun c a (h : (scanT s).2 = some (c, a)) => scanT_code s h)
  generalize (scanT s).2 = fo at *
  generalize TT s = T at *
  obtain ⟨c0, hc0⟩ : ∃ c0, c0 = (ca fo).1 := ⟨_, rfl⟩
  obtain ⟨a0, ha0⟩ : ∃ a0, a0 = (ca fo).2 := ⟨_, rfl⟩
  rw [← hc0, ← ha0] at A2 IF
  have HC0 := hid hc0
  have HA0 := hid ha0
  clear hc0 ha0 hvar
  go_enter Tryd.func4, Tryd.ntmps4
  go_upto_region 4 with (first
    | (go_at_call 5; refine HF.out.mono ?_; rintro e w1 ⟨rfl, l1⟩; have L1 := hid l1; clear l1)
    | (go_at_call 8; refine (A2.out _).mono ?_; rintro e w2 ⟨vw, rfl, o2, l2⟩; have O2 := hid o2; have L2 := hid (L1.out.trans (l2.mono L1.out.size)); clear l2 o2))
  clear HF A2
  have HV2 := hid (HV.out.low L2.out)
  obtain ⟨wa, wc, rfl⟩ := ownt_form O2.out
  obtain ⟨n, hn⟩ : ∃ n, n = T.length := ⟨_, rfl⟩
  have HW2 := hid O2.out.lst
  rw [← hn] at HW2 ⊢
  have HN := hid hn
  clear O2 hn
  go_wp2_with fail
  go_loopw [6, 7] (fun va i wr => ∃ (k : Nat) (fl : List Value), k ≤ 18 ∧ i = .int .i64 k ∧ Hid (Fk wr w2.heap.size va fl T k) ∧ Hid (Below w2.heap.size w2 wr)) (fun _ i _ => 18 - (intOf i).toNat)
  case atStart => exact ⟨0, [], by omega, rfl, ⟨World.ownsRow_nil _ _ _ _, fun j hj => absurd hj (by omega), fun i j hi => absurd hi (by omega)⟩, Below.refl _ _⟩
  case round =>
    obtain ⟨k, fl, hk, rfl, FK, HB⟩ := hrel
    have hzB := HB.out.size
    by_cases hlt : k < 18
    · have HVr := hid (HV2.out.low HB.out)
      have g1 : (k : Int) < 18 := by omega
      go_upto_region 9 with (go_at_call 6; refine (A1.out _ HVr.out).mono ?_; rintro e w3 ⟨v3, x3, rfl, o3, r3, l3⟩; have O3 := hid o3; have R3 := hid r3; have L3 := hid l3; clear l3 o3 r3)
      have hz3 := L3.out.size
      obtain ⟨a3, c3, rfl⟩ := ownt_form O3.out
      rw [← HN.out] at O3 ⊢
      have T3 := hid O3.out.lst
      have TW3 := hid (HW2.out.low (HB.out.trans (L3.out.mono hzB)))
      go_upto_region 11 with (first
        | (go_at_call 9; refine (A3.out _ _ _ T3.out TW3.out).mono ?_; rintro e w4 ⟨rfl, l4⟩; have L4 := hid l4; have R4 := hid (R3.out.low l4); clear l4)
        | (go_at_call 7; refine (IF.out _ _ _ R4.out).mono ?_; rintro e w6 ⟨rfl, hww⟩; have hw2 := hww.symm; clear hww; subst hw2))
      have hz4 := L4.out.size
      have ALL4 := hid ((FK.out.low L3.out).low L4.out).all
      obtain ⟨ga, gc, hvg⟩ : ∃ a c, u6 = .slice a k c := by
        rcases ALL4.out.2 with ⟨e, e0⟩ | ⟨g, cap, cur, e, _⟩
        · exact ⟨none, 0, by rw [e, e0]⟩
        · exact ⟨_, _, e⟩
      subst hvg
      have L34 := hid (L3.out.trans (L4.out.mono hz3))
      have O4 := hid (ownt_low O3.out L4.out)
      clear T3 TW3 R3 R4
      go_wp2_with (at_builtin; refine wpList_append_own _ rfl _ _ 37 rfl w2.heap.size 23 i1 (.slice none 0 0) 1 24 Tryd.underlying37 hi1 hy0 hy1 hy2 rfl (by decide) _ _ _ rfl (World.ownsRow.alloc ALL4.out _) ⟨w4.heap.size, 0, none⟩ 1 1 [.slice a3 n c3] rfl rfl (Ap.one_at _ _ _) (fun x hx => by simp at hx; subst hx; rfl) (by unfold maxLen; omega) (by omega) (by simp; omega) ?_)
      intro va' w5 hown5 hgrow5 _
      have F5 := hid (FK.out.snoc L34.out O4.out hzB (grown_alloc hgrow5) hown5)
      have B5 := hid ((HB.out.trans (L34.out.mono hzB)).trans (grown_below (grown_alloc hgrow5) (by omega) (fun b e => (row_lt ALL4.out e).1)))
      obtain ⟨a5, c5, hv5⟩ : ∃ a c, va' = .slice a (k + 1) c := by
        rcases hown5.2 with ⟨e, e0⟩ | ⟨g, cap, cur, e, _⟩
        · cases e0
        · exact ⟨_, _, e⟩
      subst hv5
      clear hown5 hgrow5
      go_wp2_with fail
      exact ⟨⟨k + 1, fl ++ [_], by omega, by go_num, F5, B5⟩, by simp [intOf]; omega⟩
    · have hk18 : k = 18 := by omega
      have hkd : decide ((k : Int) < 18) = false := by simp; omega
      have F0 := FK.out
      rw [hk18] at F0
      have FM := hid (show Fm wr w2.heap.size u6 fl (fun _ => T) from ⟨F0.all, F0.own, F0.sep⟩)
      clear F0 FK hk18
      obtain ⟨A, cp, hva, hA, hbA, hcell⟩ := FM.out.cell
      subst hva
      go_wp2_with fail
      go_loopw [56] (fun i wr => ∃ r : Nat, r ≤ 18 ∧ i = .int .i64 r ∧ Hid (Fm wr w2.heap.size (.slice (some ⟨A, 0, none⟩) 18 cp) fl (fun _ => T)) ∧ Hid (Below w2.heap.size w2 wr)) (fun i _ => 18 - (intOf i).toNat)
      case atStart => exact ⟨0, by omega, rfl, FM, HB⟩
      case round =>
        clear FM HB hcell hA
        obtain ⟨r, hr, rfl, FM, HB⟩ := hrel
        by_cases hrl : r < 18
        · obtain ⟨A', cp', e1, hA', hbA', hc⟩ := FM.out.cell
          cases e1
          have c1 := hc r hrl
          clear hc
          have T3 := hid (FM.out.own r hrl).lst
          obtain ⟨fa, fc, hf, _⟩ := (FM.out.own r hrl).lst
          rw [hf] at c1 T3
          have TW3 := hid (HW2.out.low HB.out)
          have g1 : (r : Int) < 18 := by omega
          rw [← HN.out] at c1 T3
          clear hf
          go_wp2_with (go_at_call 9; refine (A3.out _ _ _ T3.out TW3.out).mono ?_; rintro e w4 ⟨rfl, l4⟩; have F4 := hid (FM.out.low l4); have B4 := hid (HB.out.trans (l4.mono HB.out.size)); clear l4)
          exact ⟨⟨r + 1, by omega, by go_num, F4, B4⟩, by simp [intOf]; omega⟩
        · have hrd : decide ((r : Int) < 18) = false := by simp; omega
          have hz2 := HB.out.size
          have HAP := hid (apart_any _ fl T w2.heap.size _ FM.out HB.out.size HTL.out)
          go_upto_region 20 with (go_at_call 10; refine HAP.out.mono ?_; rintro e w5 ⟨rfl, l5⟩; have L5 := hid (HB.out.trans l5); clear l5)
          clear HAP
          have hz5 := L5.out.size
          have HV5 := hid (HV2.out.low L5.out)
          have TW5 := hid (HW2.out.low L5.out)
          clear FM HB HV2
          go_upto_region 21 with (go_at_call 6; refine (A1.out _ HV5.out).mono ?_; rintro e w6 ⟨v6, x6, rfl, o6, r6, l6⟩; have O6 := hid o6; have R6 := hid r6; have L6 := hid l6; have HV6 := hid (HV5.out.low l6); have TW6 := hid (TW5.out.low l6); clear l6 o6 r6)
          obtain ⟨a6, c6, rfl⟩ := ownt_form O6.out
          rw [← HN.out] at O6 ⊢
          have h6lt := hid (show ∀ N, x6 = fv N → (∃ c a, fo = some (c, a)) → N < w6.heap.size from fun N e he => er_lt R6.out e he)
          go_upto_region 22 with (go_at_call 6; refine (A1.out _ HV6.out).mono ?_; rintro e w7 ⟨v7, x7, rfl, o7, r7, l7⟩; have O7 := hid o7; have R7 := hid r7; have L7 := hid l7; have HV7 := hid (HV6.out.low l7); have TW7 := hid (TW6.out.low l7); have O67 := hid (ownt_low O6.out l7); have R67 := hid (R6.out.low l7); clear l7 o7 r7)
          obtain ⟨a7, c7, rfl⟩ := ownt_form O7.out
          rw [← HN.out] at O7 ⊢
          have hz6 := L6.out.size
          have hz7 := L7.out.size
          -- the first two looks
          go_wp2_with fail
          refine (A3.out _ _ _ O67.out.lst TW7.out).mono ?_
          rintro e w8 ⟨rfl, l8⟩
          have L8 := hid l8
          have TW8 := hid (TW7.out.low l8)
          have O8 := hid (ownt_low O7.out l8)
          have RA8 := hid (R67.out.low l8)
          have RB8 := hid (R7.out.low l8)
          clear l8
          go_wp2_with fail
          refine (A3.out _ _ _ O8.out.lst TW8.out).mono ?_
          rintro e w9 ⟨rfl, l9⟩
          have L9 := hid l9
          have RA9 := hid (RA8.out.low l9)
          have RB9 := hid (RB8.out.low l9)
          have TW9 := hid (TW8.out.low l9)
          clear l9
          go_wp2_with fail
          refine (IF.out _ _ _ RA9.out).mono ?_
          rintro e w10 ⟨rfl, hww⟩
          have hw2 := hww.symm
          clear hww
          subst hw2
          go_wp2_with fail
          refine (IF.out _ _ _ RB9.out).mono ?_
          rintro e w10 ⟨rfl, hww⟩
          have hw2 := hww.symm
          clear hww
          subst hw2
          go_upto_region 24 with fail
          have hz8 := L8.out.size
          have hz9 := L9.out.size
          have B9 := hid (show Below w2.heap.size w2 w9 from (((L5.out.trans (L6.out.mono hz5)).trans (L7.out.mono (by omega))).trans (L8.out.mono (by omega))).trans (L9.out.mono (by omega)))
          clear O6 O67 O7 O8 RA8 RB8 R67 R6 R7 TW5 TW6 TW7 TW8 HV5 HV6 HV7
          cases fo with
          | none =>
            have hc0 : c0 = 0 := HC0.out
            subst hc0
            have HV9 := hid (HV.out.low (L2.out.trans (B9.out.mono L2.out.size)))
            go_upto_region 31 with (go_at_call 6; refine (A1.out _ HV9.out).mono ?_; rintro e w11 ⟨v11, x11, rfl, o11, r11, l11⟩; have O11 := hid o11; have R11 := hid r11; have L11 := hid l11; have TW11 := hid (TW9.out.low l11); have RB11 := hid (RB9.out.low l11); clear l11 o11 r11)
            obtain ⟨a11, c11, rfl⟩ := ownt_form O11.out
            rw [← HN.out] at O11 ⊢
            have BE := B9
            go_wp2_with fail
            refine (A3.out _ _ _ O11.out.lst TW11.out).mono ?_
            rintro e w12 ⟨rfl, l12⟩
            have L12 := hid l12
            have RC12 := hid (R11.out.low l12)
            have RB12 := hid (RB11.out.low l12)
            clear l12
            go_wp2_with fail
            refine (IF.out _ _ _ RC12.out).mono ?_
            rintro e w13 ⟨rfl, hww⟩
            have hw2 := hww.symm
            clear hww
            subst hw2
            go_wp2_with fail
            refine (IF.out _ _ _ RB12.out).mono ?_
            rintro e w13 ⟨rfl, hww⟩
            have hw2 := hww.symm
            clear hww
            subst hw2
            go_wp2_with fail
            go_ret
            exact ⟨rfl, (L2.out.trans (BE.out.mono L2.out.size)).trans ((L11.out.trans (L12.out.mono L11.out.size)).mono (by have := BE.out.size; have := L2.out.size; omega))⟩
          | some pr =>
            obtain ⟨c, a⟩ := pr
            have hc0 : c0 = c := HC0.out
            have hcc := HCODE.out c a rfl
            subst hc0
            obtain ⟨N6, e6, f6, hN6⟩ := RA9.out
            obtain ⟨N7, e7, f7, hN7⟩ := RB9.out
            unfold fv at e6 e7
            subst e6 e7
            have hne : ((c0 : Int) == 0) = false := by simp; omega
            have RAS := run_assert
            have F7 := hid f7
            have q0 := f6.cells.1
            have q1 := f6.cells.2.1
            have hfz : w9.frozen? ⟨N6, 0, none⟩ = false ∧ w9.frozen? ⟨N6, 1, none⟩ = false := by
              unfold Flt at f6
              constructor <;> simp [World.frozen?, f6]
            have fz0 := hfz.1
            have fz1 := hfz.2
            have h67 : N6 < w6.heap.size := h6lt.out N6 rfl ⟨_, _, rfl⟩
            clear hfz f6 f7 RA9 RB9
            go_upto_region 30 with fail
            have hN62 : w2.heap.size ≤ N6 := by omega
            have hN67 : N7 ≠ N6 := by omega
            have BE := hid (B9.out.trans (below_set (below_set (Below.refl w2.heap.size w9) N6 1 (.int .i64 (-7)) hN62) N6 0 (.int .i64 7) hN62))
            have FV := hid (show Flt ((w9.setCell ⟨N6, 1, none⟩ (.int .i64 (-7))).setCell ⟨N6, 0, none⟩ (.int .i64 7)) N7 c0 a from (block_set _ _ _ _ _ hN67).trans ((block_set _ _ _ _ _ hN67).trans F7.out))
            have TWV := hid (HW2.out.low BE.out)
            have hzV : w2.heap.size ≤ ((w9.setCell ⟨N6, 1, none⟩ (.int .i64 (-7))).setCell ⟨N6, 0, none⟩ (.int .i64 7)).heap.size := BE.out.size
            generalize (w9.setCell ⟨N6, 1, none⟩ (.int .i64 (-7))).setCell ⟨N6, 0, none⟩ (.int .i64 7) = V at *
            clear q0 q1 fz0 fz1 F7 B9 TW9
            have HV9 := hid (HV.out.low (L2.out.trans (BE.out.mono L2.out.size)))
            go_upto_region 31 with (go_at_call 6; refine (A1.out _ HV9.out).mono ?_; rintro e w11 ⟨v11, x11, rfl, o11, r11, l11⟩; have O11 := hid o11; have R11 := hid r11; have L11 := hid l11; have TW11 := hid (TWV.out.low l11); have RB11 := hid (show ER (some (c0, a)) w11 (fv N7) 0 from ⟨N7, rfl, FV.out.low l11 FV.out.lt, Nat.zero_le _⟩); clear l11 o11 r11)
            obtain ⟨a11, c11, rfl⟩ := ownt_form O11.out
            rw [← HN.out] at O11 ⊢
            unfold fv at RB11
            go_wp2_with fail
            refine (A3.out _ _ _ O11.out.lst TW11.out).mono ?_
            rintro e w12 ⟨rfl, l12⟩
            have L12 := hid l12
            have RC12 := hid (R11.out.low l12)
            have RB12 := hid (RB11.out.low l12)
            clear l12
            go_wp2_with fail
            refine (IF.out _ _ _ RC12.out).mono ?_
            rintro e w13 ⟨rfl, hww⟩
            have hw2 := hww.symm
            clear hww
            subst hw2
            go_wp2_with fail
            refine (IF.out _ _ _ RB12.out).mono ?_
            rintro e w13 ⟨rfl, hww⟩
            have hw2 := hww.symm
            clear hww
            subst hw2
            go_wp2_with fail
            go_ret
            exact ⟨rfl, (L2.out.trans (BE.out.mono L2.out.size)).trans ((L11.out.trans (L12.out.mono L11.out.size)).mono (by have := BE.out.size; have := L2.out.size; omega))⟩
end Go.Proofs.YtbplmglddinkdabDoor.L
