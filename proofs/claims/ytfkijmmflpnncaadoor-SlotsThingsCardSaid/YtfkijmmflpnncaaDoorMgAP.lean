import Derived.Test.YtfkijmmflpnncaaDoorFre
import Derived.Test.YtfkijmmflpnncaaDoorTakS
import Derived.Test.YtfkijmmflpnncaaDoorTak
import Derived.Test.YtfkijmmflpnncaaDoorMgAC
namespace Go.Proofs.YtfkijmmflpnncaaDoor.LS
open L
open Go.RowKit Bs Go.Maps
set_option linter.unusedVariables false
set_option maxHeartbeats 4000000 in
set_option maxRecDepth 100000 in
theorem free_any (p m mb i : Nat) (rs ks : Value) (D : DataW Unit) (l : List Rw) (ws : List Nat) (w : World) (h1 : Tm w p m mb rs ks D l ws) (wd : Wd ws) (hi : i < l.length) (hj : i / 64 < ws.length) (hl : l.length ≤ 65536) (hwl : ws.length ≤ 1024) :
    Calls Tryd.prog 39 #[.pointer (some ⟨p, 0, none⟩), .int .i64 (i : Int)] w fun e w' => ∃ rs', e = .returned (.tuple #[]) ∧ Tm w' p m mb rs' ks D (trim (l.set i (ByteArray.empty, ByteArray.empty))) (delW ws i) ∧
      Bx (fp p mb rs ks) w.heap.size w w' ∧ (∀ k ∈ fp p mb rs' ks, k ∈ fp p mb rs ks) := by
  obtain ⟨g, kc, rfl⟩ := own_some h1.hk (by omega)
  obtain ⟨rg, rc, rfl⟩ := own_some h1.hr (by omega)
  obtain ⟨N, hN⟩ : ∃ N, N = l.length := ⟨_, rfl⟩
  obtain ⟨L, hL⟩ : ∃ L, L = ws.length := ⟨_, rfl⟩
  rw [← hN] at h1 hi hl ⊢
  rw [← hL] at h1 hj hwl ⊢
  have c3 := h1.c3
  have hx := h1.word (j := i / 64) (by rw [← hL]; exact hj)
  have fx := h1.wfz (i / 64)
  have hxb := wd.getD (i / 64)
  have ean := hid (not_num3 (ws.getD (i / 64) 0) (i % 64) hxb (Nat.mod_lt _ (by decide)))
  have T1 := hid (h1.setK (i / 64) (anot (ws.getD (i / 64) 0) (2 ^ (i % 64))))
  have DW : Hid (ws.set (i / 64) (anot (ws.getD (i / 64) 0) (2 ^ (i % 64))) = delW ws i) := rfl
  have pF : p ∈ fp p mb (.slice (some ⟨rg, 0, none⟩) N rc) (.slice (some ⟨g, 0, none⟩) L kc) := fp_p
  have rF : rg ∈ fp p mb (.slice (some ⟨rg, 0, none⟩) N rc) (.slice (some ⟨g, 0, none⟩) L kc) := fp_r rfl
  have gF : g ∈ fp p mb (.slice (some ⟨rg, 0, none⟩) N rc) (.slice (some ⟨g, 0, none⟩) L kc) := fp_k rfl
  have fF : Hid (∀ n', ∀ k ∈ fp p mb (.slice (some ⟨rg, 0, none⟩) n' rc) (.slice (some ⟨g, 0, none⟩) L kc), k ∈ fp p mb (.slice (some ⟨rg, 0, none⟩) N rc) (.slice (some ⟨g, 0, none⟩) L kc)) := hid (fun n' => fp_all fp_p fp_m (fun k hk => fp_r hk) (fun k hk => fp_k hk))
  generalize hF : fp p mb (.slice (some ⟨rg, 0, none⟩) N rc) (.slice (some ⟨g, 0, none⟩) L kc) = F at *
  have HN := hid hN
  have hi6 : i ≤ 65536 := by omega
  have hjj : ((i / 64 : Nat) : Int) < (L : Int) := by omega
  generalize ws.getD (i / 64) 0 = x at *
  have e1 := idx_div i hi6
  have e1' : wrap64 ((i : Int) / 64) = ((i / 64 : Nat) : Int) := by rw [wrap64_eq]; exact e1
  have e2 := idx_mod i
  generalize i / 64 = j at *
  generalize hq : i % 64 = q at *
  clear hq hj hN hL hF h1 hxb wd
  generalize hQ : (fun (e : Ending) (w' : World) => ∃ rs', e = .returned (.tuple #[]) ∧ Tm w' p m mb rs' (.slice (some ⟨g, 0, none⟩) L kc) D (trim (l.set i (ByteArray.empty, ByteArray.empty))) (delW ws i) ∧ Bx F w.heap.size w w' ∧ (∀ k ∈ fp p mb rs' (.slice (some ⟨g, 0, none⟩) L kc), k ∈ F)) = Q
  have HQ := hid hQ
  clear hQ
  go_enter Tryd.func39, Tryd.ntmps39
  go_wp2_with fail
  go_region
  rw [ean.out]
  have T2 := hid (show Tm (w.setCell ⟨g, j, none⟩ (.int .u64 ((anot x (2 ^ q) : Nat) : Int))).drew p m mb (.slice (some ⟨rg, 0, none⟩) N rc) (.slice (some ⟨g, 0, none⟩) L kc) D l (delW ws i) from by rw [← DW.out]; exact T1.out.frame (fun _ _ => rfl))
  have B2 := hid (((Bx.refl F w.heap.size w).setCell (p := ⟨g, j, none⟩) (Or.inl gF) (.int .u64 ((anot x (2 ^ q) : Nat) : Int))).drew)
  generalize (w.setCell ⟨g, j, none⟩ (.int .u64 ((anot x (2 ^ q) : Nat) : Int))).drew = w2 at T2 B2 ⊢
  clear T1 DW ean e1 e1' e2 hx fx hjj c3
  have hil : i < l.length := by rw [← HN.out]; exact hi
  obtain ⟨_, _, er, _, r0, r1⟩ := T2.out.rows hil
  injection er with er lq er2
  injection er with er
  injection er with er lq2 lq3
  subst er er2
  clear lq lq2 lq3
  have z0 := T2.out.rfz (i * 2)
  have z1 := T2.out.rfz (i * 2 + 1)
  have c2 := T2.out.c2
  have hpr : p ≠ rg := fun e => (T2.out.ap.2.1 rg rfl).1 e.symm
  have c2' : (w2.setCell ⟨rg, i * 2, none⟩ (.string ⟨#[]⟩)).cell? ⟨p, 2, none⟩ = some (.slice (some ⟨rg, 0, none⟩) N rc) := by
    rw [World.cell?_of_block (w := w2) (a := ⟨p, 2, none⟩) (set_other w2 _ hpr)]; exact c2
  have T3 := hid (show Tm ((w2.setCell ⟨rg, i * 2, none⟩ (.string ⟨#[]⟩)).setCell ⟨rg, i * 2 + 1, none⟩ (.string ⟨#[]⟩)) p m mb (.slice (some ⟨rg, 0, none⟩) N rc) (.slice (some ⟨g, 0, none⟩) L kc) D (l.set i (ByteArray.empty, ByteArray.empty)) (delW ws i) from T2.out.setR i (ByteArray.empty, ByteArray.empty) hil)
  have B3 := hid (show Bx F w.heap.size w ((w2.setCell ⟨rg, i * 2, none⟩ (.string ⟨#[]⟩)).setCell ⟨rg, i * 2 + 1, none⟩ (.string ⟨#[]⟩)) from (B2.out.setCell (p := ⟨rg, i * 2, none⟩) (Or.inl rF) (.string ByteArray.empty)).setCell (p := ⟨rg, i * 2 + 1, none⟩) (Or.inl rF) (.string ⟨#[]⟩))
  have HIL := hid hil
  have HPR := hid hpr
  clear T2 B2 hil hpr
  go_wp2_with fail
  generalize (w2.setCell ⟨rg, i * 2, none⟩ (.string ⟨#[]⟩)).setCell ⟨rg, i * 2 + 1, none⟩ (.string ⟨#[]⟩) = w3 at T3 B3 ⊢
  clear c2' c2 r0 r1 z0 z1
  have HL1 : Hid ((l.set i (ByteArray.empty, ByteArray.empty)).length = N) := hid (by rw [List.length_set]; exact HN.out.symm)
  generalize l.set i (ByteArray.empty, ByteArray.empty) = l1 at *
  have c2 := T3.out.c2
  have z2 := T3.out.fz 2
  have hrc : N ≤ rc := by
    rcases own_form T3.out.hr with ⟨e, _⟩ | ⟨g', c', e, h, _⟩
    · cases e
    · injection e with _ e2 e3
      rw [HL1.out] at h
      omega
  have hws3 : w.heap.size ≤ w3.heap.size := B3.out.size
  go_loopw [4] (fun v wr => ∃ k : Nat, k ≤ N ∧ v = .int .i64 k ∧ Hid (wr = w3) ∧ Hid (∀ t, k ≤ t → isT l1 t = false)) (fun v _ => (intOf v).toNat)
  case atStart => exact ⟨N, Nat.le_refl _, rfl, hid rfl, hid (fun t ht => isT_out (by rw [HL1.out]; exact ht))⟩
  case round =>
    obtain ⟨k, hk, rfl, HB, HA⟩ := hrel
    have hwr := HB.out
    subst hwr
    by_cases h0 : k = 0
    · subst h0
      have hn0 : ¬ ((0 : Int) < 0) := by omega
      go_wp2_with fail
      refine bodyPost_end (v := .tuple #[]) (by simp [results, Tryd.results39]) rfl ?_
      rw [← HQ.out]
      have e : tl l1 = 0 := tl_one l1 0 (Nat.zero_le _) HA.out (Or.inl rfl)
      have T4 := T3.out.cutR 0 (Nat.zero_le _)
      refine ⟨.slice (some ⟨rg, 0, none⟩) 0 rc, rfl, ?_, (B3.out.setCell (p := ⟨p, 2, none⟩) (Or.inl pF) _), fF.out 0⟩
      unfold trim
      rw [e]
      exact T4
    · obtain ⟨t, rfl⟩ : ∃ t, k = t + 1 := ⟨k - 1, by omega⟩
      have htl : t < l1.length := by rw [HL1.out]; omega
      obtain ⟨_, _, er, _, r0, r1⟩ := T3.out.rows htl
      injection er with er lq er2
      injection er with er
      injection er with er lq2 lq3
      subst er er2
      clear lq lq2 lq3
      have hsub : ((t + 1 : Nat) : Int) - 1 = (t : Int) := by omega
      cases hT : isT l1 t
      · have en : nm l1 t = ⟨#[]⟩ := isT_no.1 hT
        rw [en] at r0
        have HT := hid hT
        clear hT en r1
        go_wp2_with fail
        refine ⟨⟨t, by omega, rfl, hid trivial, hid (fun u hu => ?_)⟩, by simp [intOf]⟩
        by_cases e : u = t
        · subst e; exact HT.out
        · exact HA.out u (by omega)
      · have hsz := isT_iff.1 hT
        have en : ((nm l1 t).toList == []) = false := by rw [nil_size]; simpa using hsz
        have HT := hid hT
        generalize nm l1 t = s at *
        clear hT hsz r1
        go_wp2_with fail
        refine bodyPost_end (v := .tuple #[]) (by simp [results, Tryd.results39]) rfl ?_
        rw [← HQ.out]
        have e : tl l1 = t + 1 := tl_one l1 (t + 1) (by rw [HL1.out]; exact hk) HA.out (Or.inr HT.out)
        have T4 := T3.out.cutR (t + 1) (by rw [HL1.out]; exact hk)
        refine ⟨.slice (some ⟨rg, 0, none⟩) (t + 1) rc, rfl, ?_, (B3.out.setCell (p := ⟨p, 2, none⟩) (Or.inl pF) _), fF.out (t + 1)⟩
        unfold trim
        rw [e]
        exact T4
end Go.Proofs.YtfkijmmflpnncaaDoor.LS
namespace Go.Proofs.YtfkijmmflpnncaaDoor.LS
open L
open Go.RowKit Bs Go.Maps
set_option linter.unusedVariables false
theorem Tb.drewN {w : World} {p m : Nat} {l : List Rw} {F : List Nat} (h : Tb w p m l F) (n : Nat) : Tb (w.drewN n) p m l F := h.frame (fun _ _ => rfl)
theorem withR_set (l : List Rw) (x : Rw) : (withR l).set (low l) x = wrt l (low l) x := by
  unfold withR wrt
  have := low_le l
  split
  · rfl
  · have e : low l = l.length := by omega
    rw [e, List.set_append_right _ _ (Nat.le_refl _)]
    simp
theorem withR_len (l : List Rw) : low l < (withR l).length := by
  unfold withR
  have := low_le l
  split
  · assumption
  · simp; omega
theorem withR_le {m : Nat} {l : List Rw} (h : OkS m l) (hc : cnt l < m) : (withR l).length ≤ 65536 := by
  have := h.mm
  have := h.le
  have := low_cnt l
  have := low_le l
  unfold withR
  split
  · omega
  · simp; omega
set_option maxHeartbeats 1000000 in
theorem put_nil (s : ByteArray) (v : ByteArray) (w : World) : Calls Tryd.prog 10 #[.pointer none, .string s, .string v] w fun e w' => e = .returned (.tuple #[.int .i64 0, .int .i64 1]) ∧ w' = w := by
  have C := hid (check_nil s w)
  go_enter Tryd.func10, Tryd.ntmps10
  go_wp2_with (go_at_call 32; refine C.out.mono ?_; rintro e w2 ⟨rfl, hww⟩; subst hww)
  go_ret2
  exact ⟨rfl, rfl⟩
set_option maxHeartbeats 1000000 in
theorem put_bad (p : Nat) (s : ByteArray) (v : ByteArray) (w : World) (hs : s.size ≤ maxLen) (h : badB s = true) : Calls Tryd.prog 10 #[.pointer (some ⟨p, 0, none⟩), .string s, .string v] w fun e w' => e = .returned (.tuple #[.int .i64 0, .int .i64 51]) ∧ w' = w := by
  have C := hid (check_bad p s w hs h)
  clear h
  go_enter Tryd.func10, Tryd.ntmps10
  go_wp2_with (go_at_call 32; refine C.out.mono ?_; rintro e w2 ⟨rfl, hww⟩; subst hww)
  go_ret2
  exact ⟨rfl, rfl⟩
set_option maxHeartbeats 1000000 in
theorem put_there (p m i : Nat) (l : List Rw) (F : List Nat) (s : ByteArray) (v : ByteArray) (w : World) (h : Tb w p m l F) (hb : badB s = false) (hi : isT l i = true) (hs : nm l i = s) : Calls Tryd.prog 10 #[.pointer (some ⟨p, 0, none⟩), .string s, .string v] w fun e w' => e = .returned (.tuple #[.int .i64 0, .int .i64 52]) ∧ w' = w := by
  have C := hid (check_ok p s w hb)
  obtain ⟨mb, rs, ks, D, ws, h1, h2, rfl⟩ := h
  have c1 := h1.c1
  have HM := hid h1.hm
  obtain ⟨hh, hat⟩ := h2.mo.yes hi
  rw [hs] at hh hat
  have HAT := hid hat
  have HK := hid (keyS_of (maxLen_of hb))
  clear h1 h2 hat hb hi hs
  go_enter Tryd.func10, Tryd.ntmps10
  go_wp2_with (first
    | (go_at_call 32; refine C.out.mono ?_; rintro e w2 ⟨rfl, hww⟩; subst hww)
    | (at_lookup; refine wpList_lookup_own_ok_int _ rfl _ _ 68 rfl 9 3 .i64 keyS Tryd.underlying68 Tryd.underlying3 (zeroI _) mb 65536 D rfl HM.out _ _ rfl HK.out ?_; intro c hat hwc; obtain rfl := HAT.out c hat; clear hat hwc))
  go_ret2
  exact ⟨rfl, rfl⟩
set_option maxHeartbeats 1000000 in
theorem put_full (p m : Nat) (l : List Rw) (F : List Nat) (s : ByteArray) (v : ByteArray) (w : World) (h : Tb w p m l F) (hb : badB s = false) (hn : NoN l s) (hc : cnt l = m) : Calls Tryd.prog 10 #[.pointer (some ⟨p, 0, none⟩), .string s, .string v] w fun e w' => e = .returned (.tuple #[.int .i64 0, .int .i64 53]) ∧ ∃ n, w' = w.drewN n := by
  have C := hid (check_ok p s w hb)
  have hmm := h.ok.mm
  obtain ⟨mb, rs, ks, D, ws, h1, h2, rfl⟩ := h
  have c1 := h1.c1
  have c0 := h1.c0
  have HM := hid h1.hm
  obtain ⟨hh, hat⟩ := h2.mo.no hn
  have HAT := hid hat
  have HK := hid (keyS_of (maxLen_of hb))
  have hlen := h1.hm.drew.len (t := 68) (e := 3) Tryd.underlying68 3
  rw [h2.mo.sz, hc] at hlen
  clear h1 h2 hat hb hn
  go_enter Tryd.func10, Tryd.ntmps10
  go_wp2_with (first
    | (go_at_call 32; refine C.out.mono ?_; rintro e w2 ⟨rfl, hww⟩; subst hww)
    | (at_lookup; refine wpList_lookup_own_ok_int _ rfl _ _ 68 rfl 9 3 .i64 keyS Tryd.underlying68 Tryd.underlying3 (zeroI _) mb 65536 D rfl HM.out _ _ rfl HK.out ?_; intro c hat hwc; obtain rfl := HAT.out c hat; clear hat hwc))
  go_region
  go_wp2_with fail
  go_ret2
  exact ⟨rfl, _, rfl⟩
end Go.Proofs.YtfkijmmflpnncaaDoor.LS
namespace Go.Proofs.YtfkijmmflpnncaaDoor.LS
open L
open Go.RowKit Bs Go.Maps
set_option linter.unusedVariables false
set_option maxHeartbeats 4000000 in
set_option maxRecDepth 100000 in
theorem put_ok (p m : Nat) (l : List Rw) (F : List Nat) (s : ByteArray) (v : ByteArray) (w : World) (h : Tb w p m l F) (ht : Tab w) (hb : badB s = false) (hn : NoN l s) (hc : cnt l < m) : Calls Tryd.prog 10 #[.pointer (some ⟨p, 0, none⟩), .string s, .string v] w fun e w' => ∃ F', e = .returned (.tuple #[.int .i64 (low l : Int), .int .i64 0]) ∧ Tb w' p m (wrt l (low l) (s, v)) F' ∧ Mv F F' w w' := by
  have C := hid (check_ok p s w hb)
  have hmm := h.ok.mm
  obtain ⟨mb, rs, ks, D, ws, h1, h2, rfl⟩ := h
  have c1 := h1.c1
  have c0 := h1.c0
  have HM := hid h1.hm
  obtain ⟨hh, hat⟩ := h2.mo.no hn
  have HAT := hid hat
  have hb0 : s.size ≠ 0 ∧ s.size ≤ 63 := by
    unfold badB at hb
    rw [Bool.or_eq_false_iff, decide_eq_false_iff_not, decide_eq_false_iff_not] at hb
    exact ⟨hb.1, by omega⟩
  have HB0 := hid hb0
  have HK := hid (keyS_of (maxLen_of hb))
  have hlen := h1.hm.drew.len (t := 68) (e := 3) Tryd.underlying68 3
  rw [h2.mo.sz] at hlen
  have hcm : ((cnt l : Int) == (m : Int)) = false := by rw [beq_eq_false_iff_ne]; omega
  have TK := hid (take_any p m mb rs ks D l ws w.drew (h1.frame (fun _ _ => rfl)) h2 ⟨ht.1, ht.2⟩ hc)
  have hlow := low_cnt l
  have hwl := withR_len l
  have hwle := withR_le h2.ok hc
  have H2 := hid h2
  have HN := hid hn
  have WS := hid (withR_set l (s, v))
  have MP := hid (fun (hD : Tidy D) => h2.mo.put (i := low l) (x := (s, v)) hD (low_le l) (low_free l) hb0.1 hn)
  have OK := hid (h2.ok.put (v := v) hb0.1 hb0.2 hn hc)
  have NW := hid (fun j => nm_wrt l (low l) (s, v) (low_le l) j)
  have MF := hid (show mb ∈ fp p mb rs ks from fp_m)
  have HC := hid hc
  generalize hcl : cnt l = c at *
  generalize hr : low l = r at *
  generalize hl2 : withR l = l2 at *
  have hsz : w.drew.heap.size = w.heap.size := rfl
  clear hl2 hat hb hn hb0 h1 h2 ht
  generalize hQ : (fun (e : Ending) (w' : World) => ∃ F', e = .returned (.tuple #[.int .i64 (r : Int), .int .i64 0]) ∧ Tb w' p m (wrt l r (s, v)) F' ∧ Mv (fp p mb rs ks) F' w w') = Q
  have HQ := hid hQ
  have HR := hid hr
  have HCL := hid hcl
  clear hQ hr hcl
  go_enter Tryd.func10, Tryd.ntmps10
  go_wp2_with (first
    | (go_at_call 32; refine C.out.mono ?_; rintro e w2 ⟨rfl, hww⟩; replace hww := hww.symm; subst hww)
    | (at_lookup; refine wpList_lookup_own_ok_int _ rfl _ _ 68 rfl 9 3 .i64 keyS Tryd.underlying68 Tryd.underlying3 (zeroI _) mb 65536 D rfl HM.out _ _ rfl HK.out ?_; intro c hat hwc; obtain rfl := HAT.out c hat; clear hat hwc))
  go_region
  clear hlen HAT C hh c0 c1 HM
  go_wp2_with (first
    | (go_at_call 33; refine TK.out.mono ?_
       rintro e w2 ⟨rs2, ks2, ws2, rfl, T2, W2, B2, F2⟩
       obtain ⟨g2, k2, e2⟩ := own_some T2.hr (by omega)
       subst e2
       have c1 := T2.c1
       have HT2 := hid T2
       have HW2 := hid W2
       have HB2 := hid B2
       have HF2 := hid F2
       clear T2 W2 B2 F2)
    | (at_mapUpdate; refine wpList_mapUpdate_own _ rfl _ _ _ 68 rfl 9 3 keyS Tryd.underlying68 _ mb 65536 _ rfl HT2.out.hm (by unfold maxLen; omega) _ _ _ rfl rfl HK.out _ [] (plainElem_int Tryd.underlying3 (WalkArith.wf_i64 (by omega))) ?_
       intro w3 hown3 hgrow3
       have td := HT2.out.hm.tidy keyS
       have T3 := HT2.out.map hgrow3 ((owns_tight hown3).mono (by rw [(MP.out td).sz]; exact Nat.le_trans OK.out.ct hmm))
       have HM3 := hid (MP.out td)
       have HB3 := hid (HB2.out.grown hgrow3 HB2.out.size (fun k hk => by injection hk with hk; subst hk; exact Or.inl MF.out))
       obtain ⟨_, _, er, _, r0, r1⟩ := T3.rows hwl
       injection er with er lq er2
       injection er with er
       injection er with er lq2 lq3
       subst er er2
       clear lq lq2 lq3
       have z0 := T3.rfz (r * 2)
       have z1 := T3.rfz (r * 2 + 1)
       have c2 := T3.c2
       have T4 := hid (T3.setR r (s, v) hwl)
       clear T3 td hgrow3 hown3 c1))
  rw [← HQ.out]
  rw [WS.out] at T4
  refine ⟨fp p mb (.slice (some ⟨g2, 0, none⟩) l2.length k2) ks2, rfl, ⟨mb, _, ks2, _, ws2, T4.out, ⟨OK.out, HM3.out, HW2.out.1, fun i => ?_, HW2.out.2.1⟩, rfl⟩, ⟨?_, HF2.out⟩⟩
  · rw [HW2.out.2.2]
    unfold isT
    rw [NW.out]
    by_cases e : i = r
    · have := HB0.out.1
      simp [e, this]
    · simp [e]
  · have B0 : Bx (fp p mb rs ks) w.heap.size w w.drew := (Bx.refl _ _ _).drew
    have B4 := (B0.trans HB3.out).setCell (p := ⟨g2, r * 2, none⟩) (HF2.out g2 (fp_r rfl)) (.string s)
    exact B4.setCell (p := ⟨g2, r * 2 + 1, none⟩) (HF2.out g2 (fp_r rfl)) (.string v)
end Go.Proofs.YtfkijmmflpnncaaDoor.LS
