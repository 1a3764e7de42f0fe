import Derived.Test.YtdhjoimiejdgbabDoorBl1
import Derived.Deep.Cut
namespace Go.Proofs.YtdhjoimiejdgbabDoor.L
open Go.RowKit Bs Go.Maps
set_option linter.unusedVariables false
/-- All names of the table are such. -/
def Sub (P : ByteArray → Prop) (l : List Rw) : Prop := ∀ s, vw l s ≠ none → P s
theorem Sub.put {P : ByteArray → Prop} {l l' : List Rw} {s : ByteArray} {v : Int} (h : Sub P l) (hv : ∀ t, vw l' t = if t = s ∧ badB s = false ∧ vw l s = none then some v else vw l t) (hs : badB s = false → P s) : Sub P l' := fun t ht => by
  rw [hv] at ht
  by_cases c : t = s ∧ badB s = false ∧ vw l s = none
  · rw [c.1]; exact hs c.2.1
  · rw [if_neg c] at ht; exact h t ht
theorem Sub.mono {P P' : ByteArray → Prop} {l : List Rw} (h : Sub P l) (hp : ∀ s, P s → P' s) : Sub P' l := fun s hs => hp s (h s hs)
theorem Sub.nil (P : ByteArray → Prop) : Sub P [] := fun s hs => absurd (by unfold vw; split <;> rfl) hs
theorem Sub.cnt {m : Nat} {l : List Rw} {ns : List ByteArray} (h : Sub (fun s => s ∈ ns) l) (ok : OkS m l) : cnt l ≤ ns.length := by
  rw [← nmL_len]
  exact List.Nodup.length_le_of_subset (nmL_nodup ok) (fun s hs => h s ((nmL_mem ok s).1 hs))
/-- The first table, k names being put. -/
structure IA (ns : List ByteArray) (k : Nat) (l : List Rw) : Prop where
  mem : Sub (fun s => s ∈ ns ∧ badB s = false) l
  val : ∀ j, j < k → badB (nmS ns j) = false → ∃ v, vw l (nmS ns j) = some v ∧ v ≤ (j : Int)
  bd : ∀ s v, vw l s = some v → v < (k : Int)
  ct : cnt l ≤ k
theorem IA.nil (ns : List ByteArray) : IA ns 0 [] := ⟨Sub.nil _, fun j hj => by omega, fun s v h => absurd h (by unfold vw; split <;> simp), Nat.le_refl _⟩
theorem IA.step {ns : List ByteArray} {k : Nat} {l l' : List Rw} (h : IA ns k l) (hk : k < ns.length) (hv : ∀ t, vw l' t = if t = nmS ns k ∧ badB (nmS ns k) = false ∧ vw l (nmS ns k) = none then some (k : Int) else vw l t) (hc : cnt l' ≤ cnt l + 1) : IA ns (k + 1) l' := by
  refine ⟨h.mem.put hv (fun hb => ⟨nmS_mem hk, hb⟩), fun j hj hb => ?_, fun s v hs => ?_, by have := h.ct; omega⟩
  · rw [hv]
    by_cases c : nmS ns j = nmS ns k ∧ badB (nmS ns k) = false ∧ vw l (nmS ns k) = none
    · rw [if_pos c]
      by_cases e : j = k
      · exact ⟨_, rfl, by omega⟩
      · obtain ⟨v, h1, _⟩ := h.val j (by omega) hb
        rw [c.1, c.2.2] at h1; cases h1
    · rw [if_neg c]
      by_cases e : j = k
      · subst e
        cases hw : vw l (nmS ns j) with
        | none => exact absurd ⟨rfl, hb, hw⟩ c
        | some v => exact ⟨v, rfl, by have := h.bd _ _ hw; omega⟩
      · exact h.val j (by omega) hb
  · rw [hv] at hs
    by_cases c : s = nmS ns k ∧ badB (nmS ns k) = false ∧ vw l (nmS ns k) = none
    · rw [if_pos c] at hs; injection hs with hs; omega
    · rw [if_neg c] at hs
      have := h.bd s v hs; omega
/-- The second table, so many names being set. -/
structure IB (ns : List ByteArray) (k : Nat) (la lb : List Rw) : Prop where
  mem : Sub (fun s => s ∈ ns ∧ badB s = false) lb
  val : ∀ j, j < k → badB (nmS ns j) = false → vw lb (nmS ns j) = vw la (nmS ns j)
theorem IB.step {ns : List ByteArray} {r : Nat} {la lb l5 : List Rw} {v : Int} (h : IB ns r la lb) (hm : nmS ns r ∈ ns) (hb : badB (nmS ns r) = false) (hv : vw la (nmS ns r) = some v) (h5 : ∀ u, vw l5 u = if u = nmS ns r then some v else vw lb u) : IB ns (r + 1) la l5 := by
  refine ⟨fun u hu => ?_, fun j hj hbj => ?_⟩
  · rw [h5] at hu
    by_cases c : u = nmS ns r
    · rw [c]; exact ⟨hm, hb⟩
    · rw [if_neg c] at hu; exact h.mem u hu
  · rw [h5]
    by_cases c : nmS ns j = nmS ns r
    · rw [if_pos c, c, hv]
    · rw [if_neg c]
      refine h.val j ?_ hbj
      have : j ≠ r := fun e => c (by rw [e])
      omega
theorem bad_one {s : ByteArray} (h : badB s = false) : (1 : Int) ≤ (s.size : Int) := by
  unfold badB at h
  rw [Bool.or_eq_false_iff, decide_eq_false_iff_not, decide_eq_false_iff_not] at h
  omega
theorem bad_two {s : ByteArray} (h : badB s = false) : (s.size : Int) ≤ 63 := by
  unfold badB at h
  rw [Bool.or_eq_false_iff, decide_eq_false_iff_not, decide_eq_false_iff_not] at h
  omega
theorem bad_three {s : ByteArray} (h : badB s = true) : s.size = 0 ∨ 63 < s.size := by
  unfold badB at h
  rw [Bool.or_eq_true, decide_eq_true_iff, decide_eq_true_iff] at h
  exact h
theorem none_of {ns : List ByteArray} {k : Nat} {la : List Rw} {s : ByteArray} {m : Nat} (h : IA ns k la) (hb : badB s = true) (ok : OkS m la) : NoN la s := fun i hi e => by
  have := vw_some ok hi
  rw [e] at this
  have h2 := (h.mem s (by rw [this]; simp)).2
  rw [hb] at h2; cases h2
theorem blind_end {ns : List ByteArray} {k : Nat} {la lb : List Rw} (A : IA ns k la) (B : IB ns k la lb) (oa : OkS 600 la) (ob : OkS 600 lb) (hk : ns.length ≤ k) :
    srt (nmL la) = srt (nmL lb) ∧ cnt la = cnt lb ∧ (srt (nmL la)).length = cnt la ∧ ∀ s ∈ srt (nmL la), ∃ ia ib v, isT la ia = true ∧ nm la ia = s ∧ vlu la ia = v ∧ isT lb ib = true ∧ nm lb ib = s ∧ vlu lb ib = v := by
  have eq : ∀ s, vw la s ≠ none → vw lb s = vw la s := fun s hs => by
    obtain ⟨h1, h2⟩ := A.mem s hs
    obtain ⟨j, hj, rfl⟩ := mem_nmS h1
    exact B.val j (by omega) h2
  have iff : ∀ s, vw la s ≠ none ↔ vw lb s ≠ none := fun s => by
    constructor
    · intro h; rw [eq s h]; exact h
    · intro h
      obtain ⟨h1, h2⟩ := B.mem s h
      obtain ⟨j, hj, rfl⟩ := mem_nmS h1
      obtain ⟨v, hv, _⟩ := A.val j (by omega) h2
      rw [hv]; simp
  have pm := nmL_same oa ob iff
  refine ⟨srt_perm pm, ?_, by rw [srt_len, nmL_len], fun s hs => ?_⟩
  · rw [← nmL_len, ← nmL_len]; exact pm.length_eq
  · have h := (nmL_mem oa s).1 ((srt_mem _ s).1 hs)
    cases hv : vw la s with
    | none => exact absurd hv h
    | some v =>
      obtain ⟨ia, a1, a2, a3⟩ := (vw_iff oa).1 hv
      obtain ⟨ib, b1, b2, b3⟩ := (vw_iff ob).1 ((eq s h).trans hv)
      exact ⟨ia, ib, v, a1, a2, a3, b1, b2, b3⟩
theorem drop_step {ds : List ByteArray} {k : Nat} {s : ByteArray} (hk : k < ds.length) (h : s ∈ ds.drop k) (hne : s ≠ nmS ds k) : s ∈ ds.drop (k + 1) := by
  rw [List.drop_eq_getElem_cons hk] at h
  rcases List.mem_cons.1 h with e | e
  · refine absurd e ?_
    unfold nmS at hne
    rw [List.getD_eq_getElem?_getD, List.getElem?_eq_getElem hk] at hne
    exact hne
  · exact e
set_option maxHeartbeats 16000000 in
set_option maxRecDepth 100000 in
theorem blind_law (a0 a1 : Option Addr) (c0 c1 : Nat) (ns0 ds0 : List ByteArray) (w : World) (hn : ItemsS w a0 ns0) (hd : ItemsS w a1 ds0) (ln : ns0.length ≤ c0 ∧ c0 ≤ maxLen) (ld : ds0.length ≤ c1 ∧ c1 ≤ maxLen) (zn : ∀ s ∈ ns0, s.size ≤ maxLen) (zd : ∀ s ∈ ds0, s.size ≤ maxLen) (ht : Tab w) :
    Calls Tryd.prog 3 #[.slice a0 ns0.length c0, .slice a1 ds0.length c1] w fun e w' => e = .returned (.bool true) ∧ Below w.heap.size w w' := by
  have FX := hid (fixed_any w ht)
  obtain ⟨ns, hns⟩ : ∃ ns, ns = ns0.take 250 := ⟨_, rfl⟩
  obtain ⟨ds, hds⟩ : ∃ ds, ds = ds0.take 250 := ⟨_, rfl⟩
  have HNI := hid (show ItemsS w a0 ns by rw [hns]; exact hn.take 250)
  have HDI := hid (show ItemsS w a1 ds by rw [hds]; exact hd.take 250)
  have HZN := hid (show ∀ s ∈ ns, s.size ≤ maxLen from fun s hs => zn s (by rw [hns] at hs; exact List.mem_of_mem_take hs))
  have HZD := hid (show ∀ s ∈ ds, s.size ≤ maxLen from fun s hs => zd s (by rw [hds] at hs; exact List.mem_of_mem_take hs))
  have hnl : ns.length = min ns0.length 250 := by rw [hns, List.length_take]; omega
  have hdl : ds.length = min ds0.length 250 := by rw [hds, List.length_take]; omega
  clear hn hd zn zd hns hds
  generalize ns0.length = L0 at *
  generalize ds0.length = L1 at *
  obtain ⟨N, hN⟩ : ∃ N, N = ns.length := ⟨_, rfl⟩
  obtain ⟨M, hM⟩ : ∃ M, M = ds.length := ⟨_, rfl⟩
  rw [← hN] at hnl
  rw [← hM] at hdl
  have HN := hid hN
  have HM := hid hM
  have HT := hid ht
  have HNL := hid hnl
  have HDL := hid hdl
  unfold maxLen at ln ld
  clear hN hM ht hnl hdl
  generalize hQ : (fun (e : Ending) (w' : World) => e = .returned (.bool true) ∧ Below w.heap.size w w') = Q
  have HQ := hid hQ
  clear hQ
  go_enter Tryd.func3, Tryd.ntmps3
  go_upto_if 61 with (first
    | (go_at_call 5; refine FX.out.mono ?_; rintro e w1 ⟨rfl, B1⟩; replace B1 := hid B1)
    | (go_at_call 6; first
       | (refine (new_any 600 w1 (by omega)).mono ?_
          rintro e w2 ⟨pa, Fa, rfl, T2, F2, B2⟩
          have HT2 := hid T2
          have HF2 := hid F2
          have HB2 := hid (B1.out.trans (B2.mono B1.out.size))
          have HS1 := hid B1.out.size
          clear T2 F2 B2 B1)
       | (refine (new_any 600 w2 (by omega)).mono ?_
          rintro e w3 ⟨pb, Fb, rfl, T3, F3, B3⟩
          have I0 : Hid (TT w w3 pa pb [] [] Fa Fb) := hid ⟨HT2.out.low B3, T3, fun k hk c => by
            have h1 := HT2.out.lt k hk
            have h2 := F3 k c
            omega, fun k hk => Nat.le_trans HS1.out (HF2.out k hk), fun k hk => Nat.le_trans HB2.out.size (F3 k hk), HB2.out.trans (B3.mono HB2.out.size), HT.out⟩
          clear T3 F3 B3)))
  clear FX HT2 HF2 HB2 HS1
  go_cut [0] from 35 (fun s0 wx => s0 = .slice a0 N c0 ∧ wx = w3)
  case first =>
    by_cases h : 250 < L0
    · have h' : (250 : Int) < (L0 : Int) := by omega
      have e : N = 250 := by have := HNL.out; omega
      go_wp2_with fail
      go_meet
      case rel => exact ⟨by rw [e], rfl⟩
    · have h' : ¬ (250 : Int) < (L0 : Int) := by omega
      have e : N = L0 := by have := HNL.out; omega
      go_wp2_with fail
      go_meet
      case rel => exact ⟨by rw [e], rfl⟩
  case rest =>
  obtain ⟨e0, e1⟩ := hcut
  subst e0
  replace e1 := e1.symm
  subst e1
  go_upto_if 66 with fail
  go_cut [1] from 35 (fun s1 wx => s1 = .slice a1 M c1 ∧ wx = w3)
  case first =>
    by_cases h : 250 < L1
    · have h' : (250 : Int) < (L1 : Int) := by omega
      have e : M = 250 := by have := HDL.out; omega
      go_wp2_with fail
      go_meet
      case rel => exact ⟨by rw [e], rfl⟩
    · have h' : ¬ (250 : Int) < (L1 : Int) := by omega
      have e : M = L1 := by have := HDL.out; omega
      go_wp2_with fail
      go_meet
      case rel => exact ⟨by rw [e], rfl⟩
  case rest =>
  obtain ⟨e0, e1⟩ := hcut
  subst e0
  replace e1 := e1.symm
  subst e1
  have hN2 : N ≤ 250 := by have := HNL.out; omega
  have hM2 : M ≤ 250 := by have := HDL.out; omega
  clear HNL HDL ln ld
  go_wp2_with fail
  go_loopw [71] (fun i wr => ∃ k : Nat, k ≤ N ∧ i = .int .i64 k ∧ Hid (∃ la Fa Fb, TT w wr pa pb la [] Fa Fb ∧ IA ns k la)) (fun i _ => N - (intOf i).toNat)
  case atStart => exact ⟨0, Nat.zero_le _, rfl, hid ⟨_, _, _, I0.out, IA.nil ns⟩⟩
  case round =>
  clear I0
  obtain ⟨k, hk, rfl, HX⟩ := hrel
  obtain ⟨la, Fa1, Fb1, T, A⟩ := HX.out
  clear HX
  by_cases hlt : k < N
  · have hkl : k < ns.length := by rw [← HN.out]; exact hlt
    rcases HNI.out with h0 | ⟨b, off, ea, hbl, hc⟩
    · omega
    subst ea
    have x0 := hc k hkl
    rw [← T.bl.cell (p := ⟨b, off + k, none⟩) hbl] at x0
    have PV := hid (put_vw pa 600 la Fa1 (nmS ns k) (k : Int) wr T.a T.tab (HZN.out _ (nmS_mem hkl)) (by have := A.ct; omega))
    have HST := hid (fun l' => A.step (l' := l') hkl)
    have HTT := hid T
    clear hc T A HNI
    generalize nmS ns k = s at *
    go_wp2_with (go_at_call 7; refine PV.out.mono ?_
                 rintro e w4 ⟨x, y, l4, F4, rfl, T4, M4, c4, v4⟩
                 have J : Hid (∃ la Fa Fb, TT w w4 pa pb la [] Fa Fb ∧ IA ns (k + 1) la) := hid ⟨_, _, _, HTT.out.onA T4 M4, HST.out l4 v4 c4⟩
                 clear T4 M4 c4 v4)
    exact ⟨⟨k + 1, by omega, by go_num, J⟩, by simp [intOf]; omega⟩
  obtain rfl : k = N := by omega
  have TA : Hid (∃ Fa Fb, TT w wr pa pb la [] Fa Fb) := hid ⟨_, _, T⟩
  have HA := hid A
  clear T A
  go_wp2_with fail
  go_loopw [83] (fun i wr => ∃ j : Nat, j ≤ M ∧ i = .int .i64 j ∧ Hid (∃ lb Fa Fb, TT w wr pa pb la lb Fa Fb ∧ Sub (fun s => s ∈ ds) lb ∧ cnt lb ≤ j)) (fun i _ => M - (intOf i).toNat)
  case atStart => exact ⟨0, Nat.zero_le _, rfl, hid (by obtain ⟨Fa, Fb, T⟩ := TA.out; exact ⟨_, _, _, T, Sub.nil _, Nat.le_refl _⟩)⟩
  case round =>
  clear TA
  obtain ⟨j, hj, rfl, HX⟩ := hrel
  obtain ⟨lb, Fa2, Fb2, T, S, C⟩ := HX.out
  clear HX
  by_cases hlt2 : j < M
  · have hkl : j < ds.length := by rw [← HM.out]; exact hlt2
    rcases HDI.out with h0 | ⟨b, off, ea, hbl, hc⟩
    · omega
    subst ea
    have x0 := hc j hkl
    rw [← T.bl.cell (p := ⟨b, off + j, none⟩) hbl] at x0
    have PV := hid (put_vw pb 600 lb Fb2 (nmS ds j) (-1) wr T.b T.tab (HZD.out _ (nmS_mem hkl)) (by omega))
    have HME := hid (nmS_mem hkl)
    have HTT := hid T
    have HS := hid S
    clear hc T S HDI HNI HA
    generalize nmS ds j = s at *
    go_wp2_with (go_at_call 7; refine PV.out.mono ?_
                 rintro e w4 ⟨x, y, l4, F4, rfl, T4, M4, c4, v4⟩
                 have J : Hid (∃ lb Fa Fb, TT w w4 pa pb la lb Fa Fb ∧ Sub (fun s => s ∈ ds) lb ∧ cnt lb ≤ j + 1) := hid ⟨_, _, _, HTT.out.onB T4 M4, HS.out.put v4 (fun _ => HME.out), by omega⟩
                 clear T4 M4 c4 v4)
    exact ⟨⟨j + 1, by omega, by go_num, J⟩, by simp [intOf]; omega⟩
  obtain rfl : j = M := by omega
  have TB : Hid (∃ lb Fa Fb, TT w wr pa pb la lb Fa Fb ∧ Sub (fun s => s ∈ ds ∨ (s ∈ ns ∧ badB s = false)) lb ∧ cnt lb ≤ j) := hid ⟨_, _, _, T, S.mono (fun s h => Or.inl h), C⟩
  clear T S C
  go_wp2_with fail
  go_loopw [93] (fun i wr => ∃ q : Nat, q ≤ k ∧ i = .int .i64 q ∧ Hid (∃ lb Fa Fb, TT w wr pa pb la lb Fa Fb ∧ Sub (fun s => s ∈ ds ∨ (s ∈ ns ∧ badB s = false)) lb ∧ cnt lb ≤ j + q)) (fun i _ => k - (intOf i).toNat)
  case atStart => exact ⟨0, Nat.zero_le _, rfl, TB⟩
  case round =>
  clear TB
  obtain ⟨q, hq, rfl, HX⟩ := hrel
  obtain ⟨lb, Fa2, Fb2, T, S, C⟩ := HX.out
  clear HX
  by_cases hlt3 : q < k
  · obtain ⟨t, ht⟩ : ∃ t : Nat, t = k - 1 - q := ⟨_, rfl⟩
    have ht2 : (k : Int) - 1 - (q : Int) = (t : Int) := by omega
    have htk : t < k := by omega
    have hkl : t < ns.length := by rw [← HN.out]; exact htk
    rcases HNI.out with h0 | ⟨b, off, ea, hbl, hc⟩
    · omega
    subst ea
    have x0 := hc t hkl
    rw [← T.bl.cell (p := ⟨b, off + t, none⟩) hbl] at x0
    have PV := hid (put_vw pb 600 lb Fb2 (nmS ns t) (-2) wr T.b T.tab (HZN.out _ (nmS_mem hkl)) (by omega))
    have HME := hid (nmS_mem hkl)
    have HTT := hid T
    have HS := hid S
    clear hc T S HDI HNI HA ht
    generalize nmS ns t = s at *
    go_wp2_with (go_at_call 7; refine PV.out.mono ?_
                 rintro e w4 ⟨x, y, l4, F4, rfl, T4, M4, c4, v4⟩
                 have J : Hid (∃ lb Fa Fb, TT w w4 pa pb la lb Fa Fb ∧ Sub (fun s => s ∈ ds ∨ (s ∈ ns ∧ badB s = false)) lb ∧ cnt lb ≤ j + (q + 1)) := hid ⟨_, _, _, HTT.out.onB T4 M4, HS.out.put v4 (fun hb => Or.inr ⟨HME.out, hb⟩), by omega⟩
                 clear T4 M4 c4 v4)
    exact ⟨⟨q + 1, by omega, by go_num, J⟩, by simp [intOf]; omega⟩
  have TC : Hid (∃ lb Fa Fb, TT w wr pa pb la lb Fa Fb ∧ Sub (fun s => s ∈ ds.drop 0 ∨ (s ∈ ns ∧ badB s = false)) lb) := hid ⟨_, _, _, T, S⟩
  clear T S C
  obtain rfl : q = k := by omega
  go_wp2_with fail
  go_loopw [109] (fun i wr => ∃ t : Nat, t ≤ j ∧ i = .int .i64 t ∧ Hid (∃ lb Fa Fb, TT w wr pa pb la lb Fa Fb ∧ Sub (fun s => s ∈ ds.drop t ∨ (s ∈ ns ∧ badB s = false)) lb)) (fun i _ => j - (intOf i).toNat)
  case atStart => exact ⟨0, Nat.zero_le _, rfl, TC⟩
  case round =>
  clear TC
  obtain ⟨t, ht, rfl, HX⟩ := hrel
  obtain ⟨lb, Fa2, Fb2, T, S⟩ := HX.out
  clear HX
  by_cases hlt4 : t < j
  · have hkl : t < ds.length := by rw [← HM.out]; exact hlt4
    rcases HDI.out with h0 | ⟨b, off, ea, hbl, hc⟩
    · omega
    subst ea
    have x0 := hc t hkl
    rw [← T.bl.cell (p := ⟨b, off + t, none⟩) hbl] at x0
    have DV := hid (drop_vw pb 600 lb Fb2 (nmS ds t) wr T.b (HZD.out _ (nmS_mem hkl)))
    have HDS := hid (fun s => drop_step (s := s) hkl)
    have HTT := hid T
    have HS := hid S
    clear hc T S HDI HNI HA
    generalize nmS ds t = s at *
    go_wp2_with (go_at_call 8; refine DV.out.mono ?_
                 rintro e w4 ⟨x, y, l4, F4, rfl, T4, M4, c4, v4⟩
                 have J : Hid (∃ lb Fa Fb, TT w w4 pa pb la lb Fa Fb ∧ Sub (fun s => s ∈ ds.drop (t + 1) ∨ (s ∈ ns ∧ badB s = false)) lb) := hid ⟨_, _, _, HTT.out.onB T4 M4, fun u hu => by
                   rw [v4] at hu
                   by_cases c : u = s
                   · rw [if_pos c] at hu; exact absurd rfl hu
                   · rw [if_neg c] at hu
                     rcases HS.out u hu with d | d
                     · exact Or.inl (HDS.out u d c)
                     · exact Or.inr d⟩
                 clear T4 M4 c4 v4)
    exact ⟨⟨t + 1, by omega, by go_num, J⟩, by simp [intOf]; omega⟩
  have TD : Hid (∃ lb Fa Fb, TT w wr pa pb la lb Fa Fb ∧ IB ns 0 la lb) := hid ⟨_, _, _, T, ⟨fun s hs => by
    rcases S s hs with d | d
    · rw [List.drop_of_length_le (by rw [← HM.out]; omega)] at d
      cases d
    · exact d, fun j hj => by omega⟩⟩
  clear T S
  obtain rfl : t = j := by omega
  go_wp2_with fail
  go_loopw [119] (fun i wr => ∃ r : Nat, r ≤ q ∧ i = .int .i64 r ∧ Hid (∃ lb Fa Fb, TT w wr pa pb la lb Fa Fb ∧ IB ns r la lb)) (fun i _ => q - (intOf i).toNat)
  case atStart => exact ⟨0, Nat.zero_le _, rfl, TD⟩
  case round =>
  clear TD HDI HZD
  obtain ⟨r, hr, rfl, HX⟩ := hrel
  obtain ⟨lb, Fa3, Fb3, T, B⟩ := HX.out
  clear HX
  by_cases hlt5 : r < q
  · have hkl : r < ns.length := by rw [← HN.out]; exact hlt5
    rcases HNI.out with h0 | ⟨b, off, ea, hbl, hc⟩
    · omega
    subst ea
    have x0 := hc r hkl
    rw [← T.bl.cell (p := ⟨b, off + r, none⟩) hbl] at x0
    have hsz := HZN.out _ (nmS_mem hkl)
    have hmem := nmS_mem hkl
    cases hb : badB (nmS ns r)
    · obtain ⟨v, hv, hvr⟩ := HA.out.val r hlt5 hb
      obtain ⟨ia, hia, hna, hva⟩ := (vw_iff T.a.ok).1 hv
      have FA := hid (find_yes pa 600 ia la Fa3 _ wr T.a hia hna)
      rw [hva] at FA
      have hs1 := bad_one hb
      have hs2 := bad_two hb
      have hcb : cnt lb < 600 := by
        have := Sub.cnt (B.mem.mono (fun s h => h.1)) T.b.ok
        rw [← HN.out] at this
        omega
      have BS := hid (fun l5 (h : ∀ u, vw l5 u = if u = nmS ns r then some v else vw lb u) => B.step hmem hb hv h)
      have HTT := hid T
      have PV := hid (fun W (h : TT w W pa pb la lb Fa3 Fb3) => put_vw pb 600 lb Fb3 (nmS ns r) (-3) W h.b h.tab hsz hcb)
      rcases vw_or T.b.ok (nmS ns r) with ⟨hnb, evb⟩ | ⟨ib, hib, hnb, evb⟩
      · have FB := hid (fun W (h : TT w W pa pb la lb Fa3 Fb3) => find_no pb 600 lb Fb3 (nmS ns r) W h.b hsz hnb)
        have SV := hid (fun W l4 F4 (h : Tb W pb 600 l4 F4) (hu : vw l4 (nmS ns r) = some (-3)) => set_vw pb 600 l4 F4 (nmS ns r) (-3) v W h hu)
        have HEV := hid evb
        have HBB := hid hb
        clear hc hnb evb hia hna hva hv hb hmem hsz T B HNI
        generalize nmS ns r = s at *
        go_wp2_with fail
        refine FA.out.mono ?_
        rintro e w4 ⟨rfl, n4, hw4⟩
        have T4 := hid (show TT w w4 pa pb la lb Fa3 Fb3 by rw [hw4]; exact HTT.out.drewN n4)
        clear hw4 FA HTT x0
        go_wp2_with fail
        refine (FB.out _ T4.out).mono ?_
        rintro e w5 ⟨rfl, hw5⟩
        replace hw5 := hw5.symm
        subst hw5
        go_wp2_with fail
        refine (PV.out _ T4.out).mono ?_
        rintro e w6 ⟨x, y, l6, F6, rfl, T6, M6, c6, v6⟩
        have J6 := hid (T4.out.onB T6 M6)
        have V6 := hid v6
        have E6 := hid (show vw l6 s = some (-3) by rw [v6, if_pos ⟨rfl, HBB.out, HEV.out⟩])
        clear T6 M6 c6 v6 T4 PV FB
        go_wp2_with fail
        refine (SV.out _ _ _ J6.out.b E6.out).mono ?_
        rintro e w7 ⟨l7, rfl, T7, M7, c7, v7⟩
        have J7 : Hid (∃ lb Fa Fb, TT w w7 pa pb la lb Fa Fb ∧ IB ns (r + 1) la lb) := hid ⟨_, _, _, J6.out.onB T7 M7, BS.out l7 (fun u => by
          rw [v7]
          by_cases c : u = s
          · rw [if_pos c, if_pos c]
          · rw [if_neg c, if_neg c, V6.out, if_neg (fun d => c d.1)])⟩
        clear T7 M7 c7 v7 J6 V6 SV
        go_wp2_with fail
        exact ⟨⟨r + 1, by omega, by go_num, J7⟩, by simp [intOf]; omega⟩
      · have FB := hid (fun W (h : TT w W pa pb la lb Fa3 Fb3) => find_yes pb 600 ib lb Fb3 (nmS ns r) W h.b hib hnb)
        have SV := hid (fun W (h : TT w W pa pb la lb Fa3 Fb3) => set_vw pb 600 lb Fb3 (nmS ns r) (vlu lb ib) v W h.b evb)
        clear hc hnb evb hib hia hna hva hv hb hmem hsz T B HNI PV
        generalize nmS ns r = s at *
        generalize vlu lb ib = ub at *
        go_wp2_with fail
        refine FA.out.mono ?_
        rintro e w4 ⟨rfl, n4, hw4⟩
        have T4 := hid (show TT w w4 pa pb la lb Fa3 Fb3 by rw [hw4]; exact HTT.out.drewN n4)
        clear hw4 FA HTT x0
        go_wp2_with fail
        refine (FB.out _ T4.out).mono ?_
        rintro e w5 ⟨rfl, n5, hw5⟩
        have T5 := hid (show TT w w5 pa pb la lb Fa3 Fb3 by rw [hw5]; exact T4.out.drewN n5)
        clear hw5 FB T4
        go_wp2_with fail
        refine (SV.out _ T5.out).mono ?_
        rintro e w7 ⟨l7, rfl, T7, M7, c7, v7⟩
        have J7 : Hid (∃ lb Fa Fb, TT w w7 pa pb la lb Fa Fb ∧ IB ns (r + 1) la lb) := hid ⟨_, _, _, T5.out.onB T7 M7, BS.out l7 v7⟩
        clear T7 M7 c7 v7 T5 SV
        go_wp2_with fail
        exact ⟨⟨r + 1, by omega, by go_num, J7⟩, by simp [intOf]; omega⟩
    · have hno : NoN la (nmS ns r) := none_of HA.out hb T.a.ok
      have FA := hid (find_no pa 600 la Fa3 _ wr T.a hsz hno)
      have J7 : Hid (∃ lb Fa Fb, TT w wr pa pb la lb Fa Fb ∧ IB ns (r + 1) la lb) := hid ⟨_, _, _, T, ⟨B.mem, fun j hj hbj => by
        by_cases e : j = r
        · subst e; rw [hb] at hbj; cases hbj
        · exact B.val j (by omega) hbj⟩⟩
      have hbs := bad_three hb
      clear hc hno hb hmem hsz T B HNI
      generalize nmS ns r = s at *
      rcases hbs with h0 | h0
      · have h1 : ¬ (1 : Int) ≤ (s.size : Int) := by omega
        go_wp2_with (go_at_call 9; refine FA.out.mono ?_; rintro e w5 ⟨rfl, hw5⟩; replace hw5 := hw5.symm; subst hw5)
        exact ⟨⟨r + 1, by omega, by go_num, J7⟩, by simp [intOf]; omega⟩
      · have h1 : (1 : Int) ≤ (s.size : Int) := by omega
        have h2 : ¬ (s.size : Int) ≤ 63 := by omega
        go_wp2_with (go_at_call 9; refine FA.out.mono ?_; rintro e w5 ⟨rfl, hw5⟩; replace hw5 := hw5.symm; subst hw5)
        exact ⟨⟨r + 1, by omega, by go_num, J7⟩, by simp [intOf]; omega⟩
  obtain rfl : r = q := by omega
  have HTT := hid T
  have HB := hid B
  clear T B
  obtain ⟨ss, hss⟩ : ∃ ss, ss = srt (nmL la) := ⟨_, rfl⟩
  obtain ⟨e1, e2, e3, e4⟩ := blind_end HA.out HB.out HTT.out.a.ok HTT.out.b.ok (by rw [← HN.out]; exact Nat.le_refl _)
  have NA := hid (fun W (h : TT w W pa pb la lb Fa3 Fb3) => names_any pa 600 la Fa3 W h.a)
  have NB := hid (fun W (h : TT w W pa pb la lb Fa3 Fb3) => names_any pb 600 lb Fb3 W h.b)
  have LA := hid (fun W (h : TT w W pa pb la lb Fa3 Fb3) => len_any pa 600 la Fa3 W h.a)
  have LB := hid (fun W (h : TT w W pa pb la lb Fa3 Fb3) => len_any pb 600 lb Fb3 W h.b)
  rw [← hss] at NA e3 e4
  rw [← e1, ← hss] at NB
  rw [← e2] at LB
  have HSS := hid e4
  have hcl : cnt la ≤ 600 := HTT.out.a.ok.ct
  clear e1 e2 e4 hss HNI HZN HN HM HA HB
  generalize cnt la = CN at *
  have TS := hid (fun W a1 a2 c1 c2 (h1 : ItemsS W a1 ss) (h2 : ItemsS W a2 ss) => texts_same a1 a2 c1 c2 ss W (by omega) h1 h2)
  obtain ⟨T, hT⟩ : ∃ T, T = ss.length := ⟨_, rfl⟩
  have hT6 : T ≤ 600 := by omega
  clear e3
  rw [← hT] at TS
  have HTL := hid hT
  clear hT
  go_wp2_with fail
  refine (NA.out _ HTT.out).mono ?_
  rintro e w4 ⟨v4, rfl, O4, B4⟩
  have T4 := hid (HTT.out.low B4)
  obtain ⟨a4, c4, ev4, I4⟩ := own_itemsS O4
  rw [← HTL.out] at ev4
  subst ev4
  have HI4 := hid I4
  clear O4 B4 I4 HTT
  go_wp2_with fail
  refine (NB.out _ T4.out).mono ?_
  rintro e w5 ⟨v5, rfl, O5, B5⟩
  have T5 := hid (T4.out.low B5)
  obtain ⟨a5, c5, ev5, I5⟩ := own_itemsS O5
  rw [← HTL.out] at ev5
  subst ev5
  have HI5 := hid I5
  have HI45 := hid (HI4.out.low B5 (Nat.le_refl _))
  clear O5 B5 I5 T4 HI4 NB
  go_wp2_with fail
  refine (TS.out _ _ _ _ _ HI45.out HI5.out).mono ?_
  rintro e w6 ⟨rfl, n6, hw6⟩
  have T6 := hid (show TT w w6 pa pb la lb Fa3 Fb3 by rw [hw6]; exact T5.out.drewN n6)
  clear hw6 T5 HI45 HI5 TS
  go_wp2_with fail
  refine (LA.out _ T6.out).mono ?_
  rintro e w7 ⟨rfl, hw7⟩
  replace hw7 := hw7.symm
  subst hw7
  go_wp2_with fail
  refine (LB.out _ T6.out).mono ?_
  rintro e w7 ⟨rfl, hw7⟩
  replace hw7 := hw7.symm
  subst hw7
  go_wp2_with fail
  refine (NA.out _ T6.out).mono ?_
  rintro e w8 ⟨v8, rfl, O8, B8⟩
  have T8 := hid (T6.out.low B8)
  obtain ⟨a8, c8, ev8, I8⟩ := own_itemsS O8
  rw [← HTL.out] at ev8
  subst ev8
  have HI8 := hid I8
  clear O8 B8 I8 T6 NA LA LB
  go_wp2_with fail
  go_loopw [180] (fun i wr => ∃ x : Nat, x ≤ T ∧ i = .int .i64 x ∧ Hid (TT w wr pa pb la lb Fa3 Fb3) ∧ Hid (ItemsS wr a8 ss)) (fun i _ => T - (intOf i).toNat)
  case atStart => exact ⟨0, Nat.zero_le _, rfl, T8, HI8⟩
  case round =>
  clear T8 HI8
  obtain ⟨x, hx, rfl, TX, IX⟩ := hrel
  by_cases hlt6 : x < T
  · have hkl : x < ss.length := by rw [← HTL.out]; exact hlt6
    obtain ⟨ia, ib, v, g1, g2, g3, g4, g5, g6⟩ := HSS.out _ (nmS_mem hkl)
    rcases IX.out with h0 | ⟨b, off, ea, hbl, hc⟩
    · omega
    subst ea
    have x0 := hc x hkl
    have FA := hid (find_yes pa 600 ia la Fa3 _ _ TX.out.a g1 g2)
    have FB := hid (fun W (h : TT w W pa pb la lb Fa3 Fb3) => find_yes pb 600 ib lb Fb3 _ W h.b g4 g5)
    have AB := hid (fun W (h : TT w W pa pb la lb Fa3 Fb3) => at_yes pb 600 ib lb Fb3 W h.b g4)
    rw [g3] at FA
    rw [g6] at FB AB
    rw [g5] at AB
    clear hc g1 g2 g3 g4 g5 g6 HSS
    generalize nmS ss x = s at *
    go_wp2_with fail
    refine FA.out.mono ?_
    rintro e w4 ⟨rfl, n4, hw4⟩
    have T4 := hid (show TT w w4 pa pb la lb Fa3 Fb3 by rw [hw4]; exact TX.out.drewN n4)
    have I4 := hid (show ItemsS w4 (some ⟨b, off, none⟩) ss by rw [hw4]; exact IX.out.low (below_drew _ n4) (Nat.le_refl _))
    clear hw4 FA TX IX x0
    go_wp2_with fail
    refine (FB.out _ T4.out).mono ?_
    rintro e w5 ⟨rfl, n5, hw5⟩
    have T5 := hid (show TT w w5 pa pb la lb Fa3 Fb3 by rw [hw5]; exact T4.out.drewN n5)
    have I5 := hid (show ItemsS w5 (some ⟨b, off, none⟩) ss by rw [hw5]; exact I4.out.low (below_drew _ n5) (Nat.le_refl _))
    clear hw5 FB T4 I4
    go_wp2_with fail
    refine (AB.out _ T5.out).mono ?_
    rintro e w6 ⟨rfl, n6, hw6⟩
    have T6 := hid (show TT w w6 pa pb la lb Fa3 Fb3 by rw [hw6]; exact T5.out.drewN n6)
    have I6 := hid (show ItemsS w6 (some ⟨b, off, none⟩) ss by rw [hw6]; exact I5.out.low (below_drew _ n6) (Nat.le_refl _))
    clear hw6 AB T5 I5
    go_wp2_with fail
    exact ⟨⟨x + 1, by omega, by go_num, T6, I6⟩, by simp [intOf]; omega⟩
  obtain rfl : x = T := by omega
  go_wp2_with fail
  rw [← HQ.out]
  exact ⟨rfl, TX.out.bl⟩
end Go.Proofs.YtdhjoimiejdgbabDoor.L
