import Derived.Test.YtlhlpamciafocaaGreatDoorMgAZ
namespace Go.Proofs.YtlhlpamciafocaaGreatDoor.L.Sw
open Go.RowKit Go.Shelf
set_option linter.unusedVariables false
attribute [local go_sem] Oper.semAt_some
theorem ex_u {L : Array Value} {d : List Deferred} {f : (Nat → Value) → Act} {p : Prop} (h : f (fun i => L.toList.getD i undef) = ({ tmps := L, defers := d } : Act)) (hp : p) : ∃ u, ({ tmps := L, defers := d } : Act) = f u ∧ p := ⟨_, h.symm, hp⟩
theorem grown_refl (W : World) (r : Option Nat) : W.grownBy W r := ⟨rfl, rfl, rfl, Nat.le_refl _, fun _ _ _ => rfl⟩
theorem grown_trans {A B C : World} {r : Option Nat} (h : A.grownBy B r) (k : B.grownBy C r) : A.grownBy C r :=
  ⟨k.os.trans h.os, k.tape.trans h.tape, k.output.trans h.output, Nat.le_trans h.size k.size, fun j hj hn => (k.block j (Nat.lt_of_lt_of_le hj h.size) hn).trans (h.block j hj hn)⟩
theorem grown_box {A B : World} {g b : Nat} {t : TypeId} {v : Value} (h : A.grownBy B (some g)) (x : Boxed A b t v) (hn : b ≠ g) : Boxed B b t v := (h.block b x.lt (by simpa using hn)).trans x
theorem grown_low {A B : World} {g m : Nat} (h : A.grownBy B (some g)) (hm : m ≤ g) (hz : m ≤ A.heap.size) : Below m A B := ⟨h.os, h.tape, h.output, h.size, fun k hk => h.block k (by omega) (by simp; omega)⟩
theorem grown_kb {A B : World} {g base : Nat} (h : A.grownBy B (some g)) (hb : g < base) : Kb base A B := ⟨h.size, fun k o hk h1 _ => (h.block k (lt_blk h1) (by simp; omega)).trans h1⟩
theorem grown_lk {A B C : World} {g l : Nat} (h : A.grownBy B (some g)) (k : Lk l B C) (hl : A.heap.size ≤ l) : A.grownBy C (some g) :=
  ⟨k.os.trans h.os, k.tape.trans h.tape, k.output.trans h.output, Nat.le_trans h.size k.size, fun j hj hn => (k.block j (Nat.lt_of_lt_of_le hj h.size) (by omega)).trans (h.block j hj hn)⟩
theorem own_lk {W W' : World} {base l g L cap : Nat} {zs : List Int} (h : OwnI W base (.slice (some ⟨g, 0, none⟩) L cap) zs) (k : Lk l W W') (hl : g ≠ l) : OwnI W' base (.slice (some ⟨g, 0, none⟩) L cap) zs :=
  World.ownsRow.kept (row := some l) h ⟨k.os, k.tape, k.output, k.size, fun j hj hn => k.block j hj (fun e => hn (by rw [e]))⟩ (.inr (by simp [Value.ownBlock]; exact hl))
/-- What stands between the rounds of nestsOf. -/
structure Ns (w4 W : World) (g : Nat) (T : List Pt) (L k : Nat) (ns : List Int) : Prop where
  grown : w4.grownBy W (some g)
  row : OwnI W g (.slice (some ⟨g, 0, none⟩) L L) ns
  len : ns.length = L
  sm : Sm L ns
  eq : nsts T k ns = nests T
theorem Ns.put {w4 W : World} {g L k l : Nat} {T : List Pt} {ns : List Int} {r r' : Loop} (h : Ns w4 W g T L k ns) (hl : w4.heap.size ≤ l) (hb : W.heap[l]? = some (.loop r)) : Ns w4 (W.putObj l (.loop r')) g T L k ns := by
  refine ⟨⟨h.grown.os, h.grown.tape, h.grown.output, by rw [World.putObj_size]; exact h.grown.size, fun j hj hn => (World.putObj_heap_other (by omega)).trans (h.grown.block j hj hn)⟩, ownsRow_putObj h.row _ hb rfl, h.len, h.sm, h.eq⟩
theorem Ns.lk {w4 W W' : World} {g L k l : Nat} {T : List Pt} {ns : List Int} (h : Ns w4 W g T L k ns) (hk : Lk l W W') (hl : w4.heap.size ≤ l) (hg : g < w4.heap.size) : Ns w4 W' g T L k ns :=
  ⟨grown_lk h.grown hk hl, own_lk h.row hk (by omega), h.len, h.sm, h.eq⟩
set_option maxHeartbeats 16000000 in
set_option maxRecDepth 100000 in
theorem nestsof_any (a : Option Addr) (T : List Pt) (cap : Nat) (w : World) (hT : PL w a T) (h1 : 1 ≤ T.length) (hL : T.length ≤ 1000) (hok : Ok0 T) :
    Calls Tryz.prog 27 #[.slice a T.length cap] w fun e w' => ∃ v, e = .returned v ∧ OwnI w' w.heap.size v (nests T) ∧ Below w.heap.size w w' := by
  obtain ⟨L, hLe⟩ : ∃ L, L = T.length := ⟨_, rfl⟩
  have HT := hid hT
  have HL := hid hLe
  have HOK := hid hok
  have HBT := hid between_any
  have HBK := hid back_any
  rw [← hLe] at h1 hL ⊢
  have HX0 := hid (Boxed.new w 22 (.slice a L cap))
  have HB0 := hid (belowA w (.cells #[.slice a L cap] 22))
  have HS0 := hid (show (w.alloc (.cells #[.slice a L cap] 22)).heap.size = w.heap.size + 1 by simp)
  have MK := fun W => make_ints L hL W
  clear hT hLe hok
  refine (callsIn_wide (n := 4)).1 ?_
  refine callsIn_of_wp_marks Tryz.func27 rfl trivial ?_ rfl
  simp only [Tryz.ntmps27, List.size_toArray, List.length_cons, List.length_nil, Nat.reduceAdd, Nat.reduceSub, Array.replicate_succ, Array.replicate_zero, List.push_toArray, List.append_toArray, List.nil_append, List.cons_append]
  unfold backB at HBK
  gi_wp2_with (refine ⟨trivial, ?_⟩; gi_at_call 40; refine (callsIn_wide.2 (HBK.out _ _ _ _)).mono ?_; rintro e w4 ⟨rfl, hx, l4⟩; have L4 := hid l4; have HX := hid hx; clear l4 hx)
  have HV1 := hid (own_made (w.alloc (.cells #[.slice a L cap] 22)) L (w.heap.size + 1) hL (by rw [HS0.out]; exact Nat.le_refl _))
  rw [HS0.out] at HV1
  have hb3 : Below w.heap.size w (((w.alloc (.cells #[.slice a L cap] 22)).alloc (.cells (madeCells #[.int .i64 0] L) 3)).alloc (.cells #[.slice (some ⟨w.heap.size + 1, 0, none⟩) L L] 34)) := (HB0.out.alloc (by simp) _).alloc (by simp; omega) _
  have hz3 : (((w.alloc (.cells #[.slice a L cap] 22)).alloc (.cells (madeCells #[.int .i64 0] L) 3)).alloc (.cells #[.slice (some ⟨w.heap.size + 1, 0, none⟩) L L] 34)).heap.size = w.heap.size + 1 + 1 + 1 := by simp
  have hr3 := World.ownsRow.alloc HV1.out (.cells #[.slice (some ⟨w.heap.size + 1, 0, none⟩) L L] 34)
  have hP3 : Boxed (((w.alloc (.cells #[.slice a L cap] 22)).alloc (.cells (madeCells #[.int .i64 0] L) 3)).alloc (.cells #[.slice (some ⟨w.heap.size + 1, 0, none⟩) L L] 34)) w.heap.size 22 (.slice a L cap) := (HX0.out.alloc _).alloc _
  have hN3 : Boxed (((w.alloc (.cells #[.slice a L cap] 22)).alloc (.cells (madeCells #[.int .i64 0] L) 3)).alloc (.cells #[.slice (some ⟨w.heap.size + 1, 0, none⟩) L L] 34)) (w.heap.size + 1 + 1) 34 (.slice (some ⟨w.heap.size + 1, 0, none⟩) L L) := by
    have := Boxed.new ((w.alloc (.cells #[.slice a L cap] 22)).alloc (.cells (madeCells #[.int .i64 0] L) 3)) 34 (.slice (some ⟨w.heap.size + 1, 0, none⟩) L L)
    simpa using this
  rw [hz3] at HX L4
  have R4 := hid (show OwnI w4 (w.heap.size + 1) (.slice (some ⟨w.heap.size + 1, 0, none⟩) L L) (List.replicate L 0) from own_low hr3 (by rw [hz3]; exact L4.out))
  have P4 := hid (show Boxed w4 w.heap.size 22 (.slice a L cap) from (L4.out.block _ (by omega)).trans hP3)
  have N4 := hid (show Boxed w4 (w.heap.size + 1 + 1) 34 (.slice (some ⟨w.heap.size + 1, 0, none⟩) L L) from (L4.out.block _ (by omega)).trans hN3)
  have B4 := hid (hb3.trans (L4.out.mono (by omega)))
  have Z4 := hid (show w.heap.size + 1 + 1 + 1 < w4.heap.size from HX.out.lt)
  clear HV1 hb3 hz3 hr3 hP3 hN3 L4 HX0 HB0 HS0 MK
  have e4 : w.heap.size + 1 + 1 + 1 = w.heap.size + 3 := rfl
  have hI : ∀ k W, (∃ ns, Ns w4 W (w.heap.size + 1) T L k ns) → PL W a T ∧ W.cell? ⟨w.heap.size + 1 + 1 + 1, 0, none⟩ = some (.slice a T.length cap) := by
    rintro k W ⟨ns, h⟩
    refine ⟨HT.out.low (B4.out.trans (grown_low h.grown (by omega) B4.out.size)), ?_⟩
    rw [← HL.out]
    exact (grown_box h.grown HX.out (by omega)).cell
  refine backO (n := 4) (by decide) (w.heap.size + 1 + 1 + 1) T a cap (by rw [← HL.out]; exact hL) (by rw [← HL.out]; exact h1) (by first | rfl | simp [backB]) rfl
    (fun k W => ∃ ns, Ns w4 W (w.heap.size + 1) T L k ns) hI ?h0 (fun k W l r r' ⟨ns, h⟩ hl hb => ⟨ns, h.put hl hb⟩)
    (fun i v a' W' => ∃ Bx, w4.heap.size ≤ Bx ∧ (∃ ka kc, v = ptv (pt T i) ka kc ∧ W'.heap[Bx]? = some (.cells #[.int .i64 (pt T i).kind, .string (pt T i).text, .int .i64 (pt T i).num, .slice ka (pt T i).kids.length kc] 50 (0, 0)) ∧ ∃ u : Nat → Value, a' = { tmps := #[u 0, .pointer (some ⟨w.heap.size, 0, none⟩), u 2, .pointer (some ⟨w.heap.size + 1 + 1, 0, none⟩), .int .i64 (i : Int), .pointer (some ⟨Bx, 0, none⟩), u 6, u 7, u 8, u 9, u 10, u 11, u 12, u 13, u 14, u 15, u 16, u 17, u 18, u 19, u 20, u 21, u 22, u 23, u 24, u 25, u 26, u 27, u 28, u 29, u 30, u 31, u 32, u 33, u 34, u 35, u 36, u 37, u 38, u 39], defers := [] } ∧ True))
    ?hA ?assign ?body ?done
  case h0 =>
    intro W' h
    refine ⟨List.replicate L 0, ⟨h.os, h.tape, h.output, h.size, fun k hk _ => h.block k hk⟩, own_low R4.out h, by simp, fun j hj => ?_, by rw [← HL.out]; unfold nests; rw [← HL.out]⟩
    have : (List.replicate L (0 : Int)).getD j 0 = 0 := by
      rw [List.getD_eq_getElem?_getD]
      by_cases h : j < L
      · simp [h]
      · simp [h]
    rw [this]
    rw [List.length_replicate] at hj
    omega
  case hA =>
    rintro i v a' W' l q q' ⟨Bx, hb, ka, kc, e1, hx, h2⟩ h3
    exact ⟨Bx, hb, ka, kc, e1, (World.putObj_heap_other (by intro e; rw [e, h3] at hx; cases hx)).trans hx, h2⟩
  case assign =>
    intro m l i ka kc W' K hz hK
    have HK := hid hK
    clear hK
    simp only [ptv]
    gi_wp2
    refine HK.out _ _ ?_ (belowA W' _)
    exact ⟨W'.heap.size, hz, ka, kc, rfl, heap_alloc_new W' _, ex_u rfl trivial⟩
  case body =>
    rintro m l i ka kc a' W0 W ⟨Bx, hBx, ka', kc', ev, hx, u, rfl, -⟩ hl hlr hlk ⟨ns, hn⟩ hil hrd hce
    have hgz : w.heap.size + 1 < w4.heap.size := by have := Z4.out; omega
    have HNW := hid (hn.lk hlk hl hgz)
    have hev : ka' = ka ∧ kc' = kc := by
      unfold ptv at ev
      simp at ev
      exact ⟨ev.1.symm, ev.2.symm⟩
    obtain ⟨rfl, rfl⟩ := hev
    have RK : Hid (RdI w ka' (pt T i).kids) := by
      obtain ⟨b, off, rfl, hc⟩ := hce
      rcases HT.out with h0 | ⟨b2, o2, e2, hb2, hc2⟩
      · omega
      · cases e2
        obtain ⟨ka0, kc0, _, _, _, q3, rk⟩ := hc2 i hil
        have hlow := B4.out.trans (grown_low hn.grown (m := w.heap.size) (by omega) B4.out.size)
        rw [hlow.cell (p := ⟨b, off + i * 4 + 3, none⟩) hb2, q3] at hc
        injection hc with hc
        injection hc with e1 e2 e3
        rw [← e1]
        exact hid rk
    have HXB := hid hx
    have HOKI := hid (HOK.out i hil)
    have hn1 : (pt T i).kids.length ≤ 1000 := by
      have h1 := HOKI.out.many
      have h2 := fre_len T i
      have := HL.out
      omega
    have hil2 : i < L := by rw [HL.out]; exact hil
    obtain ⟨kd, hkd⟩ : ∃ kd, kd = (pt T i).kind := ⟨_, rfl⟩
    obtain ⟨ks, hks⟩ : ∃ ks, ks = (pt T i).kids := ⟨_, rfl⟩
    obtain ⟨nk, hnk⟩ : ∃ nk, nk = ks.length := ⟨_, rfl⟩
    rw [← hkd, ← hks, ← hnk] at HXB
    rw [← hks, ← hnk] at hn1
    rw [← hks] at RK
    generalize (pt T i).text = tx at HXB
    generalize (pt T i).num = nu at HXB
    have HKD := hid hkd
    have HKS := hid hks
    have HNK := hid hnk
    clear hn hlk hlr hrd ev hx hil hkd hks hnk hce
    have hgb : w.heap.size + 1 ≠ Bx := by omega
    have ⟨x0, x1, x2, x3⟩ := cells4 HXB.out
    gi_wp2
    clear x0 x1 x2 x3
    gi_loopw [18] (fun j wr => ∃ (jn : Nat) (ms : List Int), jn ≤ nk ∧ j = .int .i64 jn ∧ Hid (W.grownBy wr (some (w.heap.size + 1))) ∧ Hid (OwnI wr (w.heap.size + 1) (.slice (some ⟨w.heap.size + 1, 0, none⟩) L L) ms) ∧ Hid (ms.length = L) ∧ Hid (Sm L ms) ∧ Hid (inn T i (ks.drop jn) ms = inn T i ks ns)) (fun j _ => nk - (intOf j).toNat)
    case atStart => exact ⟨0, ns, Nat.zero_le _, rfl, hid (grown_refl _ _), hid HNW.out.row, hid HNW.out.len, hid HNW.out.sm, hid rfl⟩
    case round =>
      obtain ⟨jn, ms, hjn, rfl, HG, OW, HLN, HSM, HIN⟩ := hrel
      have HG4 := hid (grown_trans HNW.out.grown HG.out)
      have HLW := hid (B4.out.trans (grown_low HG4.out (m := w.heap.size) (by omega) B4.out.size))
      by_cases hlt : jn < nk
      · have r1 := RK.out.low HLW.out (Nat.le_refl _)
        have r2 := HT.out.low HLW.out
        rcases r1 with h0 | ⟨b1, o1, rfl, hb1, hc1⟩
        · have := HNK.out; omega
        have p0 := hc1 jn (by rw [← HNK.out]; exact hlt)
        have hmem : ks.getD jn 0 ∈ ks := getD_mem (by rw [← HNK.out]; exact hlt)
        have hxk := HOKI.out.lt (x := ks.getD jn 0) (by rw [← HKS.out]; exact hmem)
        obtain ⟨z, hz⟩ : ∃ z : Nat, ks.getD jn 0 = z := ⟨(ks.getD jn 0).toNat, by omega⟩
        rw [hz] at p0 hxk
        have HZ := hid hz
        rcases r2 with h0 | ⟨b2, o2, rfl, hb2, hc2⟩
        · have := HL.out; omega
        obtain ⟨_, _, k0, _⟩ := hc2 z (by rw [← HL.out]; omega)
        obtain ⟨kk, hkk⟩ : ∃ kk, kk = (pt T z).kind := ⟨_, rfl⟩
        rw [← hkk] at k0
        have HKK := hid hkk
        have hxw : wr.heap[Bx]? = _ := (HG.out.block Bx (lt_blk HXB.out) (by simp; omega)).trans HXB.out
        have ⟨x0, x1, x2, x3⟩ := cells4 hxw
        have nb := (grown_box HG4.out N4.out (by omega)).cell
        have pb := (grown_box HG4.out P4.out (by omega)).cell
        obtain ⟨v, hv⟩ : ∃ v, v = ms.getD i 0 := ⟨_, rfl⟩
        have c1 := (own_cell OW.out HLN.out.symm i hil2).1
        have c2 := (own_cell OW.out HLN.out.symm z (by omega)).1
        have f2 := (own_cell OW.out HLN.out.symm z (by omega)).2
        obtain ⟨v0, hv0⟩ : ∃ v0, v0 = ms.getD z 0 := ⟨_, rfl⟩
        rw [← hv] at c1
        rw [← hv0] at c2
        have hub := HSM.out i (by rw [HLN.out]; exact hil2)
        rw [← hv] at hub
        have hu0 : 0 ≤ v := hub.1
        have hu1 : v ≤ 2000 := by omega
        have HU := hid hv
        have hzi : z < i := by omega
        have HLK := hid (show ks.drop jn = (z : Int) :: ks.drop (jn + 1) by
          rw [List.drop_eq_getElem_cons (by rw [← HNK.out]; exact hlt)]
          have hz2 := HZ.out
          rw [List.getD_eq_getElem?_getD, List.getElem?_eq_getElem (by rw [← HNK.out]; exact hlt)] at hz2
          rw [← hz2]
          rfl)
        have HJ1 := hid (show jn + 1 ≤ nk by omega)
        have HJ2 := hid (show nk - (jn + 1) < nk - jn by omega)
        obtain ⟨bt, hbt⟩ : ∃ bt, bt = btw kd kk := ⟨_, rfl⟩
        have hbl := btw_le kd kk
        rw [← hbt] at hbl
        have hb0 : 0 ≤ bt := hbl.1
        have hb1 : bt ≤ 2 := hbl.2
        have HBC := HBT.out kd kk
        rw [show ((if opB kd = true then (1 : Int) else 0) + (if brB kd kk = true then 1 else 0)) = bt by rw [hbt]; rfl] at HBC
        have HBC2 := hid HBC
        have HBB := hid hbt
        clear hc1 hc2 hmem hxk hz hkk hv hv0 hub hbt hbl HBC hxw
        have g3 : (jn : Int) < (nk : Int) := by omega
        have g4 : (0 : Int) ≤ (jn : Int) := by omega
        have g5 : (z : Int) < (L : Int) := by omega
        have g6 : (0 : Int) ≤ (z : Int) := by omega
        have g7 : (i : Int) < (L : Int) := by omega
        have g8 : (0 : Int) ≤ (i : Int) := by omega
        gi_wp2
        refine quiet_last_round (F := Fence.wide) (by simp) rfl (by kernel_rfl) (by kernel_rfl) (by kernel_rfl) (by kernel_rfl) ?_
        simp only [List.dropLast, List.getLast_cons_cons, List.getLast_singleton]
        repeat (gi_big_quiet_step (fail))
        refine BigFrame.wpQuietIn_want (fun _ _ _ _ => trivial) rfl (fun K hK => ?_)
        gi_big_quiet_op
        refine ⟨.int .i64 bt, fun _ => ⟨fun h => absurd h (by decide), CallsIn.quiet_of_same (callsIn_wide.2 (HBC2.out _))⟩, hK _ ?_⟩
        clear hK
        repeat (gi_big_quiet_step (fail))
        refine wpQuietIn_nil ?_
        rintro _ ⟨nq, rfl⟩
        refine ⟨fun _ _ => trivial, ?_⟩
        go_simp
        (try simp only [Exit.inBlock, Exit.then])
        gi_wp2
        have OD : OwnI (wr.drewN nq) (w.heap.size + 1) (.slice (some ⟨w.heap.size + 1, 0, none⟩) L L) ms := OW.out
        have S1 := own_set OD HLN.out.symm z (v + bt)
        have hv : v + bt = ms.getD i 0 + btw (pt T i).kind (pt T z).kind := by rw [← HU.out, HBB.out, HKD.out, HKK.out]
        refine ⟨⟨jn + 1, ms.set z (v + bt), HJ1.out, by go_num, hid (grown_trans HG.out (grown_trans (show wr.grownBy (wr.drewN nq) (some (w.heap.size + 1)) from ⟨rfl, rfl, rfl, Nat.le_refl _, fun _ _ _ => rfl⟩) S1.2)), hid S1.1, hid (by rw [List.length_set]; exact HLN.out), hid (HSM.out.set (by rw [HLN.out]; exact hil2) hzi (by rw [← HU.out]; omega)), hid ?_⟩, ?_⟩
        · rw [← HIN.out, HLK.out, inn_cons, Int.toNat_natCast, hv]
        · have h2 := HJ2.out
          have h3 := HJ1.out
          simp [intOf]
          omega
      · obtain rfl : jn = nk := by omega
        have h5 := HIN.out
        rw [HNK.out, List.drop_length] at h5
        have HEND := hid (show Ns w4 wr (w.heap.size + 1) T L i ms from ⟨HG4.out, OW.out, HLN.out, HSM.out, by
          rw [← HNW.out.eq]
          show nsts T i ms = nsts T i (inn T i (pt T i).kids ns)
          rw [← HKS.out, ← h5]
          rfl⟩)
        have HKB := hid (grown_kb HG.out (base := w4.heap.size) (by have := Z4.out; omega))
        clear h5
        gi_wp2
        exact ⟨HKB.out, _, HEND.out⟩
  case done =>
    rintro D W hD ⟨ns, hn⟩ hdf
    have nb := (grown_box hn.grown N4.out (by omega)).cell
    have HN := hid hn
    have HD := hid hdf
    have Z4' := Z4.out
    clear hn hdf
    gi_wp2
    have hrow := ownsRow_putObj HN.out.row (.deferred none) HD.out rfl
    have hlow : Below w.heap.size w (W.putObj D (.deferred none)) := (B4.out.trans (grown_low HN.out.grown (by omega) B4.out.size)).trans (below_putL (by omega))
    refine ⟨by simp, .inl ⟨_, _, rfl, run_takeDeferred HD.out, ?_⟩⟩
    simp [LeavesInM, LeavesIn, results, Tryz.results27, go_sem]
    refine ⟨own_mono (show OwnI _ (w.heap.size + 1) _ (nests T) by rw [← HN.out.eq]; exact hrow) (by omega), hlow⟩
end Go.Proofs.YtlhlpamciafocaaGreatDoor.L.Sw
namespace Go.Proofs.YtlhlpamciafocaaGreatDoor.L.Sw
open Go.RowKit Go.Shelf
set_option linter.unusedVariables false
/-- A fault lies in a block: its code and its place, no name, no cause. -/
def Flt (W : World) (N c : Nat) (a : Int) : Prop := W.heap[N]? = some (.cells #[.int .i64 (c : Int), .int .i64 a, .string ⟨#[]⟩, .nilIface] 67 (0, 0))
theorem Flt.low {W W' : World} {N c : Nat} {a : Int} (h : Flt W N c a) (hb : Below W.heap.size W W') : Flt W' N c a := (hb.block N (lt_blk h)).trans h
set_option maxHeartbeats 1000000 in
theorem fault_any (c : Nat) (a : Int) (w : World) : Calls Tryz.prog 21 #[.int .i64 (c : Int), .int .i64 a] w fun e w' => e = .returned (fv w.heap.size) ∧ Flt w' w.heap.size c a ∧ Below w.heap.size w w' := by
  unfold fv
  go_enter Tryz.func21, Tryz.ntmps21
  go_wp2
  go_ret
  exact ⟨rfl, heap_alloc_new w _, belowA w _⟩
set_option maxHeartbeats 4000000 in
set_option maxRecDepth 100000 in
theorem indexf_any (a : Option Addr) (A : List Int) (ca : Nat) (w : World) (ha : RdI w a A) (hA : A.length ≤ 1000) :
    Calls Tryz.prog 28 #[.slice a A.length ca, .func (.func 29) #[] #[]] w fun e w' => ∃ i : Int, e = .returned (.int .i64 i) ∧ w' = w ∧ ((∃ j : Nat, i = j ∧ j < A.length ∧ 32 < A.getD j 0 ∧ ∀ k, k < j → A.getD k 0 ≤ 32) ∨ (i = -1 ∧ ∀ k, k < A.length → A.getD k 0 ≤ 32)) := by
  obtain ⟨L, hL⟩ : ∃ L, L = A.length := ⟨_, rfl⟩
  have HL := hid hL
  have RA := hid ha
  have HTD := hid toodeep_any
  rw [← hL] at hA ⊢
  clear ha hL
  go_enter Tryz.func28, Tryz.ntmps28
  go_wp2_with fail
  go_loopw [8] (fun i wr => ∃ k : Nat, k ≤ L ∧ i = .int .i64 k ∧ Hid (wr = w) ∧ Hid (∀ j, j < k → A.getD j 0 ≤ 32)) (fun i _ => L - (intOf i).toNat)
  case atStart => exact ⟨0, Nat.zero_le _, rfl, hid rfl, hid (fun j hj => by omega)⟩
  case round =>
    obtain ⟨k, hk, rfl, HW, HE⟩ := hrel
    obtain rfl := HW.out
    by_cases hlt : k < L
    · rcases RA.out with h0 | ⟨b1, o1, rfl, hb1, hc1⟩
      · have := HL.out; omega
      have p0 := hc1 k (by rw [← HL.out]; exact hlt)
      obtain ⟨x, hx⟩ : ∃ x, x = A.getD k 0 := ⟨_, rfl⟩
      rw [← hx] at p0
      have HX := hid hx
      clear hc1 hx
      have g1 : (k : Int) < (L : Int) := by omega
      have g2 : (0 : Int) ≤ (k : Int) := by omega
      by_cases hd : 32 < x
      · have HD := hid (show decide (32 < x) = true by simp; omega)
        go_wp2_with (go_at_call 29; refine (HTD.out _ _).mono ?_; rw [HD.out]; rintro e w1 ⟨rfl, hww⟩; have hw2 := hww.symm; clear hww; subst hw2)
        go_ret
        exact ⟨_, rfl, by first | rfl | trivial, .inl ⟨k, rfl, by first | exact hlt | (rw [← HL.out]; exact hlt), by rw [← HX.out]; exact hd, HE.out⟩⟩
      · have HD := hid (show decide (32 < x) = false by simp; omega)
        go_wp2_with (go_at_call 29; refine (HTD.out _ _).mono ?_; rw [HD.out]; rintro e w1 ⟨rfl, hww⟩; have hw2 := hww.symm; clear hww; subst hw2)
        refine ⟨⟨k + 1, by omega, by go_num, hid (by first | rfl | trivial), hid (fun j hj => ?_)⟩, by simp [intOf]; omega⟩
        by_cases e : j = k
        · rw [e, ← HX.out]; omega
        · exact HE.out j (by omega)
    · obtain rfl : k = L := by omega
      go_wp2_with fail
      go_ret
      exact ⟨_, rfl, by first | rfl | trivial, .inr ⟨rfl, fun j hj => HE.out j (by first | exact hj | (rw [HL.out]; exact hj))⟩⟩
set_option maxHeartbeats 4000000 in
set_option maxRecDepth 100000 in
theorem max_any (a : Option Addr) (A : List Int) (ca : Nat) (w : World) (ha : RdI w a A) (hA : A.length ≤ 1000) (h1 : 1 ≤ A.length) :
    Calls Tryz.prog 25 #[.slice a A.length ca] w fun e w' => ∃ v : Int, e = .returned (.int .i64 v) ∧ w' = w ∧ (∀ k, k < A.length → A.getD k 0 ≤ v) ∧ ∃ j, j < A.length ∧ A.getD j 0 = v := by
  obtain ⟨L, hL⟩ : ∃ L, L = A.length := ⟨_, rfl⟩
  have HL := hid hL
  rw [← hL] at hA h1 ⊢
  rcases ha with h0 | ⟨b1, o1, rfl, hb1, hc1⟩
  · omega
  have HC := hid hc1
  have p0 := hc1 0 (by omega)
  rw [Nat.add_zero] at p0
  obtain ⟨x0, hx0⟩ : ∃ x, x = A.getD 0 0 := ⟨_, rfl⟩
  rw [← hx0] at p0
  have HX0 := hid hx0
  have d1 : decide ((L : Int) < 1) = false := by simp; omega
  have g0 : (0 : Int) < (L : Int) := by omega
  clear hL hc1 hx0
  go_enter Tryz.func25, Tryz.ntmps25
  go_wp2_with fail
  go_loopw [3, 4] (fun v i wr => ∃ (k : Nat) (mx : Int), 1 ≤ k ∧ k ≤ L ∧ i = .int .i64 k ∧ v = .int .i64 mx ∧ Hid (wr = w) ∧ Hid (∀ j, j < k → A.getD j 0 ≤ mx) ∧ Hid (∃ j, j < L ∧ A.getD j 0 = mx)) (fun _ i _ => L - (intOf i).toNat)
  case atStart => exact ⟨1, x0, Nat.le_refl _, h1, rfl, rfl, hid rfl, hid (fun j hj => by rw [HX0.out, show j = 0 by omega]; exact Int.le_refl _), hid ⟨0, by omega, HX0.out.symm⟩⟩
  case round =>
    clear p0
    obtain ⟨k, mx, hk1, hk, rfl, rfl, HW, HE, HM⟩ := hrel
    obtain rfl := HW.out
    by_cases hlt : k < L
    · have p0 := HC.out k (by rw [← HL.out]; exact hlt)
      obtain ⟨x, hx⟩ : ∃ x, x = A.getD k 0 := ⟨_, rfl⟩
      rw [← hx] at p0
      have HX := hid hx
      clear hx
      have g1 : (k : Int) < (L : Int) := by omega
      have g2 : (0 : Int) ≤ (k : Int) := by omega
      go_wp2_with fail
      refine ⟨⟨k + 1, if mx < x then x else mx, by omega, by omega, by go_num, (by first | rfl | (rw [show max mx x = (if mx < x then x else mx) from by split <;> omega])), hid (by first | rfl | trivial), hid (fun j hj => ?_), hid ?_⟩, by simp [intOf]; omega⟩
      · by_cases e : j = k
        · rw [e, ← HX.out]
          split <;> omega
        · have := HE.out j (by omega)
          split <;> omega
      · by_cases hc : mx < x
        · rw [if_pos hc]
          exact ⟨k, hlt, HX.out.symm⟩
        · rw [if_neg hc]
          exact HM.out
    · obtain rfl : k = L := by omega
      go_wp2_with fail
      go_ret
      exact ⟨_, rfl, by first | rfl | trivial, fun j hj => HE.out j (by first | exact hj | (rw [HL.out]; exact hj)), HM.out⟩
theorem nat_of (i : Int) (h : 0 ≤ i) : ∃ n : Nat, i = n := ⟨i.toNat, by omega⟩
set_option maxHeartbeats 8000000 in
set_option maxRecDepth 100000 in
theorem checked_any (a : Option Addr) (T : List Pt) (cap : Nat) (w : World) (hT : PL w a T) (hG : GdT T) :
    Calls Tryz.prog 18 #[.agg #[.slice a T.length cap]] w fun e w' => Below w.heap.size w w' ∧
      ((∃ v, e = .returned (.tuple #[v, .nilIface]) ∧ OwnI w' w.heap.size v (nests T) ∧ Res T 0 0) ∨
       (∃ (N c i : Nat), e = .returned (.tuple #[.slice none 0 0, fv N]) ∧ Flt w' N c i ∧ w.heap.size ≤ N ∧ Res T c i ∧ c ≠ 0)) := by
  obtain ⟨L, hLe⟩ : ∃ L, L = T.length := ⟨_, rfl⟩
  have HT := hid hT
  have HL := hid hLe
  have HG := hid hG
  have HFA := hid fault_any
  have hLm := hG.1
  rw [← hLe] at hLm ⊢
  have HX0 := hid (Boxed.new w 24 (.slice a L cap))
  have HB0 := hid (belowA w (.cells #[.slice a L cap] 24))
  clear hT hLe hG
  by_cases h0 : L = 0
  · have e0 : ((L : Int) == 0) = true := by simp [h0]
    have HH := hid h0
    clear h0
    have HF := hid (HFA.out 130 0)
    go_enter Tryz.func18, Tryz.ntmps18
    go_wp2_with (go_at_call 21; refine (HF.out _).mono ?_; rintro e w1 ⟨rfl, f1, l1⟩; have F1 := hid f1; have L1 := hid l1; clear f1 l1)
    (try simp only [Exit.inBlock, Exit.then])
    exact bodyPost_ret (results_tmp2 rfl _ _ _) rfl ⟨HB0.out.trans (L1.out.mono HB0.out.size), .inr ⟨w.heap.size + 1, 130, 0, rfl, by have := F1.out; simpa using this, by omega, .inl ⟨by rw [← HL.out]; exact HH.out, rfl, rfl⟩, by decide⟩⟩
  · have e0 : ((L : Int) == 0) = false := by simp; omega
    by_cases h1 : 1000 < L
    · have e1 : decide ((1000 : Int) < (L : Int)) = true := by simp; omega
      have HF := hid (HFA.out 130 1000)
      go_enter Tryz.func18, Tryz.ntmps18
      go_wp2_with (go_at_call 21; refine (HF.out _).mono ?_; rintro e w1 ⟨rfl, f1, l1⟩; have F1 := hid f1; have L1 := hid l1; clear f1 l1)
      (try simp only [Exit.inBlock, Exit.then])
      exact bodyPost_ret (results_tmp2 rfl _ _ _) rfl ⟨HB0.out.trans (L1.out.mono HB0.out.size), .inr ⟨w.heap.size + 1, 130, 1000, rfl, by have := F1.out; simpa using this, by omega, .inr (.inl ⟨by rw [← HL.out]; exact h1, rfl, rfl⟩), by decide⟩⟩
    · have e1 : decide ((1000 : Int) < (L : Int)) = false := by simp; omega
      have HBA := barred_any a T cap (w.alloc (.cells #[.slice a L cap] 24)) (HT.out.low HB0.out) (by rw [← HL.out]; omega) (by rw [← HL.out]; omega) HG.out
      rw [← HL.out] at HBA
      have HB2 := hid HBA
      clear HBA
      go_enter Tryz.func18, Tryz.ntmps18
      go_upto_region 7 with (go_at_call 26; refine HB2.out.mono ?_; rintro e w1 ⟨i, rfl, hb, l1⟩; have HBR := hid hb; have L1 := hid l1; clear hb l1)
      have B1 := hid (HB0.out.trans (L1.out.mono HB0.out.size))
      have HW := hid (show 1 ≤ T.length ∧ T.length ≤ 1000 by rw [← HL.out]; omega)
      by_cases hi : 0 ≤ i
      · obtain ⟨n, rfl⟩ := nat_of i hi
        have HR := hid (show Res T 130 n by
          rcases HBR.out with ⟨j, e, hb⟩ | ⟨e, ho, hl⟩ | ⟨e, _⟩
          · have : n = j := by omega
            subst this
            exact .inr (.inr ⟨HW.out.1, HW.out.2, .inl ⟨hb, rfl⟩⟩)
          · exact .inr (.inr ⟨HW.out.1, HW.out.2, .inr (.inl ⟨ho, hl, rfl, by omega⟩)⟩)
          · omega)
        have HF := hid (HFA.out 130 n)
        have g2 : (0 : Int) ≤ (n : Int) := by omega
        go_wp2_with (go_at_call 21; refine (HF.out _).mono ?_; rintro e w2 ⟨rfl, f1, l2⟩; have F2 := hid f1; have L2 := hid l2; clear f1 l2)
        (try simp only [Exit.inBlock, Exit.then])
        exact bodyPost_ret (results_tmp2 rfl _ _ _) rfl ⟨B1.out.trans (L2.out.mono B1.out.size), .inr ⟨_, 130, n, rfl, F2.out, B1.out.size, HR.out, by decide⟩⟩
      · have hm1 : i = -1 := by
          rcases HBR.out with ⟨j, e, hb⟩ | ⟨e, ho, hl⟩ | ⟨e, _⟩ <;> omega
        subst hm1
        have HOL : Hid (Ok0 T ∧ ¬ Lst T) := by
          rcases HBR.out with ⟨j, e, hb⟩ | ⟨e, ho, hl⟩ | ⟨e, ho, hl⟩
          · omega
          · omega
          · exact hid ⟨ho, hl⟩
        have xt := (show Boxed w1 w.heap.size 24 (.slice a L cap) from (L1.out.block _ HX0.out.lt).trans HX0.out).cell
        have HNN := nestsof_any a T cap w1 (HT.out.low B1.out) HW.out.1 HW.out.2 HOL.out.1
        rw [← HL.out] at HNN
        have HN2 := hid HNN
        clear HNN hi
        go_upto_region 10 with (go_at_call 27; refine HN2.out.mono ?_; rintro e w2 ⟨v, rfl, o2, l2⟩; have L2 := hid l2; obtain ⟨va, vc, rfl⟩ := own_form o2; have O2 := hid o2; clear l2 o2)
        have HNL := hid (show (nests T).length = L by rw [nests_len, HL.out])
        have HIX := indexf_any va (nests T) vc w2 (own_rdI O2.out).2.1 (by rw [HNL.out]; omega)
        rw [HNL.out] at O2 HIX ⊢
        have HI2 := hid HIX
        have B2 := hid (B1.out.trans (L2.out.mono B1.out.size))
        clear HIX xt
        go_upto_region 11 with (go_at_call 28; refine HI2.out.mono ?_; rintro e w3 ⟨i, rfl, hww, hr⟩; have hw2 := hww.symm; clear hww; subst hw2; have HIR := hid hr; clear hr)
        by_cases hi : 0 ≤ i
        · obtain ⟨n, rfl⟩ := nat_of i hi
          have HR := hid (show Res T 122 n by
            rcases HIR.out with ⟨j, e, h1, h2, h3⟩ | ⟨e, _⟩
            · have : n = j := by omega
              subst this
              exact .inr (.inr ⟨HW.out.1, HW.out.2, .inr (.inr ⟨HOL.out.1, HOL.out.2, .inl ⟨⟨by rw [← HL.out]; exact h1, h2, h3⟩, rfl⟩⟩)⟩)
            · omega)
          have HF := hid (HFA.out 122 n)
          have g2 : (0 : Int) ≤ (n : Int) := by omega
          go_wp2_with (go_at_call 21; refine (HF.out _).mono ?_; rintro e w3 ⟨rfl, f1, l3⟩; have F3 := hid f1; have L3 := hid l3; clear f1 l3)
          (try simp only [Exit.inBlock, Exit.then])
          exact bodyPost_ret (results_tmp2 rfl _ _ _) rfl ⟨B2.out.trans (L3.out.mono B2.out.size), .inr ⟨_, 122, n, rfl, F3.out, B2.out.size, HR.out, by decide⟩⟩
        · have hm1 : i = -1 := by
            rcases HIR.out with ⟨j, e, _⟩ | ⟨e, _⟩ <;> omega
          subst hm1
          have HR := hid (show Res T 0 0 by
            rcases HIR.out with ⟨j, e, _⟩ | ⟨e, h3⟩
            · omega
            · exact .inr (.inr ⟨HW.out.1, HW.out.2, .inr (.inr ⟨HOL.out.1, HOL.out.2, .inr ⟨fun j hj => h3 j (by rw [HL.out]; exact hj), rfl, rfl⟩⟩)⟩))
          have O3 := hid (show OwnI w2 w.heap.size (.slice va L vc) (nests T) from own_mono O2.out B1.out.size)
          clear hi
          go_wp2_with fail
          (try simp only [Exit.inBlock, Exit.then])
          exact bodyPost_ret (results_tmp2 rfl _ _ _) rfl ⟨B2.out, .inl ⟨_, rfl, O3.out, HR.out⟩⟩
/-- An answer's error: none, or the fault that the tree asks for. -/
def ErrR (T : List Pt) (B : Nat) (W : World) (ev : Value) : Prop := (ev = .nilIface ∧ Res T 0 0) ∨ ∃ (N c i : Nat), ev = fv N ∧ Flt W N c i ∧ B ≤ N ∧ Res T c i ∧ c ≠ 0
theorem ErrR.low {T : List Pt} {B B' : Nat} {W W' : World} {ev : Value} (h : ErrR T B W ev) (hb : Below W.heap.size W W') (hB : B' ≤ B) : ErrR T B' W' ev := by
  rcases h with h | ⟨N, c, i, h1, h2, h3, h4, h5⟩
  · exact .inl h
  · exact .inr ⟨N, c, i, h1, h2.low hb, by omega, h4, h5⟩
theorem checked_x (a : Option Addr) (T : List Pt) (cap : Nat) (w : World) (hT : PL w a T) (hG : GdT T) :
    Calls Tryz.prog 18 #[.agg #[.slice a T.length cap]] w fun e w' => ∃ va vn vc ev, e = .returned (.tuple #[.slice va vn vc, ev]) ∧ Below w.heap.size w w' ∧ ErrR T w.heap.size w' ev ∧ (ev = .nilIface → OwnI w' w.heap.size (.slice va vn vc) (nests T)) := by
  refine (checked_any a T cap w hT hG).mono ?_
  rintro e w' ⟨hb, ⟨v, rfl, ho, hr⟩ | ⟨N, c, i, rfl, hf, hN, hr, hc⟩⟩
  · obtain ⟨va, vc, rfl⟩ := own_form ho
    exact ⟨va, _, vc, _, rfl, hb, .inl ⟨rfl, hr⟩, fun _ => ho⟩
  · exact ⟨none, 0, 0, _, rfl, hb, .inr ⟨N, c, i, rfl, hf, hN, hr, hc⟩, fun h => by cases h⟩
set_option maxHeartbeats 4000000 in
set_option maxRecDepth 100000 in
theorem valid_any (a : Option Addr) (T : List Pt) (cap : Nat) (w : World) (hT : PL w a T) (hG : GdT T) :
    Calls Tryz.prog 8 #[.agg #[.slice a T.length cap]] w fun e w' => ∃ ev, e = .returned ev ∧ Below w.heap.size w w' ∧ ErrR T w.heap.size w' ev := by
  have HB0 := hid (belowA w (.cells #[.slice a T.length cap] 24))
  have HC := hid (checked_x a T cap (w.alloc (.cells #[.slice a T.length cap] 24)) (hT.low HB0.out) hG)
  generalize T.length = L at *
  clear hT
  go_enter Tryz.func8, Tryz.ntmps8
  go_wp2_with (go_at_call 18; refine HC.out.mono ?_; rintro e w1 ⟨va, vn, vc, ev, rfl, l1, hr, _⟩; have L1 := hid l1; have HR := hid hr; clear l1 hr)
  go_ret
  exact ⟨_, rfl, HB0.out.trans (L1.out.mono HB0.out.size), HR.out.low (Below.refl _ _) HB0.out.size⟩
set_option maxHeartbeats 4000000 in
set_option maxRecDepth 100000 in
theorem nest_any (a : Option Addr) (T : List Pt) (cap : Nat) (w : World) (hT : PL w a T) (hG : GdT T) :
    Calls Tryz.prog 14 #[.agg #[.slice a T.length cap]] w fun e w' => ∃ (m : Int) (ev : Value), e = .returned (.tuple #[.int .i64 m, ev]) ∧ Below w.heap.size w w' ∧ ErrR T w.heap.size w' ev ∧ ((ev ≠ .nilIface ∧ m = 0) ∨ (ev = .nilIface ∧ NestR T m)) := by
  have HB0 := hid (belowA w (.cells #[.slice a T.length cap] 24))
  have HC := hid (checked_x a T cap (w.alloc (.cells #[.slice a T.length cap] 24)) (hT.low HB0.out) hG)
  obtain ⟨L, hLe⟩ : ∃ L, L = T.length := ⟨_, rfl⟩
  have HL := hid hLe
  rw [← hLe] at HB0 HC ⊢
  clear hT hLe
  go_enter Tryz.func14, Tryz.ntmps14
  go_upto_region 2 with (go_at_call 18; refine HC.out.mono ?_; rintro e w1 ⟨va, vn, vc, ev, rfl, l1, hr, ho⟩; have L1 := hid l1; have HR := hid hr; have HO := hid ho; clear l1 hr ho)
  have B1 := hid (HB0.out.trans (L1.out.mono HB0.out.size))
  have HR1 := hid (HR.out.low (Below.refl _ _) HB0.out.size)
  rcases HR.out with ⟨rfl, hr0⟩ | ⟨N, c, i, rfl, _⟩
  · have O1 := hid (HO.out rfl)
    obtain ⟨h1, h2, ho, _⟩ := hr0.ok
    obtain ⟨hvn, hrd, _⟩ := own_rdI O1.out
    have HM := max_any va (nests T) vc w1 hrd (by rw [nests_len]; exact h2) (by rw [nests_len]; exact h1)
    rw [← hvn] at HM
    have HM2 := hid HM
    have HVN := hid hvn
    clear HM hrd h1 h2 hr0 ho hvn
    go_wp2_with (go_at_call 25; refine HM2.out.mono ?_; rintro e w2 ⟨v, rfl, hww, hmx⟩; have hw2 := hww.symm; clear hww; subst hw2; have HMX := hid hmx; clear hmx)
    (try simp only [Exit.inBlock, Exit.then])
    refine bodyPost_ret (results_tmp2 rfl _ _ _) rfl ⟨v, .nilIface, rfl, B1.out, HR1.out, .inr ⟨rfl, ?_, ?_⟩⟩
    · intro j hj
      exact HMX.out.1 j (by rw [HVN.out, nests_len]; exact hj)
    · obtain ⟨j, hj, e⟩ := HMX.out.2
      exact ⟨j, by rw [HVN.out, nests_len] at hj; exact hj, e⟩
  · unfold fv at HR1 ⊢
    go_wp2_with fail
    (try simp only [Exit.inBlock, Exit.then])
    exact bodyPost_ret (results_tmp2 rfl _ _ _) rfl ⟨0, _, rfl, B1.out, HR1.out, .inl ⟨(fun h => by cases h), rfl⟩⟩
end Go.Proofs.YtlhlpamciafocaaGreatDoor.L.Sw
