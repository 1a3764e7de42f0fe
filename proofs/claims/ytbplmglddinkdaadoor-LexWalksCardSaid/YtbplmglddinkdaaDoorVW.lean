import Derived.Test.YtbplmglddinkdaaDoorVI
import Derived.Test.YtbplmglddinkdaaDoorQR
namespace Go.Proofs.YtbplmglddinkdaaDoor.L
open Go.RowKit Go.Shelf
set_option linter.unusedVariables false
attribute [local go_sem] Oper.semAt_some
set_option maxHeartbeats 16000000 in
set_option maxRecDepth 100000 in
theorem walks_any (s : ByteArray) (E : Int) (w : World) (hvar : Vars w) (hE : -9223372036854775808 ≤ E ∧ E ≤ 9223372036854775807) : Calls Tryd.prog 4 #[.string s, .int .i64 E] w fun e w' => e = .returned (.bool true) ∧ Below w.heap.size w w' := by
  have HF := hid (fun W hv => fixed_any W hv)
  have HP := hid (fun W => prefix_any s W)
  have HEA := hid (fun W => each_any s W)
  have HV := hid hvar
  refine (callsIn_wide (n := 4)).1 ?_
  refine callsIn_of_wp_marks Tryd.func4 rfl trivial ?_ rfl
  simp only [Tryd.ntmps4, List.size_toArray, List.length_cons, List.length_nil, Nat.reduceAdd, Nat.reduceSub, Array.replicate_succ, Array.replicate_zero, List.push_toArray, List.append_toArray, List.nil_append, List.cons_append]
  have b0 := belowA w (.cells #[.int .i64 E] 3)
  have b1 := belowA (w.alloc (.cells #[.int .i64 E] 3)) (.cells #[.bool false] 4)
  have hz1 : ((w.alloc (.cells #[.int .i64 E] 3)).alloc (.cells #[.bool false] 4)).heap.size = w.heap.size + 1 + 1 := by simp
  have B1 := hid (b0.trans (b1.mono (by simp)))
  have X3 := hid (boxed_low (Boxed.new w 3 (.int .i64 E)) b1)
  have X4 := hid (show Boxed ((w.alloc (.cells #[.int .i64 E] 3)).alloc (.cells #[.bool false] 4)) (w.heap.size + 1) 4 (.bool false) by have := Boxed.new (w.alloc (.cells #[.int .i64 E] 3)) 4 (.bool false); simpa using this)
  have HV1 := hid (HV.out.low B1.out)
  clear b0 b1 hvar
  have QF := run_eql_func_nil
  have RS := run_store_fn Tryd.prog
  unfold eachB at HEA
  gi_wp2_with (first
    | (refine ⟨trivial, ?_⟩; gi_at_call 8; refine (callsIn_wide.2 (HF.out _ HV1.out)).mono ?_; rintro e w2 ⟨rfl, l2⟩; have L2 := hid l2; clear l2)
    | (refine ⟨trivial, ?_⟩; gi_at_call 13; refine (callsIn_wide.2 (HP.out _)).mono ?_; rintro e w3 ⟨l3, vw, rfl, o3⟩; obtain ⟨wa, wc, rfl⟩ := ownt_form o3; have L3 := hid l3; have O3 := hid o3; clear l3 o3)
    | (refine ⟨trivial, ?_⟩; gi_at_call 14; refine (callsIn_wide.2 (HEA.out _)).mono ?_; rintro e w4 ⟨rfl, hx, l4⟩; have L4 := hid l4; have HX := hid hx; clear l4 hx))
  obtain ⟨Y, hY⟩ : ∃ Y, Y = ((w3.alloc (.cells #[.slice wa (scanT s).1.length wc] 24)).alloc (.cells #[.int .i64 ((ca (scanT s).2).1 : Nat)] 3)).alloc (.cells #[.int .i64 ((ca (scanT s).2).2 : Nat)] 3) := ⟨_, rfl⟩
  have hz3 : Y.heap.size = w3.heap.size + 1 + 1 + 1 := by rw [hY]; simp
  have bY : Below w3.heap.size w3 Y := by
    rw [hY]
    exact ((belowA w3 _).alloc (by simp) _).alloc (by simp; omega) _
  have x5 : Boxed Y w3.heap.size 24 (.slice wa (scanT s).1.length wc) := by
    rw [hY]
    exact ((Boxed.new w3 _ _).alloc _).alloc _
  have x6 : Boxed Y (w3.heap.size + 1) 3 (.int .i64 ((ca (scanT s).2).1 : Nat)) := by
    rw [hY]
    refine Boxed.alloc ?_ _
    have := Boxed.new (w3.alloc (.cells #[.slice wa (scanT s).1.length wc] 24)) 3 (.int .i64 ((ca (scanT s).2).1 : Nat))
    simpa using this
  have x7 : Boxed Y (w3.heap.size + 1 + 1) 3 (.int .i64 ((ca (scanT s).2).2 : Nat)) := by
    rw [hY]
    have := Boxed.new ((w3.alloc (.cells #[.slice wa (scanT s).1.length wc] 24)).alloc (.cells #[.int .i64 ((ca (scanT s).2).1 : Nat)] 3)) 3 (.int .i64 ((ca (scanT s).2).2 : Nat))
    simpa using this
  have L4' := L4.out
  have HX' := HX.out
  rw [← hY] at L4' HX'
  rw [hz3] at HX'
  have l2 := L2.out
  have S0 : St (w4.alloc (.cells #[eachB (w3.heap.size + 1 + 1 + 1)] 35)) w.heap.size (w.heap.size + 1) w3.heap.size (w3.heap.size + 1) (w3.heap.size + 1 + 1) w4.heap.size (w3.heap.size + 1 + 1 + 1) E (.slice wa (scanT s).1.length wc) (ca (scanT s).2).1 (ca (scanT s).2).2 (scanT s).1 s :=
    ⟨((boxed_low (boxed_low (boxed_low (boxed_low X3.out l2) L3.out) bY) L4')).alloc _, ((boxed_low (boxed_low (boxed_low (boxed_low X4.out l2) L3.out) bY) L4')).alloc _, (boxed_low x5 L4').alloc _, (boxed_low x6 L4').alloc _, (boxed_low x7 L4').alloc _, Boxed.new w4 _ _,
      (Below.heap_alloc _ _ _ (lt_blk HX')).trans HX', ((O3.out.lst.low bY).low L4').low (belowA w4 _), ((((HV1.out.low l2).low L3.out).low bY).low L4').low (belowA w4 _)⟩
  have BW := hid (show Below w.heap.size w (w4.alloc (.cells #[eachB (w3.heap.size + 1 + 1 + 1)] 35)) from by
    have q1 := l2.size
    have q2 := L3.out.size
    have q3 := bY.size
    have q4 := L4'.size
    rw [hz1] at q1
    exact ((((B1.out.trans (l2.mono (by rw [hz1]; omega))).trans (L3.out.mono (by omega))).trans (bY.mono (by omega))).trans (L4'.mono (by omega))).trans ((belowA w4 _).mono (by omega)))
  have hzW : (w4.alloc (.cells #[eachB (w3.heap.size + 1 + 1 + 1)] 35)).heap.size = w4.heap.size + 1 := by simp
  have HS := hid S0
  have hb9 := Boxed.new (w4.alloc (.cells #[eachB (w3.heap.size + 1 + 1 + 1)] 35)) 3 (.int .i64 0)
  have bW9 := belowA (w4.alloc (.cells #[eachB (w3.heap.size + 1 + 1 + 1)] 35)) (.cells #[.int .i64 0] 3)
  rw [hzW] at hb9
  unfold eachB at HS hb9 bW9 BW hzW
  have hTL := scanT_len s
  have HCODE := hid (fun c a (h : (scanT s).2 = some (c, a)) => scanT_code s h)
  clear S0 x5 x6 x7 bY L4' HX' l2 hY X3 X4 B1 L2 L3 L4 O3 HX HV1 hz3 hz1 HF HP HEA
  obtain ⟨n, hn⟩ : ∃ n, n = (scanT s).1.length := ⟨_, rfl⟩
  obtain ⟨c0, hc0⟩ : ∃ c0, c0 = (ca (scanT s).2).1 := ⟨_, rfl⟩
  obtain ⟨a0, ha0⟩ : ∃ a0, a0 = (ca (scanT s).2).2 := ⟨_, rfl⟩
  rw [← hn, ← hc0, ← ha0] at HS
  rw [← hn] at hTL
  rw [← hn, ← hc0, ← ha0]
  have HN := hid hn
  have HC0 := hid hc0
  have HA0 := hid ha0
  clear hn hc0 ha0
  generalize w4.alloc (.cells #[.func (.func 22) #[] #[.pointer (some ⟨w3.heap.size + 1 + 1 + 1, 0, none⟩)]] 35) = WS at *
  have hb34 : w.heap.size ≤ w.heap.size + 1 := by omega
  generalize w.heap.size + 1 = b4 at *
  generalize hb3e : w.heap.size = b3 at *
  have HB3 := hid hb3e
  clear hb3e
  generalize w3.heap.size + 1 + 1 + 1 = X at *
  generalize w3.heap.size + 1 + 1 = b7 at *
  generalize w3.heap.size + 1 = b6 at *
  generalize w3.heap.size = b5 at *
  generalize hb9e : w4.heap.size + 1 = b9 at *
  generalize w4.heap.size = b8 at *
  refine loop3 (fun r a W => ∃ (b9 : Nat) (Dl : List Nat) (u : Nat → Value), a = { tmps := #[.string s, .int .i64 E, undef, .pointer (some ⟨b3, 0, none⟩), .pointer (some ⟨b4, 0, none⟩), .pointer (some ⟨b5, 0, none⟩), .pointer (some ⟨b6, 0, none⟩), .pointer (some ⟨b7, 0, none⟩), .pointer (some ⟨b8, 0, none⟩), .pointer (some ⟨b9, 0, none⟩), u 10, u 11, u 12, u 13, undef, undef, undef, undef, undef, undef, .bool true, .bool false, .tuple #[.slice wa n wc, .int .i64 (c0 : Nat), .int .i64 (a0 : Nat)], .string s, .tuple #[.slice wa n wc, .int .i64 (c0 : Nat), .int .i64 (a0 : Nat)], .slice wa n wc, .int .i64 (c0 : Nat), .int .i64 (a0 : Nat), .string s, .func (.func 22) #[] #[.pointer (some ⟨X, 0, none⟩)], .func (.func 22) #[] #[.pointer (some ⟨X, 0, none⟩)], .bool false, u 32, u 33, u 34, u 35, u 36, u 37, u 38, u 39, u 40, u 41, u 42, u 43, u 44, u 45, u 46, u 47, u 48, u 49, u 50, u 51, u 52, u 53, u 54, u 55, u 56, u 57, u 58, u 59, u 60, u 61, u 62, u 63, u 64, u 65, u 66, u 67, u 68, u 69, u 70, u 71, u 72, u 73, u 74, u 75, u 76, u 77, u 78, u 79, u 80, u 81, u 82, u 83, u 84, u 85, u 86, u 87, u 88, u 89, u 90, u 91, u 92, u 93, u 94, u 95, u 96, u 97, undef, undef, undef, undef, undef, undef, undef, undef, undef, undef, undef, undef, undef, undef, undef, undef, undef, undef, undef, undef, undef, undef, undef, undef, undef, undef, undef, undef, undef, undef, undef, undef, undef, undef, undef, undef, undef, undef, undef, undef, undef, undef, undef, undef, undef, undef, undef, undef, undef, undef, undef, undef, undef, undef, undef, undef, undef, undef, undef, undef, undef, undef, undef, undef, undef, undef, undef, undef, undef, undef, undef, undef, undef, undef, undef, undef, undef, undef, undef, undef, undef, undef, undef, undef, undef, undef, undef, undef, undef, undef, undef, undef, undef], defers := Ds Dl } ∧ (Bk WS W r b9 Dl ∧ Dl.Nodup)) ?_ ?_ ?_
  · exact ⟨b9, [], fun _ => undef, rfl, ⟨bW9, hb9, by rw [hzW]; exact Nat.le_refl _, fun D hD => by cases hD⟩, List.nodup_nil⟩
  · rintro r a W hr ⟨b9, Dl, u, rfl, BK, ND⟩
    have hbr := BK.rnd.cell
    have hbw := (boxed_low HS.out.walk BK.low).cell
    unfold eachB at hbw
    have l8 := (boxed_low HS.out.walk BK.low).lt
    have l9 := BK.rnd.lt
    have g1 : (r : Int) < 3 := by omega
    have HBK := hid BK
    have HND := hid ND
    clear BK ND
    gi_wp2
    obtain ⟨W1, hW1⟩ : ∃ W1, W1 = (W.alloc (.cells #[.int .i64 0] 3)).alloc (.cells #[.bool false] 4) := ⟨_, rfl⟩
    have bW1 : Below W.heap.size W W1 := by rw [hW1]; exact (belowA W _).alloc (by simp) _
    have hz1 : W1.heap.size = W.heap.size + 2 := by rw [hW1]; simp
    have I0 : Ic WS W1 W1 r b9 Dl W.heap.size (W.heap.size + 1) 0 false := by
      refine ⟨⟨HBK.out.low.trans (bW1.mono HBK.out.low.size), boxed_low HBK.out.rnd bW1, HBK.out.hb9, fun D hD => ⟨(HBK.out.dl D hD).1, (bW1.block D (lt_blk (HBK.out.dl D hD).2)).trans (HBK.out.dl D hD).2⟩⟩, ?_, ?_, Nat.le_refl _⟩
      · rw [hW1]
        exact (Boxed.new W _ _).alloc _
      · rw [hW1]
        have := Boxed.new (W.alloc (.cells #[.int .i64 0] 3)) 4 (.bool false)
        simpa using this
    have hsw := HBK.out.low.size
    rw [← hW1]
    clear hW1
    refine eachO (n := 4) (by decide) X s (.exit 2) (.exit 2) (.inr ⟨2, rfl, rfl⟩) (by first | rfl | simp [eachB]) rfl (((HBK.out.low.trans (bW1.mono hsw)).block X (lt_blk HS.out.src)).trans HS.out.src)
      (fun pre W' => Ic WS W1 W' r b9 Dl W.heap.size (W.heap.size + 1) pre.length (dnB s n pre.length))
      (Ict WS W1 r b9 Dl W.heap.size (W.heap.size + 1))
      (Stp WS W1 r b9 Dl W.heap.size (W.heap.size + 1))
      (fun pre W' h => HS.out.vars.low h.bk.low) (fun W' h => ?_) (fun pre W' l q q' h hl hq => h.put (by omega) hq) (fun W' l q q' ⟨k, h⟩ hl hq => ⟨k, h.put (by omega) hq⟩) (fun W' l q q' ⟨h1, k, dn, h⟩ hl hq => ⟨h1, k, dn, h.put (by omega) hq⟩)
      (fun t v a' W' => ∃ Bx b10 b11, b10 = W.heap.size ∧ b11 = W.heap.size + 1 ∧ W'.heap[Bx]? = some (.cells #[.int .i64 t.kind, .string t.text, .int .i64 t.num, .int .i64 t.a, .int .i64 t.e] 39 (0, 0)) ∧ a' = { tmps := #[.string s, .int .i64 E, undef, .pointer (some ⟨b3, 0, none⟩), .pointer (some ⟨b4, 0, none⟩), .pointer (some ⟨b5, 0, none⟩), .pointer (some ⟨b6, 0, none⟩), .pointer (some ⟨b7, 0, none⟩), .pointer (some ⟨b8, 0, none⟩), .pointer (some ⟨b9, 0, none⟩), .pointer (some ⟨b10, 0, none⟩), .pointer (some ⟨b11, 0, none⟩), .pointer (some ⟨Bx, 0, none⟩), v, undef, undef, undef, undef, undef, undef, .bool true, .bool false, .tuple #[.slice wa n wc, .int .i64 (c0 : Nat), .int .i64 (a0 : Nat)], .string s, .tuple #[.slice wa n wc, .int .i64 (c0 : Nat), .int .i64 (a0 : Nat)], .slice wa n wc, .int .i64 (c0 : Nat), .int .i64 (a0 : Nat), .string s, .func (.func 22) #[] #[.pointer (some ⟨X, 0, none⟩)], .func (.func 22) #[] #[.pointer (some ⟨X, 0, none⟩)], .bool false, .int .i64 (r : Nat), .bool true, u 34, u 35, .func (.func 22) #[] #[.pointer (some ⟨X, 0, none⟩)], tv t, v, u 39, u 40, u 41, u 42, u 43, u 44, u 45, u 46, u 47, u 48, u 49, u 50, u 51, u 52, u 53, u 54, u 55, u 56, u 57, u 58, u 59, u 60, u 61, u 62, u 63, u 64, u 65, u 66, u 67, u 68, u 69, u 70, u 71, u 72, u 73, u 74, u 75, u 76, u 77, u 78, u 79, u 80, u 81, u 82, u 83, u 84, u 85, u 86, u 87, u 88, u 89, u 90, u 91, u 92, u 93, u 94, u 95, u 96, u 97, undef, undef, undef, undef, undef, undef, undef, undef, undef, undef, undef, undef, undef, undef, undef, undef, undef, undef, undef, undef, undef, undef, undef, undef, undef, undef, undef, undef, undef, undef, undef, undef, undef, undef, undef, undef, undef, undef, undef, undef, undef, undef, undef, undef, undef, undef, undef, undef, undef, undef, undef, undef, undef, undef, undef, undef, undef, undef, undef, undef, undef, undef, undef, undef, undef, undef, undef, undef, undef, undef, undef, undef, undef, undef, undef, undef, undef, undef, undef, undef, undef, undef, undef, undef, undef, undef, undef, undef, undef, undef, undef, undef, undef], defers := [] })
      ?hA ?assign ?body ?fault ?done ?donef ?stop
    · have e0 : dnB s n ([] : List Tok).length = false := dnB_zero HN.out
      rw [e0]
      exact I0.low h
    case hA =>
      rintro t v a' W' l q q' ⟨Bx, b10, b11, e1, e2, h1, h2⟩ h3
      exact ⟨Bx, b10, b11, e1, e2, (World.putObj_heap_other (by intro e; rw [e, h3] at h1; cases h1)).trans h1, h2⟩
    case assign =>
      rintro m l t v W' K hz hK
      have HK := hid hK
      clear hK
      simp only [tv]
      gi_wp2
      exact HK.out _ _ ⟨W'.heap.size, _, _, rfl, rfl, heap_alloc_new W' _, rfl⟩ (belowA W' _)
    case body =>
      rintro m l pre t a' W0 W' ⟨Bx, b10, b11, e10, e11, hbx, rfl⟩ hl hlr hlk hi hpre
      have I := hi.lk hlk (by omega) hlr
      have hlen : pre.length + 1 ≤ n := by
        have := hpre.length_le
        rw [List.length_append] at this
        rw [HN.out]
        exact this
      have hdn : dnB s n pre.length = false := by
        unfold dnB
        simp only [decide_eq_false_iff_not]
        rintro ⟨_, h⟩
        omega
      rw [hdn, ← e11, ← e10] at I
      have htk : tk (scanT s).1 pre.length = t := by
        obtain ⟨z, hz⟩ := hpre
        unfold tk
        rw [← hz, List.getD_eq_getElem?_getD, List.getElem?_append_left (by simp), List.getElem?_append_right (Nat.le_refl _), Nat.sub_self]
        rfl
      have S := HS.out.low I.bk.low
      obtain ⟨wa', wc', ew, hws⟩ := S.lst
      rw [← HN.out] at ew hws
      cases ew
      rcases hws with h0 | ⟨wb, rfl, hwb, hwc⟩
      · omega
      have hcs := hwc pre.length (by omega)
      rw [htk] at hcs
      obtain ⟨p0, p1, p2, p3, p4⟩ := hcs
      have ⟨q0, q1, q2, q3, q4⟩ := tcells hbx
      have ck := I.kb.cell
      have fk := I.kb.frozen
      have cd := I.db.cell
      have fd := I.db.frozen
      have c5 := S.want.cell
      have c6 := S.e.cell
      have c3 := S.early.cell
      have c9 := I.bk.rnd.cell
      have l3 := HS.out.early.lt
      have l5 := HS.out.want.lt
      have l6 := HS.out.e.lt
      have hb9 := I.bk.hb9
      have h9 : b9 < b10 := by omega
      have hlenp : (pre ++ [t]).length = pre.length + 1 := by simp
      have HII := hid I
      have HE10 := hid e10
      have HE11 := hid e11
      have HZ0 := hid (show W1.heap.size ≤ W0.heap.size from hi.sz)
      have h11 : b10 < b11 := by omega
      have l9W := l9
      clear hwc htk hlr hlk hi I S hdn e10 e11
      obtain ⟨xk, xt, xn, xa, xe⟩ := t
      simp only at p0 p1 p2 p3 p4 q0 q1 q2 q3 q4
      generalize pre.length = k at *
      have g1 : (k : Int) < n := by omega
      have g2 : (0 : Int) ≤ (k : Int) := by omega
      have g3 : ¬ (n : Int) ≤ k := by omega
      have n5 : (b5 = b10) = False := by simp; omega
      have n6 : (b6 = b10) = False := by simp; omega
      have n3 : (b3 = b10) = False := by simp; omega
      have n9 : (b9 = b10) = False := by simp; omega
      have n11 : (b11 = b10) = False := by simp; omega
      have hcc : (c0 = 0 ∧ (scanT s).2 = none) ∨ (((c0 : Int) == 0) = false ∧ (scanT s).2 ≠ none) := by
        rw [HC0.out]
        cases hf : (scanT s).2 with
        | none => exact .inl ⟨rfl, rfl⟩
        | some p =>
          obtain ⟨c, a⟩ := p
          have := HCODE.out c a hf
          refine .inr ⟨?_, by simp⟩
          show ((c : Int) == 0) = false
          simp
          omega
      have HCC := hid hcc
      clear hcc
      gi_wp2
      have d1 : decide ((n : Int) ≤ (k : Int)) = false := by simp; omega
      have d2 : decide (n ≤ k) = false := by simp; omega
      have d3 : (n ≤ k) = False := by simp; omega
      refine quiet_round rfl (by kernel_rfl) (by kernel_rfl) (by kernel_rfl) ?_
      repeat (gi_big_quiet_step (fail))
      refine wpQuietIn_nil ?_
      rintro _ ⟨nq, rfl⟩
      clear d1 d2 d3
      rename_i hK20
      refine hK20 _ _ ?_
      clear hK20
      rcases HCC.out with ⟨hc, hf⟩ | ⟨hc, hf⟩
      · have HF := hid hf
        clear hf
        gi_wp2
        all_goals
          have I2 := HII.out.low (below_drewN (Below.refl _ W') nq)
          have I3 := I2.set2 (k' := k + 1) (dn' := dnB s n (k + 1)) h9 h11
          rw [dnB_none HF.out] at I3
          have e10 := HE10.out
          have e11 := HE11.out
          have KB := fun x y => kb_two (W := W') (q := nq) (b10 := b10) (b11 := b11) (base := W1.heap.size) (B := W0.heap.size) x y (by omega) (by omega) HZ0.out
          rw [hz1] at KB
          refine ⟨(KB _ _).1, (KB _ _).2, ?_⟩
          rw [← e11, ← e10]
          first
            | (refine ⟨by omega, k + 1, _, I3⟩; done)
            | (rw [dnB_none HF.out]; exact I3)
      · have HF := hid hf
        clear hf
        gi_wp2
        all_goals
          have I2 := HII.out.low (below_drewN (Below.refl _ W') nq)
          have I3 := I2.set2 (k' := k + 1) (dn' := dnB s n (k + 1)) h9 h11
          rw [dnB_some HF.out] at I3
          have e10 := HE10.out
          have e11 := HE11.out
          have KB := fun x y => kb_two (W := W') (q := nq) (b10 := b10) (b11 := b11) (base := W1.heap.size) (B := W0.heap.size) x y (by omega) (by omega) HZ0.out
          rw [hz1] at KB
          refine ⟨(KB _ _).1, (KB _ _).2, ?_⟩
          rw [← e11, ← e10]
          first
            | (refine ⟨by omega, k + 1, _, I3⟩; done)
            | (rw [dnB_some HF.out]; exact I3)
    case fault =>
      rintro m l N c p a' W0 W' ⟨Bx, b10, b11, e10, e11, hbx, rfl⟩ hl hlr hlk hi hf hflt hN
      have I := hi.lk hlk (by omega) hlr
      have hdn : dnB s n (scanT s).1.length = false := dnB_some (by rw [hf]; simp)
      rw [hdn, ← e11, ← e10, ← HN.out] at I
      have S := HS.out.low I.bk.low
      have hc0 : c0 = c := by rw [HC0.out, hf]; rfl
      have ha0 : a0 = p := by rw [HA0.out, hf]; rfl
      have hcn := HCODE.out c p hf
      subst hc0 ha0
      have ⟨q0, q1, q2, q3, q4⟩ := tcells hbx
      have ck := I.kb.cell
      have fk := I.kb.frozen
      have cd := I.db.cell
      have fd := I.db.frozen
      have c5 := S.want.cell
      have c6 := S.e.cell
      have c7 := S.at_.cell
      have c3 := S.early.cell
      have c9 := I.bk.rnd.cell
      have l3 := HS.out.early.lt
      have l5 := HS.out.want.lt
      have l6 := HS.out.e.lt
      have hb9 := I.bk.hb9
      have h9 : b9 < b10 := by omega
      have h11 : b10 < b11 := by omega
      have HII := hid I
      have HE10 := hid e10
      have HE11 := hid e11
      have HZ0 := hid (show W1.heap.size ≤ W0.heap.size from hi.sz)
      have IF := hid (fun W (h : Flt W N c0 a0) => isfault_yes N c0 a0 W h hcn)
      have HFL := hid hflt
      clear hflt hi hlk hlr I S e10 e11 hdn hf
      have x0 : ((c0 : Int) == 0) = false := by simp; exact hcn
      have x1 : ((n : Int) != (n : Int)) = false := by simp
      unfold fv at IF
      simp only [fv]
      simp only [tok0] at q0 q1 q2 q3 q4
      gi_wp2_with (refine ⟨trivial, (by intro h; exact absurd h (by decide)), ?_⟩; gi_at_call 12; refine CallsIn.mono (CallsIn.inRound l (callsIn_wide.2 (IF.out _ HFL.out))) ?_; rintro e w6 ⟨rfl, hww⟩; have hw2 := hww.symm; clear hww; subst hw2)
      all_goals
        have I3 := HII.out.set1 (dn' := true) h9 h11
        have e10 := HE10.out
        have e11 := HE11.out
        refine ⟨kb_one _ (by omega), ?_⟩
        rw [← e11, ← e10]
        first
          | (refine ⟨by omega, n, _, I3⟩; done)
          | exact ⟨n, I3⟩
    case done =>
      intro D W2 hD hi hf hdf
      have hdn : dnB s n (scanT s).1.length = true := by
        unfold dnB
        simp [hf, HN.out]
      rw [hdn] at hi
      clear hf hdn
      have c9 := hi.bk.rnd.cell
      have f9 := hi.bk.rnd.frozen
      have cd := hi.db.cell
      have HI := hid hi
      have HD := hid hdf
      clear hi hdf
      gi_wp2
      all_goals
        refine ⟨W2.heap.size, D :: Dl, ex_u rfl ⟨?_, List.nodup_cons.2 ⟨fun hm => by have := lt_blk (HBK.out.dl D hm).2; omega, HND.out⟩⟩⟩
        exact HI.out.next (by omega) HD.out (by omega)
    case donef =>
      rintro D W2 hD ⟨k, hi⟩ hdf
      have c9 := hi.bk.rnd.cell
      have f9 := hi.bk.rnd.frozen
      have cd := hi.db.cell
      have HI := hid hi
      have HD := hid hdf
      clear hi hdf
      gi_wp2
      all_goals
        refine ⟨W2.heap.size, D :: Dl, ex_u rfl ⟨?_, List.nodup_cons.2 ⟨fun hm => by have := lt_blk (HBK.out.dl D hm).2; omega, HND.out⟩⟩⟩
        exact HI.out.next (by omega) HD.out (by omega)
    case stop =>
      rintro D W2 hD ⟨hr1, k, dn, hi⟩ hdf
      subst hr1
      have c9 := hi.bk.rnd.cell
      have f9 := hi.bk.rnd.frozen
      have cd := hi.db.cell
      have HI := hid hi
      have HD := hid hdf
      clear hi hdf
      gi_wp2
      all_goals
        refine ⟨W2.heap.size, D :: Dl, ex_u rfl ⟨?_, List.nodup_cons.2 ⟨fun hm => by have := lt_blk (HBK.out.dl D hm).2; omega, HND.out⟩⟩⟩
        exact HI.out.next (by omega) HD.out (by omega)
  · rintro a W ⟨b9, Dl, u, rfl, BK, ND⟩
    have hbr := BK.rnd.cell
    have hbw := (boxed_low HS.out.walk BK.low).cell
    unfold eachB at hbw
    have l8 := (boxed_low HS.out.walk BK.low).lt
    have l9 := BK.rnd.lt
    have HBK := hid BK
    have HND := hid ND
    clear BK ND
    gi_wp2
    have J0 : Bk WS (W.alloc (.cells #[.int .i64 0] 3)) 0 W.heap.size Dl := by
      have hb := belowA W (.cells #[.int .i64 0] 3)
      have h := HBK.out.keep hb
      exact ⟨h.low, Boxed.new W 3 _, HBK.out.low.size, h.dl⟩
    have hsw := HBK.out.low.size
    have hz1 : (W.alloc (.cells #[.int .i64 0] 3)).heap.size = W.heap.size + 1 := by simp
    generalize W.alloc (.cells #[.int .i64 0] 3) = W1 at *
    refine eachP (n := 4) (by decide) X s .ret .ret (.inl ⟨rfl, rfl⟩) (by first | rfl | simp [eachB]) rfl ((J0.low.block X (lt_blk HS.out.src)).trans HS.out.src)
      (fun pre W' => Jw WS W1 W.heap.size Dl pre.length W')
      (fun W' => Jw WS W1 W.heap.size Dl (n + 1) W' ∧ c0 ≠ 0)
      (fun _ => False)
      (fun pre W' h => HS.out.vars.low h.1.low) (fun W' h => ⟨J0.keep h, h.size⟩) (fun pre W' l q q' h hl hq => ⟨h.1.put (by omega) hq, by rw [World.putObj_size]; exact h.2⟩) (fun W' l q q' h hl hq => ⟨⟨h.1.1.put (by omega) hq, by rw [World.putObj_size]; exact h.1.2⟩, h.2⟩) (fun W' l q q' h hl hq => h)
      (fun t v a' W' => ∃ Bx b14, b14 = W.heap.size ∧ W'.heap[Bx]? = some (.cells #[.int .i64 t.kind, .string t.text, .int .i64 t.num, .int .i64 t.a, .int .i64 t.e] 39 (0, 0)) ∧ a' = { tmps := #[.string s, .int .i64 E, undef, .pointer (some ⟨b3, 0, none⟩), .pointer (some ⟨b4, 0, none⟩), .pointer (some ⟨b5, 0, none⟩), .pointer (some ⟨b6, 0, none⟩), .pointer (some ⟨b7, 0, none⟩), .pointer (some ⟨b8, 0, none⟩), .pointer (some ⟨b9, 0, none⟩), u 10, u 11, u 12, u 13, .pointer (some ⟨b14, 0, none⟩), .pointer (some ⟨Bx, 0, none⟩), v, undef, undef, undef, .bool true, .bool false, .tuple #[.slice wa n wc, .int .i64 (c0 : Nat), .int .i64 (a0 : Nat)], .string s, .tuple #[.slice wa n wc, .int .i64 (c0 : Nat), .int .i64 (a0 : Nat)], .slice wa n wc, .int .i64 (c0 : Nat), .int .i64 (a0 : Nat), .string s, .func (.func 22) #[] #[.pointer (some ⟨X, 0, none⟩)], .func (.func 22) #[] #[.pointer (some ⟨X, 0, none⟩)], .bool false, .int .i64 3, .bool false, u 34, u 35, u 36, u 37, u 38, u 39, u 40, u 41, u 42, u 43, u 44, u 45, u 46, u 47, u 48, u 49, u 50, u 51, u 52, u 53, u 54, u 55, u 56, u 57, u 58, u 59, u 60, u 61, u 62, u 63, u 64, u 65, u 66, u 67, u 68, u 69, u 70, u 71, u 72, u 73, u 74, u 75, u 76, u 77, u 78, u 79, u 80, u 81, u 82, u 83, u 84, u 85, u 86, u 87, u 88, u 89, u 90, u 91, u 92, u 93, u 94, u 95, u 96, u 97, .func (.func 22) #[] #[.pointer (some ⟨X, 0, none⟩)], tv t, v, undef, undef, undef, undef, undef, undef, undef, undef, undef, undef, undef, undef, undef, undef, undef, undef, undef, undef, undef, undef, undef, undef, undef, undef, undef, undef, undef, undef, undef, undef, undef, undef, undef, undef, undef, undef, undef, undef, undef, undef, undef, undef, undef, undef, undef, undef, undef, undef, undef, undef, undef, undef, undef, undef, undef, undef, undef, undef, undef, undef, undef, undef, undef, undef, undef, undef, undef, undef, undef, undef, undef, undef, undef, undef, undef, undef, undef, undef, undef, undef, undef, undef, undef, undef, undef, undef, undef, undef, undef, undef], defers := [] })
      ?hA ?assign ?body ?fault ?done ?donef ?stop
    case hA =>
      rintro t v a' W' l q q' ⟨Bx, b14, e1, h1, h2⟩ h3
      exact ⟨Bx, b14, e1, (World.putObj_heap_other (by intro e; rw [e, h3] at h1; cases h1)).trans h1, h2⟩
    case assign =>
      rintro m l t v W' K hz hK
      have HK := hid hK
      clear hK
      simp only [tv]
      gi_wp2
      exact HK.out _ _ ⟨W'.heap.size, _, rfl, heap_alloc_new W' _, rfl⟩ (belowA W' _)
    case body =>
      rintro m l pre t a' W0 W' ⟨Bx, b14, e14, hbx, rfl⟩ hl hlr hrec hlk hi hpre
      have I := hi.1.lk hlk (by omega) hlr
      have hlen : pre.length + 1 ≤ n := by
        have := hpre.length_le
        rw [List.length_append] at this
        rw [HN.out]
        exact this
      rw [← e14] at I
      have htk : tk (scanT s).1 pre.length = t := by
        obtain ⟨z, hz⟩ := hpre
        unfold tk
        rw [← hz, List.getD_eq_getElem?_getD, List.getElem?_append_left (by simp), List.getElem?_append_right (Nat.le_refl _), Nat.sub_self]
        rfl
      have S := HS.out.low I.low
      obtain ⟨wa', wc', ew, hws⟩ := S.lst
      rw [← HN.out] at ew hws
      cases ew
      rcases hws with h0 | ⟨wb, rfl, hwb, hwc⟩
      · omega
      have hcs := hwc pre.length (by omega)
      rw [htk] at hcs
      obtain ⟨p0, p1, p2, p3, p4⟩ := hcs
      have ⟨q0, q1, q2, q3, q4⟩ := tcells hbx
      have ck := I.rnd.cell
      have fk := I.rnd.frozen
      have c5 := S.want.cell
      have c8 := S.walk.cell
      unfold eachB at c8
      have l5 := HS.out.want.lt
      have hlenp : (pre ++ [t]).length = pre.length + 1 := by simp
      have HII := hid I
      have HE14 := hid e14
      have HZ0 := hid (show W1.heap.size ≤ W0.heap.size from hi.2)
      have HWC := hid hwc
      have HL := hid hrec
      clear hwc htk hlr hlk hi I S e14 hrec
      obtain ⟨xk, xt, xn, xa, xe⟩ := t
      simp only at p0 p1 p2 p3 p4 q0 q1 q2 q3 q4
      generalize pre.length = k at *
      have g1 : (k : Int) < n := by omega
      have g2 : (0 : Int) ≤ (k : Int) := by omega
      gi_wp2
      have d1 : decide ((n : Int) ≤ (k : Int)) = false := by simp; omega
      have d2 : decide (n ≤ k) = false := by simp; omega
      have d3 : (n ≤ k) = False := by simp; omega
      refine quiet_round rfl (by kernel_rfl) (by kernel_rfl) (by kernel_rfl) ?_
      repeat (gi_big_quiet_step (fail))
      refine wpQuietIn_nil ?_
      rintro _ ⟨nq, rfl⟩
      clear d1 d2 d3
      rename_i hK33
      refine hK33 _ _ ?_
      clear hK33
      have I4 := HII.out.keep (below_drewN (Below.refl _ W') nq)
      obtain ⟨W4, hW4⟩ : ∃ W4, W4 = W'.drewN nq := ⟨_, rfl⟩
      rw [← hW4] at I4 ⊢
      have S4 := HS.out.low I4.low
      clear q0 q1 q2 q3 q4 p0 p1 p2 p3 p4 c5 c8 ck fk
      have c8 := S4.walk.cell
      unfold eachB at c8
      have l84 := S4.walk.lt
      have HI4 := hid I4
      have HS4 := hid S4
      have HW4 := hid hW4
      clear I4 S4 hW4
      gi_wp2
      obtain ⟨r0, hr0⟩ := HL.out
      have b44 : Below W'.heap.size W' W4 := by rw [HW4.out]; exact below_drewN (Below.refl _ W') nq
      have hr4 : W4.heap[l]? = some (.loop r0) := (b44.block l (lt_blk hr0)).trans hr0
      have b45 := belowA W4 (.cells #[.int .i64 0] 3)
      have x17 := Boxed.new W4 3 (.int .i64 0)
      have hz5 : (W4.alloc (.cells #[.int .i64 0] 3)).heap.size = W4.heap.size + 1 := by simp
      have hsz0 : W1.heap.size ≤ W4.heap.size := by have := lt_blk hr4; omega
      have hX5 := (b45.block X (lt_blk HS4.out.src)).trans HS4.out.src
      have HX45 := hid b45
      have HX17 := hid x17
      clear b45 x17 c8 l84
      refine eachN (l0 := l) (r0 := r0) ((HX45.out.block l (lt_blk hr4)).trans hr4) X s (.exit 6) (.exit 6) (.inr ⟨6, rfl, rfl⟩) (by first | rfl | simp [eachB]) rfl hX5
        (fun pre2 W2 => Iw W4 W4.heap.size pre2.length W2 ∧ pre2.length ≤ k ∧ pre2.length ≤ 40)
        (fun _ => False)
        (fun W2 => Below W4.heap.size W4 W2)
        (fun pre2 W2 h => HS4.out.vars.low h.1.1)
        (fun W2 h => ⟨⟨HX45.out.trans (h.mono (by omega)), boxed_low HX17.out h⟩, Nat.zero_le _, Nat.zero_le _⟩)
        (fun pre2 W2 l2 q q' h hl2 hq => ⟨h.1.put (by omega) hq, h.2⟩)
        (fun W2 l2 q q' h _ _ => h.elim)
        (fun W2 l2 q q' h hl2 hq => h.trans (below_pt (by omega)))
        (fun t2 v2 a2 W2 => ∃ Bx2 b17, b17 = W4.heap.size ∧ W2.heap[Bx2]? = some (.cells #[.int .i64 t2.kind, .string t2.text, .int .i64 t2.num, .int .i64 t2.a, .int .i64 t2.e] 39 (0, 0)) ∧ ∃ u2 : Nat → Value, a2 = { tmps := #[u2 0, u2 1, u2 2, u2 3, .pointer (some ⟨b4, 0, none⟩), .pointer (some ⟨b5, 0, none⟩), u2 6, u2 7, u2 8, u2 9, u2 10, u2 11, u2 12, u2 13, .pointer (some ⟨b14, 0, none⟩), u2 15, u2 16, .pointer (some ⟨b17, 0, none⟩), .pointer (some ⟨Bx2, 0, none⟩), v2, u2 20, u2 21, u2 22, u2 23, u2 24, u2 25, u2 26, u2 27, u2 28, u2 29, u2 30, u2 31, u2 32, u2 33, u2 34, u2 35, u2 36, u2 37, u2 38, u2 39, u2 40, u2 41, u2 42, u2 43, u2 44, u2 45, u2 46, u2 47, u2 48, u2 49, u2 50, u2 51, u2 52, u2 53, u2 54, u2 55, u2 56, u2 57, u2 58, u2 59, u2 60, u2 61, u2 62, u2 63, u2 64, u2 65, u2 66, u2 67, u2 68, u2 69, u2 70, u2 71, u2 72, u2 73, u2 74, u2 75, u2 76, u2 77, u2 78, u2 79, u2 80, u2 81, u2 82, u2 83, u2 84, u2 85, u2 86, u2 87, u2 88, u2 89, u2 90, u2 91, u2 92, u2 93, u2 94, u2 95, u2 96, u2 97, u2 98, u2 99, u2 100, u2 101, u2 102, u2 103, u2 104, u2 105, u2 106, u2 107, u2 108, u2 109, u2 110, u2 111, u2 112, u2 113, u2 114, u2 115, u2 116, u2 117, u2 118, u2 119, u2 120, u2 121, u2 122, u2 123, u2 124, u2 125, u2 126, u2 127, u2 128, u2 129, u2 130, u2 131, u2 132, u2 133, u2 134, u2 135, u2 136, u2 137, u2 138, u2 139, u2 140, u2 141, u2 142, u2 143, u2 144, u2 145, u2 146, u2 147, u2 148, u2 149, u2 150, u2 151, u2 152, u2 153, u2 154, u2 155, u2 156, u2 157, u2 158, u2 159, u2 160, u2 161, u2 162, u2 163, u2 164, u2 165, u2 166, u2 167, u2 168, u2 169, u2 170, u2 171, u2 172, u2 173, u2 174, u2 175, u2 176, u2 177, u2 178, u2 179, u2 180, u2 181, u2 182, u2 183, u2 184, u2 185, u2 186, u2 187, u2 188, u2 189, u2 190], defers := [] } ∧ True)
        ?hA2 ?assign2 ?body2 ?fault2 ?done2 ?donef2 ?stop2
      case hA2 =>
        rintro t2 v2 a2 W2 l2 q q' ⟨Bx2, b17, e17, h1, h2⟩ h3
        exact ⟨Bx2, b17, e17, (World.putObj_heap_other (by intro e; rw [e, h3] at h1; cases h1)).trans h1, h2⟩
      case assign2 =>
        rintro m2 l2 t2 v2 W2 K2 hz2 hK2
        have HK2 := hid hK2
        clear hK2
        simp only [tv]
        gi_wp2
        refine HK2.out _ _ ?_ (belowA W2 _)
        exact ⟨W2.heap.size, _, rfl, heap_alloc_new W2 _, ex_u rfl trivial⟩
      case body2 =>
        rintro m2 l2 pre2 t2 a2 W02 W2 ⟨Bx2, b17, e17, hbx2, u2, rfl, -⟩ hl2 hlr2 hlk2 ⟨hi2, hk2, h402⟩ hpre2
        have I := hi2.lk hlk2 (by omega) hlr2
        have hsz02 : W4.heap.size + 1 ≤ W02.heap.size := by obtain ⟨q, hq⟩ := hlr2; have := lt_blk hq; omega
        have hlen2 : pre2.length + 1 ≤ n := by
          have := hpre2.length_le
          rw [List.length_append] at this
          rw [HN.out]
          exact this
        have htk2 : tk (scanT s).1 pre2.length = t2 := by
          obtain ⟨z, hz⟩ := hpre2
          unfold tk
          rw [← hz, List.getD_eq_getElem?_getD, List.getElem?_append_left (by simp), List.getElem?_append_right (Nat.le_refl _), Nat.sub_self]
          rfl
        have S := HS4.out.low I.1
        have c14 := (HI4.out.keep I.1).rnd.cell
        have l14 := HI4.out.rnd.lt
        have l5' := HS4.out.want.lt
        rw [← e17] at I l14 l5'
        obtain ⟨wa2, wc2, ew, hws⟩ := S.lst
        rw [← HN.out] at ew hws
        cases ew
        rcases hws with h0 | ⟨wb2, e2, hwb2, hwc2⟩
        · omega
        have hcs := hwc2 pre2.length (by omega)
        rw [htk2] at hcs
        obtain ⟨p0, p1, p2, p3, p4⟩ := hcs
        have ⟨q0, q1, q2, q3, q4⟩ := tcells hbx2
        have c17 := I.2.cell
        have f17 := I.2.frozen
        have c5 := S.want.cell
        rw [e2] at c5
        have hlenp2 : (pre2 ++ [t2]).length = pre2.length + 1 := by simp
        rw [hlenp2]
        have HI2 := hid I
        have HE17 := hid e17
        have HSZ := hid hsz02
        have HSZ5 := hid hz5
        clear hwc2 htk2 hlr2 hlk2 hi2 I S e17 hsz02 hz5 hX5 hr4 hr0 b44 hsz0 hlenp2 hpre2 e2
        obtain ⟨yk, yt, yn, ya, ye⟩ := t2
        simp only at p0 p1 p2 p3 p4 q0 q1 q2 q3 q4
        generalize pre2.length = j at *
        have g1 : (j : Int) < n := by omega
        have g2 : (0 : Int) ≤ (j : Int) := by omega
        have n14 : (b14 = b17) = False := by simp; omega
        have n5 : (b5 = b17) = False := by simp; omega
        gi_wp2
        have d1 : decide ((n : Int) ≤ (j : Int)) = false := by simp; omega
        have d2 : decide (n ≤ j) = false := by simp; omega
        have d3 : (n ≤ j) = False := by simp; omega
        refine quiet_round (F := Fence.wide) rfl (by kernel_rfl) (by kernel_rfl) (by kernel_rfl) ?_
        repeat (gi_big_quiet_step (fail))
        refine wpQuietIn_nil ?_
        rintro _ ⟨nq2, rfl⟩
        clear d1 d2 d3
        rename_i hK39
        refine hK39 _ _ ?_
        clear hK39
        gi_wp2
        all_goals
          have I2 : Iw W4 b17 j (W2.drewN nq2) := ⟨below_drewN HI2.out.1 nq2, HI2.out.2⟩
          have I3 := I2.set (j' := j + 1)
          have KB := kb_draw (W := W2) (q := nq2) (b := b17) (base := W4.heap.size + 1) (B := W02.heap.size) (.int .i64 ((j : Int) + 1)) (by have := HE17.out; omega) HSZ.out
          refine ⟨KB.1, KB.2, ?_⟩
          rw [← HE17.out]
          first
            | exact I3.1
            | exact ⟨I3, by omega, by omega⟩
            | exact ⟨I3, by omega⟩
      case fault2 =>
        rintro m2 l2 N2 c2 p2 a2 W02 W2 _ _ _ _ ⟨_, hk2, _⟩
        rw [← HN.out] at hk2
        omega
      case done2 =>
        rintro W2 ⟨_, hk2, _⟩
        rw [← HN.out] at hk2
        omega
      case donef2 => exact fun W2 h => h.elim
      case stop2 =>
        intro W2 hx
        have I2 := HI4.out.keep hx
        have S := HS4.out.low hx
        have c14 := I2.rnd.cell
        have f14 := I2.rnd.frozen
        have c5 := S.want.cell
        have HI2 := hid I2
        have HX2 := hid hx
        have HB44 := hid b44
        have HE14' := HE14.out
        have n5 : (b5 = b14) = False := by have := HS4.out.want.lt; simp; omega
        have c5' : (W2.setCell ⟨b14, 0, none⟩ (.int .i64 ((k : Int) + 1))).cell? ⟨b5, 0, none⟩ = _ := (World.cell?_setCell_other _ _ _ _ (by intro e; injection e with e1; rw [e1] at n5; simp at n5)).trans c5
        clear I2 S hx b44 hz5 hX5 hr4 hr0 HE14'
        gi_wp2
        all_goals
          have I3 := HI2.out.set (r' := k + 1)
          have hz2 := HX2.out.size
          have KB := kb_seg (base := W1.heap.size) (B := W0.heap.size) (.int .i64 ((k : Int) + 1)) HB44.out HX2.out (b := b14) (by have := HE14.out; omega) HZ0.out
          rw [hz1] at KB
          have J3 : Jw WS W1 b14 Dl (k + 1) (W2.setCell ⟨b14, 0, none⟩ (.int .i64 ((k : Int) + 1))) := ⟨I3, by rw [World.size_setCell]; omega⟩
          rw [← HE14.out] at KB ⊢
          first
            | exact ⟨KB.1, KB.2, J3⟩
            | exact ⟨KB.1, J3, HC00.out⟩
    case fault =>
      rintro m l N c p a' W0 W' ⟨Bx, b14, e14, hbx, rfl⟩ hl hlr hrec hlk hi hf hflt hN
      have I := hi.1.lk hlk (by omega) hlr
      rw [← e14, ← HN.out] at I
      have S := HS.out.low I.low
      have ck := I.rnd.cell
      have fk := I.rnd.frozen
      have c5 := S.want.cell
      have c8 := S.walk.cell
      unfold eachB at c8
      have l5 := HS.out.want.lt
      have HII := hid I
      have HE14 := hid e14
      have HZ0 := hid (show W1.heap.size ≤ W0.heap.size from hi.2)
      have HL := hid hrec
      have HF := hid hf
      have HC00 := hid (show c0 ≠ 0 by rw [HC0.out, hf]; exact HCODE.out c p hf)
      clear hlr hlk hi I S e14 hrec hf hflt hbx
      simp only [fv]
      gi_wp2
      refine quiet_round rfl (by kernel_rfl) (by kernel_rfl) (by kernel_rfl) ?_
      repeat (gi_big_quiet_step (fail))
      refine wpQuietIn_nil ?_
      rintro _ ⟨nq, rfl⟩
      rename_i hK33
      refine hK33 _ _ ?_
      clear hK33
      have I4 := HII.out.keep (below_drewN (Below.refl _ W') nq)
      obtain ⟨W4, hW4⟩ : ∃ W4, W4 = W'.drewN nq := ⟨_, rfl⟩
      rw [← hW4] at I4 ⊢
      have S4 := HS.out.low I4.low
      clear c5 c8 ck fk
      have c8 := S4.walk.cell
      unfold eachB at c8
      have l84 := S4.walk.lt
      have HI4 := hid I4
      have HS4 := hid S4
      have HW4 := hid hW4
      clear I4 S4 hW4
      gi_wp2
      obtain ⟨r0, hr0⟩ := HL.out
      have b44 : Below W'.heap.size W' W4 := by rw [HW4.out]; exact below_drewN (Below.refl _ W') nq
      have hr4 : W4.heap[l]? = some (.loop r0) := (b44.block l (lt_blk hr0)).trans hr0
      have b45 := belowA W4 (.cells #[.int .i64 0] 3)
      have x17 := Boxed.new W4 3 (.int .i64 0)
      have hz5 : (W4.alloc (.cells #[.int .i64 0] 3)).heap.size = W4.heap.size + 1 := by simp
      have hsz0 : W1.heap.size ≤ W4.heap.size := by have := lt_blk hr4; omega
      have hX5 := (b45.block X (lt_blk HS4.out.src)).trans HS4.out.src
      have HX45 := hid b45
      have HX17 := hid x17
      clear b45 x17 c8 l84
      refine eachN (l0 := l) (r0 := r0) ((HX45.out.block l (lt_blk hr4)).trans hr4) X s (.exit 6) (.exit 6) (.inr ⟨6, rfl, rfl⟩) (by first | rfl | simp [eachB]) rfl hX5
        (fun pre2 W2 => Iw W4 W4.heap.size pre2.length W2 ∧ pre2.length ≤ n ∧ pre2.length ≤ 40)
        (fun _ => False)
        (fun W2 => Below W4.heap.size W4 W2)
        (fun pre2 W2 h => HS4.out.vars.low h.1.1)
        (fun W2 h => ⟨⟨HX45.out.trans (h.mono (by omega)), boxed_low HX17.out h⟩, Nat.zero_le _, Nat.zero_le _⟩)
        (fun pre2 W2 l2 q q' h hl2 hq => ⟨h.1.put (by omega) hq, h.2⟩)
        (fun W2 l2 q q' h _ _ => h.elim)
        (fun W2 l2 q q' h hl2 hq => h.trans (below_pt (by omega)))
        (fun t2 v2 a2 W2 => ∃ Bx2 b17, b17 = W4.heap.size ∧ W2.heap[Bx2]? = some (.cells #[.int .i64 t2.kind, .string t2.text, .int .i64 t2.num, .int .i64 t2.a, .int .i64 t2.e] 39 (0, 0)) ∧ ∃ u2 : Nat → Value, a2 = { tmps := #[u2 0, u2 1, u2 2, u2 3, .pointer (some ⟨b4, 0, none⟩), .pointer (some ⟨b5, 0, none⟩), u2 6, u2 7, u2 8, u2 9, u2 10, u2 11, u2 12, u2 13, .pointer (some ⟨b14, 0, none⟩), u2 15, u2 16, .pointer (some ⟨b17, 0, none⟩), .pointer (some ⟨Bx2, 0, none⟩), v2, u2 20, u2 21, u2 22, u2 23, u2 24, u2 25, u2 26, u2 27, u2 28, u2 29, u2 30, u2 31, u2 32, u2 33, u2 34, u2 35, u2 36, u2 37, u2 38, u2 39, u2 40, u2 41, u2 42, u2 43, u2 44, u2 45, u2 46, u2 47, u2 48, u2 49, u2 50, u2 51, u2 52, u2 53, u2 54, u2 55, u2 56, u2 57, u2 58, u2 59, u2 60, u2 61, u2 62, u2 63, u2 64, u2 65, u2 66, u2 67, u2 68, u2 69, u2 70, u2 71, u2 72, u2 73, u2 74, u2 75, u2 76, u2 77, u2 78, u2 79, u2 80, u2 81, u2 82, u2 83, u2 84, u2 85, u2 86, u2 87, u2 88, u2 89, u2 90, u2 91, u2 92, u2 93, u2 94, u2 95, u2 96, u2 97, u2 98, u2 99, u2 100, u2 101, u2 102, u2 103, u2 104, u2 105, u2 106, u2 107, u2 108, u2 109, u2 110, u2 111, u2 112, u2 113, u2 114, u2 115, u2 116, u2 117, u2 118, u2 119, u2 120, u2 121, u2 122, u2 123, u2 124, u2 125, u2 126, u2 127, u2 128, u2 129, u2 130, u2 131, u2 132, u2 133, u2 134, u2 135, u2 136, u2 137, u2 138, u2 139, u2 140, u2 141, u2 142, u2 143, u2 144, u2 145, u2 146, u2 147, u2 148, u2 149, u2 150, u2 151, u2 152, u2 153, u2 154, u2 155, u2 156, u2 157, u2 158, u2 159, u2 160, u2 161, u2 162, u2 163, u2 164, u2 165, u2 166, u2 167, u2 168, u2 169, u2 170, u2 171, u2 172, u2 173, u2 174, u2 175, u2 176, u2 177, u2 178, u2 179, u2 180, u2 181, u2 182, u2 183, u2 184, u2 185, u2 186, u2 187, u2 188, u2 189, u2 190], defers := [] } ∧ True)
        ?hA2 ?assign2 ?body2 ?fault2 ?done2 ?donef2 ?stop2
      case hA2 =>
        rintro t2 v2 a2 W2 l2 q q' ⟨Bx2, b17, e17, h1, h2⟩ h3
        exact ⟨Bx2, b17, e17, (World.putObj_heap_other (by intro e; rw [e, h3] at h1; cases h1)).trans h1, h2⟩
      case assign2 =>
        rintro m2 l2 t2 v2 W2 K2 hz2 hK2
        have HK2 := hid hK2
        clear hK2
        simp only [tv]
        gi_wp2
        refine HK2.out _ _ ?_ (belowA W2 _)
        exact ⟨W2.heap.size, _, rfl, heap_alloc_new W2 _, ex_u rfl trivial⟩
      case body2 =>
        rintro m2 l2 pre2 t2 a2 W02 W2 ⟨Bx2, b17, e17, hbx2, u2, rfl, -⟩ hl2 hlr2 hlk2 ⟨hi2, hk2, h402⟩ hpre2
        have I := hi2.lk hlk2 (by omega) hlr2
        have hsz02 : W4.heap.size + 1 ≤ W02.heap.size := by obtain ⟨q, hq⟩ := hlr2; have := lt_blk hq; omega
        have hlen2 : pre2.length + 1 ≤ n := by
          have := hpre2.length_le
          rw [List.length_append] at this
          rw [HN.out]
          exact this
        have htk2 : tk (scanT s).1 pre2.length = t2 := by
          obtain ⟨z, hz⟩ := hpre2
          unfold tk
          rw [← hz, List.getD_eq_getElem?_getD, List.getElem?_append_left (by simp), List.getElem?_append_right (Nat.le_refl _), Nat.sub_self]
          rfl
        have S := HS4.out.low I.1
        have c14 := (HI4.out.keep I.1).rnd.cell
        have l14 := HI4.out.rnd.lt
        have l5' := HS4.out.want.lt
        rw [← e17] at I l14 l5'
        obtain ⟨wa2, wc2, ew, hws⟩ := S.lst
        rw [← HN.out] at ew hws
        cases ew
        rcases hws with h0 | ⟨wb2, e2, hwb2, hwc2⟩
        · omega
        have hcs := hwc2 pre2.length (by omega)
        rw [htk2] at hcs
        obtain ⟨p0, p1, p2, p3, p4⟩ := hcs
        have ⟨q0, q1, q2, q3, q4⟩ := tcells hbx2
        have c17 := I.2.cell
        have f17 := I.2.frozen
        have c5 := S.want.cell
        rw [e2] at c5
        have hlenp2 : (pre2 ++ [t2]).length = pre2.length + 1 := by simp
        rw [hlenp2]
        have HI2 := hid I
        have HE17 := hid e17
        have HSZ := hid hsz02
        have HSZ5 := hid hz5
        clear hwc2 htk2 hlr2 hlk2 hi2 I S e17 hsz02 hz5 hX5 hr4 hr0 b44 hsz0 hlenp2 hpre2 e2
        obtain ⟨yk, yt, yn, ya, ye⟩ := t2
        simp only at p0 p1 p2 p3 p4 q0 q1 q2 q3 q4
        generalize pre2.length = j at *
        have g1 : (j : Int) < n := by omega
        have g2 : (0 : Int) ≤ (j : Int) := by omega
        have n14 : (b14 = b17) = False := by simp; omega
        have n5 : (b5 = b17) = False := by simp; omega
        gi_wp2
        have d1 : decide ((n : Int) ≤ (j : Int)) = false := by simp; omega
        have d2 : decide (n ≤ j) = false := by simp; omega
        have d3 : (n ≤ j) = False := by simp; omega
        refine quiet_round (F := Fence.wide) rfl (by kernel_rfl) (by kernel_rfl) (by kernel_rfl) ?_
        repeat (gi_big_quiet_step (fail))
        refine wpQuietIn_nil ?_
        rintro _ ⟨nq2, rfl⟩
        clear d1 d2 d3
        rename_i hK39
        refine hK39 _ _ ?_
        clear hK39
        gi_wp2
        all_goals
          have I2 : Iw W4 b17 j (W2.drewN nq2) := ⟨below_drewN HI2.out.1 nq2, HI2.out.2⟩
          have I3 := I2.set (j' := j + 1)
          have KB := kb_draw (W := W2) (q := nq2) (b := b17) (base := W4.heap.size + 1) (B := W02.heap.size) (.int .i64 ((j : Int) + 1)) (by have := HE17.out; omega) HSZ.out
          refine ⟨KB.1, KB.2, ?_⟩
          rw [← HE17.out]
          first
            | exact I3.1
            | exact ⟨I3, by omega, by omega⟩
            | exact ⟨I3, by omega⟩
      case fault2 =>
        rintro m2 l2 N2 c2 p2 a2 W02 W2 ⟨Bx2, b17, e17, hbx2, u2, rfl, -⟩ hl2 hlr2 hlk2 ⟨hi2, hk2, h402⟩ hf2 hflt2 hN2
        have I := hi2.lk hlk2 (by omega) hlr2
        have hsz02 : W4.heap.size + 1 ≤ W02.heap.size := by obtain ⟨q, hq⟩ := hlr2; have := lt_blk hq; omega
        rw [← HN.out] at I
        have S := HS4.out.low I.1
        have c14 := (HI4.out.keep I.1).rnd.cell
        have l14 := HI4.out.rnd.lt
        have l5' := HS4.out.want.lt
        rw [← e17] at I l14 l5'
        have c17 := I.2.cell
        have f17 := I.2.frozen
        have c5 := S.want.cell
        have HI2 := hid I
        have HE17 := hid e17
        have HSZ := hid hsz02
        clear hlr2 hlk2 hi2 I S e17 hsz02 hz5 hX5 hr4 hr0 b44 hsz0 hbx2 hf2 hflt2 hk2 h402
        have n14 : (b14 = b17) = False := by simp; omega
        have n5 : (b5 = b17) = False := by simp; omega
        simp only [fv]
        gi_wp2
        refine quiet_round (F := Fence.wide) rfl (by kernel_rfl) (by kernel_rfl) (by kernel_rfl) ?_
        repeat (gi_big_quiet_step (fail))
        refine wpQuietIn_nil ?_
        rintro _ ⟨nq2, rfl⟩
        rename_i hK39
        refine hK39 _ _ ?_
        clear hK39
        gi_wp2
        all_goals
          have I2 : Iw W4 b17 n (W2.drewN nq2) := ⟨below_drewN HI2.out.1 nq2, HI2.out.2⟩
          have I3 := I2.set (j' := n + 1)
          have KB := kb_draw (W := W2) (q := nq2) (b := b17) (base := W4.heap.size + 1) (B := W02.heap.size) (.int .i64 ((n : Int) + 1)) (by have := HE17.out; omega) HSZ.out
          refine ⟨KB.1, ?_⟩
          rw [← HE17.out]
          exact I3.1
      case done2 =>
        intro W2 _ h
        rw [HF.out] at h
        cases h
      case donef2 => exact fun W2 h => h.elim
      case stop2 =>
        intro W2 hx
        have I2 := HI4.out.keep hx
        have S := HS4.out.low hx
        have c14 := I2.rnd.cell
        have f14 := I2.rnd.frozen
        have c5 := S.want.cell
        have HI2 := hid I2
        have HX2 := hid hx
        have HB44 := hid b44
        have HE14' := HE14.out
        have n5 : (b5 = b14) = False := by have := HS4.out.want.lt; simp; omega
        have c5' : (W2.setCell ⟨b14, 0, none⟩ (.int .i64 ((n : Int) + 1))).cell? ⟨b5, 0, none⟩ = _ := (World.cell?_setCell_other _ _ _ _ (by intro e; injection e with e1; rw [e1] at n5; simp at n5)).trans c5
        clear I2 S hx b44 hz5 hX5 hr4 hr0 HE14'
        gi_wp2
        all_goals
          have I3 := HI2.out.set (r' := n + 1)
          have hz2 := HX2.out.size
          have KB := kb_seg (base := W1.heap.size) (B := W0.heap.size) (.int .i64 ((n : Int) + 1)) HB44.out HX2.out (b := b14) (by have := HE14.out; omega) HZ0.out
          rw [hz1] at KB
          have J3 : Jw WS W1 b14 Dl (n + 1) (W2.setCell ⟨b14, 0, none⟩ (.int .i64 ((n : Int) + 1))) := ⟨I3, by rw [World.size_setCell]; omega⟩
          rw [← HE14.out] at KB ⊢
          first
            | exact ⟨KB.1, KB.2, J3⟩
            | exact ⟨KB.1, J3, HC00.out⟩
    case done =>
      intro D W2 hD hi hf hdf
      have hi1 := hi.1
      rw [← HN.out] at hi1
      have hc0 : c0 = 0 := by rw [HC0.out, hf]; rfl
      have S := HS.out.low hi1.low
      have c5 := S.want.cell
      have c6 := S.e.cell
      have c4 := S.res.cell
      have f4 := S.res.frozen
      have c14 := hi1.rnd.cell
      have HI := hid hi1
      have HD := hid hdf
      subst hc0
      clear hi hi1 hdf hf S
      gi_wp2
      all_goals
        have hI := HI.out
        have hl := hI.low
        have e3 := HB3.out
        have q1 := BW.out.size
        have q2 := hl.size
        have S := HS.out.low hl
        have xr := S.res
        have hb2 : Below w.heap.size w (W2.setCell ⟨b4, 0, none⟩ (.bool true)) := by
          rw [e3]
          exact below_set (BW.out.trans (hl.mono (by rw [← e3]; exact BW.out.size))) _ _ _ hb34
        refine leaveL _ _ b4 rfl w (fun w' h => ⟨rfl, h⟩) (D :: Dl) _ (List.nodup_cons.2 ⟨fun hm => by have := lt_blk (HBK.out.dl D hm).2; omega, HND.out⟩) ?_ (xr.set _) hb2
        intro D' hD'
        have key : w.heap.size ≤ D' ∧ W2.heap[D']? = some (.deferred (some [])) := by
          rcases List.mem_cons.1 hD' with rfl | hm
          · exact ⟨by omega, HD.out⟩
          · exact ⟨by have := (hI.dl D' hm).1; omega, (hI.dl D' hm).2⟩
        refine ⟨key.1, (block_set _ _ _ _ _ ?_).trans key.2⟩
        intro e
        have h2 := key.2
        unfold Boxed at xr
        rw [e, xr] at h2
        cases h2
    case donef =>
      rintro D W2 hD ⟨hi, hc00⟩ hdf
      have hi1 := hi.1
      have xc0 : ((c0 : Int) != 0) = true := by simp; omega
      have yc0 : ((c0 : Int) == 0) = false := by simp; omega
      have S := HS.out.low hi1.low
      have c5 := S.want.cell
      have c6 := S.e.cell
      have c4 := S.res.cell
      have f4 := S.res.frozen
      have c14 := hi1.rnd.cell
      have HI := hid hi1
      have HD := hid hdf
      clear hi hi1 hdf S hc00
      gi_wp2
      all_goals
        have hI := HI.out
        have hl := hI.low
        have e3 := HB3.out
        have q1 := BW.out.size
        have q2 := hl.size
        have S := HS.out.low hl
        have xr := S.res
        have hb2 : Below w.heap.size w (W2.setCell ⟨b4, 0, none⟩ (.bool true)) := by
          rw [e3]
          exact below_set (BW.out.trans (hl.mono (by rw [← e3]; exact BW.out.size))) _ _ _ hb34
        refine leaveL _ _ b4 rfl w (fun w' h => ⟨rfl, h⟩) (D :: Dl) _ (List.nodup_cons.2 ⟨fun hm => by have := lt_blk (HBK.out.dl D hm).2; omega, HND.out⟩) ?_ (xr.set _) hb2
        intro D' hD'
        have key : w.heap.size ≤ D' ∧ W2.heap[D']? = some (.deferred (some [])) := by
          rcases List.mem_cons.1 hD' with rfl | hm
          · exact ⟨by omega, HD.out⟩
          · exact ⟨by have := (hI.dl D' hm).1; omega, (hI.dl D' hm).2⟩
        refine ⟨key.1, (block_set _ _ _ _ _ ?_).trans key.2⟩
        intro e
        have h2 := key.2
        unfold Boxed at xr
        rw [e, xr] at h2
        cases h2
    case stop => exact fun D W2 hD h => h.elim
end Go.Proofs.YtbplmglddinkdaaDoor.L
