import Derived.Test.YtdnoagebcolgbaaDoorMgAE
import Derived.Deep.RegionHeld3
namespace Go.Proofs.YtdnoagebcolgbaaDoor.L
open Go.RowKit Go.Shelf
set_option linter.unusedVariables false
theorem step_own {P : Program} (w : World) {ops : Array Oper} {o : Oper} {a : Act} {K : Act → World → Prop} {Q : Exit → Act → World → Prop} {E : Prop} (hgd : o.guard = none) (s x : Operand) (t : TypeId)
    (ho : o.op = .call { callee := .builtin .append, args := #[s, x], argTypes := #[t, t] })
    (base : Nat) (e : TypeId) (i : TypeInfo) (z : Value) (size bytes : Nat) (ht : P.underlying t = some (.slice e)) (hi : P.info? e = some i) (hz : i.zero = some z)
    (hsize : i.size = size) (hby : i.bytes = bytes) (hzs : z.cells.size = size) (hsz : 0 < size)
    (v : Value) (n : Nat) (xs : List Value) (hs : a.eval s = v) (hown : w.ownsRow base e size v n xs)
    (ad : Addr) (m c : Nat) (news : List Value) (hx : a.eval x = .slice (some ad) m c) (hl : news.length = m * size) (hnews : ∀ j u, news[j]? = some u → w.cell? (ad.add j) = some u) (h1 : ∀ u ∈ news, u.oneCell' = true)
    (h63 : n + m ≤ maxLen) (hbytes : (n + m) * bytes ≤ 140737488355328) (hbase : base ≤ w.heap.size)
    (h : ∀ v' w', w'.ownsRow base e size v' (n + m) (xs ++ news) → w.grownBy w' v.ownBlock → K (a.put o.dst v') w') :
    if Region.wanted o (yielded ops a.tmps) = true then Oper.wp P o a w K Q else E := by
  have hw : Region.wanted o (yielded ops a.tmps) = true := by simp [Region.wanted, hgd]
  rw [if_pos hw]
  exact wp_append_own w s x t ho base e i z size bytes ht hi hz hsize hby hzs hsz v n xs hs hown ad m c news hx hl hnews h1 h63 hbytes hbase (fun v' w' a b _ => h v' w' a b)
theorem cells_new (w : World) (cs : List Value) (t : TypeId) : ∀ (j : Nat) (u : Value), cs[j]? = some u → (w.alloc (.cells cs.toArray t)).cell? ((⟨w.heap.size, 0, none⟩ : Addr).add j) = some u := by
  intro j u h
  rw [Go.WideShapes.add_plain]
  rw [cell_of_row (w.alloc (.cells cs.toArray t)) w.heap.size (0 + j) _ _ _ (heap_alloc_new w _)]
  simpa using h
theorem one_bytes (l : List UInt8) : ∀ u ∈ Lib.byteCells l, u.oneCell' = true := by
  intro u hu
  rw [byteCells_eq] at hu
  simp at hu
  obtain ⟨b, _, rfl⟩ := hu
  rfl
theorem ownb_app {w : World} {base : Nat} {v : Value} {l m : List UInt8} {n : Nat} (hn : n = m.length) (h : w.ownsRow base 5 1 v (l.length + n) (Lib.byteCells l ++ Lib.byteCells m)) : OwnB w base v (l ++ m) := by
  unfold OwnB
  rw [List.length_append, byteCells_app, ← hn]
  exact h
theorem ownb_drew {w : World} {base : Nat} {v : Value} {l : List UInt8} (h : OwnB w base v l) (k : Nat) : OwnB (w.drewN k) base v l :=
  h.kept (row := none) ⟨rfl, rfl, rfl, Nat.le_refl _, fun k _ _ => rfl⟩ (by cases v.ownBlock <;> simp)
theorem ownb_one (w : World) : OwnB (w.alloc (.cells #[.int .u8 34] 5)) w.heap.size (.slice (some ⟨w.heap.size, 0, none⟩) 1 1) [34] := ⟨rfl, Or.inr ⟨w.heap.size, 1, _, rfl, Nat.le_refl _, heap_alloc_new w _, Nat.le_refl _, by unfold maxLen; omega, rfl, rfl⟩⟩
theorem below_drew1 {B : Nat} {a w : World} (h : Below B a w) : Below B a w.drew := ⟨h.os, h.tape, h.output, h.size, h.block⟩
theorem ownb_drew1 {w : World} {base : Nat} {v : Value} {l : List UInt8} (h : OwnB w base v l) : OwnB w.drew base v l :=
  h.kept (row := none) ⟨rfl, rfl, rfl, Nat.le_refl _, fun k _ _ => rfl⟩ (by cases v.ownBlock <;> simp)
set_option maxHeartbeats 8000000 in
theorem rquote_any (s : ByteArray) (w : World) (hs : s.size ≤ 1048576) :
    Calls Tryd.prog 36 #[.string s] w fun e w' => e = .returned (.string ⟨(quoteL s.data.toList).toArray⟩) ∧ Below w.heap.size w w' := by
  obtain ⟨i0, hi, hz0, hz1, hz2⟩ := info_parts infoB
  go_enter Tryd.func36, Tryd.ntmps36
  go_wp2_with fail
  have O0 := hid (show OwnB (w.alloc (.cells #[.int .u8 34] 5)) w.heap.size (.slice (some ⟨w.heap.size, 0, none⟩) 1 1) (34 :: (s.data.toList.take 0).flatMap qB) from ownb_one w)
  have BL0 := hid (belowA w (.cells #[.int .u8 34] 5))
  generalize w.alloc (.cells #[.int .u8 34] 5) = W0 at *
  go_loopw [4, 5] (fun v i wr => ∃ (k : Nat), k ≤ s.size ∧ i = .int .i64 k ∧ Hid (Below w.heap.size w wr) ∧ Hid (OwnB wr w.heap.size v (34 :: (s.data.toList.take k).flatMap qB))) (fun _ i _ => s.size - (intOf i).toNat)
  case atStart => exact ⟨0, by omega, by go_num, BL0, O0⟩
  case round =>
    obtain ⟨k, hk, rfl, HB, OW⟩ := hrel
    have hlen : (34 :: (s.data.toList.take k).flatMap qB).length ≤ 7000000 := by
      have := flat_len (s.data.toList.take k)
      have h2 : (s.data.toList.take k).length ≤ k := by simp; omega
      rw [List.length_cons]
      omega
    have hbase := HB.out.size
    by_cases hlt : k < s.size
    · have hc := iv_get s k hlt
      have ht := take_bt s k hlt
      have HK := hid (show 34 :: (s.data.toList.take (k + 1)).flatMap qB = 34 :: (s.data.toList.take k).flatMap qB ++ qB (bt s k) by rw [ht]; simp)
      generalize 34 :: (s.data.toList.take k).flatMap qB = L at *
      obtain ⟨va, vc, rfl⟩ := ownb_form OW.out
      generalize bt s k = c at *
      clear ht
      have hbase' : w.heap.size ≤ (wr.alloc (.cells #[] 5)).heap.size := by simp; omega
      by_cases c34 : c = 34
      · rw [show qB c = [92, 34] by rw [c34]; simp [qB]] at HK
        subst c34
        rw [show iv 34 = 34 from rfl] at hc
        go_wp2_with (at_builtin; refine wpList_append_own _ rfl _ _ 97 rfl w.heap.size 5 i0 (.int .u8 0) 1 1 Tryd.underlying97 hi hz0 hz1 hz2 rfl (by decide) _ _ _ rfl (OW.out.alloc _) ⟨wr.heap.size, 0, none⟩ 2 2 [.int .u8 92, .int .u8 34] rfl rfl (cells_new wr [.int .u8 92, .int .u8 34] 5) (by intro u hu; simp at hu; (first | subst hu | (rcases hu with rfl | rfl) | (rcases hu with rfl | rfl | rfl | rfl)); all_goals rfl) (by unfold maxLen; omega) (by omega) (by simp; omega) ?_)
        intro v' w1 hown' hgrow _
        have hb1 : Below w.heap.size w w1 := (HB.out.alloc HB.out.size _).grown hgrow (by simp; omega) (ownb_block OW.out)
        have O1 := hid (show OwnB w1 w.heap.size v' (L ++ [92, 34]) from ownb_app rfl hown')
        have B1 := hid hb1
        obtain ⟨va', vc', rfl⟩ := ownb_form O1.out
        clear hown' hgrow hb1 OW HB
        go_wp2_with fail
        exact ⟨⟨k + 1, by omega, by go_num, B1, by rw [HK.out]; exact O1⟩, by simp [intOf]; omega⟩
      by_cases c92 : c = 92
      · rw [show qB c = [92, 92] by rw [c92]; simp [qB]] at HK
        subst c92
        rw [show iv 92 = 92 from rfl] at hc
        go_wp2_with (at_builtin; refine wpList_append_own _ rfl _ _ 97 rfl w.heap.size 5 i0 (.int .u8 0) 1 1 Tryd.underlying97 hi hz0 hz1 hz2 rfl (by decide) _ _ _ rfl (OW.out.alloc _) ⟨wr.heap.size, 0, none⟩ 2 2 [.int .u8 92, .int .u8 92] rfl rfl (cells_new wr [.int .u8 92, .int .u8 92] 5) (by intro u hu; simp at hu; (first | subst hu | (rcases hu with rfl | rfl) | (rcases hu with rfl | rfl | rfl | rfl)); all_goals rfl) (by unfold maxLen; omega) (by omega) (by simp; omega) ?_)
        intro v' w1 hown' hgrow _
        have hb1 : Below w.heap.size w w1 := (HB.out.alloc HB.out.size _).grown hgrow (by simp; omega) (ownb_block OW.out)
        have O1 := hid (show OwnB w1 w.heap.size v' (L ++ [92, 92]) from ownb_app rfl hown')
        have B1 := hid hb1
        obtain ⟨va', vc', rfl⟩ := ownb_form O1.out
        clear hown' hgrow hb1 OW HB
        go_wp2_with fail
        exact ⟨⟨k + 1, by omega, by go_num, B1, by rw [HK.out]; exact O1⟩, by simp [intOf]; omega⟩
      by_cases c10 : c = 10
      · rw [show qB c = [92, 110] by rw [c10]; simp [qB]] at HK
        subst c10
        rw [show iv 10 = 10 from rfl] at hc
        go_wp2_with (at_builtin; refine wpList_append_own _ rfl _ _ 97 rfl w.heap.size 5 i0 (.int .u8 0) 1 1 Tryd.underlying97 hi hz0 hz1 hz2 rfl (by decide) _ _ _ rfl (OW.out.alloc _) ⟨wr.heap.size, 0, none⟩ 2 2 [.int .u8 92, .int .u8 110] rfl rfl (cells_new wr [.int .u8 92, .int .u8 110] 5) (by intro u hu; simp at hu; (first | subst hu | (rcases hu with rfl | rfl) | (rcases hu with rfl | rfl | rfl | rfl)); all_goals rfl) (by unfold maxLen; omega) (by omega) (by simp; omega) ?_)
        intro v' w1 hown' hgrow _
        have hb1 : Below w.heap.size w w1 := (HB.out.alloc HB.out.size _).grown hgrow (by simp; omega) (ownb_block OW.out)
        have O1 := hid (show OwnB w1 w.heap.size v' (L ++ [92, 110]) from ownb_app rfl hown')
        have B1 := hid hb1
        obtain ⟨va', vc', rfl⟩ := ownb_form O1.out
        clear hown' hgrow hb1 OW HB
        go_wp2_with fail
        exact ⟨⟨k + 1, by omega, by go_num, B1, by rw [HK.out]; exact O1⟩, by simp [intOf]; omega⟩
      by_cases c9 : c = 9
      · rw [show qB c = [92, 116] by rw [c9]; simp [qB]] at HK
        subst c9
        rw [show iv 9 = 9 from rfl] at hc
        go_wp2_with (at_builtin; refine wpList_append_own _ rfl _ _ 97 rfl w.heap.size 5 i0 (.int .u8 0) 1 1 Tryd.underlying97 hi hz0 hz1 hz2 rfl (by decide) _ _ _ rfl (OW.out.alloc _) ⟨wr.heap.size, 0, none⟩ 2 2 [.int .u8 92, .int .u8 116] rfl rfl (cells_new wr [.int .u8 92, .int .u8 116] 5) (by intro u hu; simp at hu; (first | subst hu | (rcases hu with rfl | rfl) | (rcases hu with rfl | rfl | rfl | rfl)); all_goals rfl) (by unfold maxLen; omega) (by omega) (by simp; omega) ?_)
        intro v' w1 hown' hgrow _
        have hb1 : Below w.heap.size w w1 := (HB.out.alloc HB.out.size _).grown hgrow (by simp; omega) (ownb_block OW.out)
        have O1 := hid (show OwnB w1 w.heap.size v' (L ++ [92, 116]) from ownb_app rfl hown')
        have B1 := hid hb1
        obtain ⟨va', vc', rfl⟩ := ownb_form O1.out
        clear hown' hgrow hb1 OW HB
        go_wp2_with fail
        exact ⟨⟨k + 1, by omega, by go_num, B1, by rw [HK.out]; exact O1⟩, by simp [intOf]; omega⟩
      by_cases c13 : c = 13
      · rw [show qB c = [92, 114] by rw [c13]; simp [qB]] at HK
        subst c13
        rw [show iv 13 = 13 from rfl] at hc
        go_wp2_with (at_builtin; refine wpList_append_own _ rfl _ _ 97 rfl w.heap.size 5 i0 (.int .u8 0) 1 1 Tryd.underlying97 hi hz0 hz1 hz2 rfl (by decide) _ _ _ rfl (OW.out.alloc _) ⟨wr.heap.size, 0, none⟩ 2 2 [.int .u8 92, .int .u8 114] rfl rfl (cells_new wr [.int .u8 92, .int .u8 114] 5) (by intro u hu; simp at hu; (first | subst hu | (rcases hu with rfl | rfl) | (rcases hu with rfl | rfl | rfl | rfl)); all_goals rfl) (by unfold maxLen; omega) (by omega) (by simp; omega) ?_)
        intro v' w1 hown' hgrow _
        have hb1 : Below w.heap.size w w1 := (HB.out.alloc HB.out.size _).grown hgrow (by simp; omega) (ownb_block OW.out)
        have O1 := hid (show OwnB w1 w.heap.size v' (L ++ [92, 114]) from ownb_app rfl hown')
        have B1 := hid hb1
        obtain ⟨va', vc', rfl⟩ := ownb_form O1.out
        clear hown' hgrow hb1 OW HB
        go_wp2_with fail
        exact ⟨⟨k + 1, by omega, by go_num, B1, by rw [HK.out]; exact O1⟩, by simp [intOf]; omega⟩
      have g1 := ne_iv c34
      have g2 := ne_iv c92
      have g3 := ne_iv c10
      have g4 := ne_iv c9
      have g5 := ne_iv c13
      rw [show iv 34 = 34 from rfl] at g1
      rw [show iv 92 = 92 from rfl] at g2
      rw [show iv 10 = 10 from rfl] at g3
      rw [show iv 9 = 9 from rfl] at g4
      rw [show iv 13 = 13 from rfl] at g5
      by_cases c6 : 32 ≤ iv c ∧ iv c ≤ 126
      · rw [show qB c = [c] by simp [qB, c34, c92, c10, c9, c13, c6]] at HK
        obtain ⟨c61, c62⟩ := c6
        clear c34 c92 c10 c9 c13
        go_wp2_with (at_builtin; refine wpList_append_own _ rfl _ _ 97 rfl w.heap.size 5 i0 (.int .u8 0) 1 1 Tryd.underlying97 hi hz0 hz1 hz2 rfl (by decide) _ _ _ rfl (OW.out.alloc _) ⟨wr.heap.size, 0, none⟩ 1 1 [.int .u8 (iv c)] rfl rfl (cells_new wr [.int .u8 (iv c)] 5) (by intro u hu; simp at hu; (first | subst hu | (rcases hu with rfl | rfl) | (rcases hu with rfl | rfl | rfl | rfl)); all_goals rfl) (by unfold maxLen; omega) (by omega) (by simp; omega) ?_)
        intro v' w1 hown' hgrow _
        have hb1 : Below w.heap.size w w1 := (HB.out.alloc HB.out.size _).grown hgrow (by simp; omega) (ownb_block OW.out)
        have O1 := hid (show OwnB w1 w.heap.size v' (L ++ [c]) from ownb_app rfl hown')
        have B1 := hid hb1
        obtain ⟨va', vc', rfl⟩ := ownb_form O1.out
        clear hown' hgrow hb1 OW HB
        go_wp2_with fail
        exact ⟨⟨k + 1, by omega, by go_num, B1, by rw [HK.out]; exact O1⟩, by simp [intOf]; omega⟩
      · rw [show qB c = [92, 120, hx (c.toNat / 16), hx (c.toNat % 16)] by simp only [qB, c34, c92, c10, c9, c13, c6, if_false]] at HK
        have hn : c.toNat / 16 < 16 := by have := c.toNat_lt; omega
        have hm : c.toNat % 16 < 16 := by omega
        have ea := hx_hi c
        have eb : (iv c) % 16 = ((c.toNat % 16 : Nat) : Int) := by unfold iv; omega
        have ea' : (iv c).tdiv 16 = ((c.toNat / 16 : Nat) : Int) := by unfold iv; rfl
        have eb' : (iv c).tmod 16 = ((c.toNat % 16 : Nat) : Int) := by unfold iv; rfl
        have ha := hx_get (c.toNat / 16) hn
        have hb := hx_get (c.toNat % 16) hm
        unfold sixteen at ha hb
        have hr := iv_lt c
        clear c34 c92 c10 c9 c13
        generalize hx (c.toNat / 16) = p at *
        generalize hx (c.toNat % 16) = q at *
        generalize c.toNat / 16 = n at *
        generalize c.toNat % 16 = m at *
        generalize iv c = x at *
        have ew : IntKind.u8.wrap (n : Int) = n := by unfold IntKind.wrap; simp [IntKind.bits, IntKind.signed]; omega
        have em : IntKind.u8.wrap (m : Int) = m := by unfold IntKind.wrap; simp [IntKind.bits, IntKind.signed]; omega
        have hn' : (n : Int) < 16 := by omega
        have hm' : (m : Int) < 16 := by omega
        by_cases d1 : 32 ≤ x
        · have d2 : ¬ x ≤ 126 := by omega
          clear c6
          go_wp2_with fail
          go_region_held3 (fun _ => True) (trivial)
            ((refine step_own _ rfl _ _ 97 rfl w.heap.size 5 i0 (.int .u8 0) 1 1 Tryd.underlying97 hi hz0 hz1 hz2 rfl (by decide) (.slice va L.length vc) L.length (Lib.byteCells L) rfl ((ownb_drew1 OW.out).alloc _) ⟨wr.heap.size, 0, none⟩ 4 4 [.int .u8 92, .int .u8 120, .int .u8 (iv p), .int .u8 (iv q)] rfl rfl (cells_new wr.drew [.int .u8 92, .int .u8 120, .int .u8 (iv p), .int .u8 (iv q)] 5) (by intro u hu; simp at hu; rcases hu with rfl | rfl | rfl | rfl <;> rfl) (by unfold maxLen; omega) (by omega) (by simp; omega) ?_; intro v' w1 hown' hgrow; have B1 := hid (show Below w.heap.size w w1 from ((below_drew1 HB.out).alloc (by simpa using HB.out.size) _).grown hgrow (by simp; omega) (ownb_block OW.out)); have O1 := hid (show OwnB w1 w.heap.size v' (L ++ [92, 120, p, q]) from ownb_app rfl hown'); clear hown' hgrow; obtain ⟨va', vc', hv'⟩ := ownb_form O1.out; subst hv'))
          all_goals go_wp2_with fail
          all_goals exact ⟨⟨k + 1, by omega, by go_num, B1, by rw [HK.out, show L.length + 4 = (L ++ [92, 120, p, q]).length by simp]; exact O1⟩, by simp [intOf]; omega⟩
        · clear c6
          go_wp2_with fail
          go_region_held3 (fun _ => True) (trivial)
            ((refine step_own _ rfl _ _ 97 rfl w.heap.size 5 i0 (.int .u8 0) 1 1 Tryd.underlying97 hi hz0 hz1 hz2 rfl (by decide) (.slice va L.length vc) L.length (Lib.byteCells L) rfl ((ownb_drew1 OW.out).alloc _) ⟨wr.heap.size, 0, none⟩ 4 4 [.int .u8 92, .int .u8 120, .int .u8 (iv p), .int .u8 (iv q)] rfl rfl (cells_new wr.drew [.int .u8 92, .int .u8 120, .int .u8 (iv p), .int .u8 (iv q)] 5) (by intro u hu; simp at hu; rcases hu with rfl | rfl | rfl | rfl <;> rfl) (by unfold maxLen; omega) (by omega) (by simp; omega) ?_; intro v' w1 hown' hgrow; have B1 := hid (show Below w.heap.size w w1 from ((below_drew1 HB.out).alloc (by simpa using HB.out.size) _).grown hgrow (by simp; omega) (ownb_block OW.out)); have O1 := hid (show OwnB w1 w.heap.size v' (L ++ [92, 120, p, q]) from ownb_app rfl hown'); clear hown' hgrow; obtain ⟨va', vc', hv'⟩ := ownb_form O1.out; subst hv'))
          all_goals go_wp2_with fail
          all_goals exact ⟨⟨k + 1, by omega, by go_num, B1, by rw [HK.out, show L.length + 4 = (L ++ [92, 120, p, q]).length by simp]; exact O1⟩, by simp [intOf]; omega⟩
    · obtain rfl : k = s.size := by omega
      rw [List.take_of_length_le (by simp)] at OW hlen
      generalize hL : 34 :: s.data.toList.flatMap qB = L at *
      obtain ⟨va, vc, rfl⟩ := ownb_form OW.out
      have HQ := hid (show quoteL s.data.toList = L ++ [34] by unfold quoteL; rw [hL])
      clear hL
      go_wp2_with (at_builtin; refine wpList_append_own _ rfl _ _ 97 rfl w.heap.size 5 i0 (.int .u8 0) 1 1 Tryd.underlying97 hi hz0 hz1 hz2 rfl (by decide) _ _ _ rfl (OW.out.alloc _) ⟨wr.heap.size, 0, none⟩ 1 1 [.int .u8 34] rfl rfl (cells_new wr [.int .u8 34] 5) (by intro u hu; simp at hu; subst hu; rfl) (by unfold maxLen; omega) (by omega) (by simp; omega) ?_)
      intro v' w1 hown' hgrow _
      have hb1 : Below w.heap.size w w1 := (HB.out.alloc HB.out.size _).grown hgrow (by simp; omega) (ownb_block OW.out)
      have O1 := hid (show OwnB w1 w.heap.size v' (L ++ [34]) from ownb_app rfl hown')
      have B1 := hid hb1
      generalize L ++ [34] = M at *
      have hcv := conv_own O1.out
      obtain ⟨va', vc', rfl⟩ := ownb_form O1.out
      clear hown' hgrow hb1 OW HB
      go_wp2
      go_ret
      refine ⟨?_, B1.out⟩
      rw [HQ.out]
      rfl
end Go.Proofs.YtdnoagebcolgbaaDoor.L
