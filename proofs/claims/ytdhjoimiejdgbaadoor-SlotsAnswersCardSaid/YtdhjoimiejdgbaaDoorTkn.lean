import Derived.Test.YtdhjoimiejdgbaaDoorVw
namespace Go.Proofs.YtdhjoimiejdgbaaDoor.L
open Go.RowKit Go.Shelf
set_option linter.unusedVariables false
attribute [local go_sem] Oper.semAt_some
theorem infoP : (Tryd.prog.info? 92).map (fun i => (i.zero, i.size, i.bytes)) = some (some (.agg #[.int .i64 0, .string ByteArray.empty]), 2, 24) := by kernel_rfl
def cellsP (l : List Sn) : List Value := l.flatMap fun x => [.int .i64 (x.1 : Int), .string x.2]
theorem cellsP_snoc (l : List Sn) (x : Sn) : cellsP (l ++ [x]) = cellsP l ++ [.int .i64 (x.1 : Int), .string x.2] := by simp [cellsP]
theorem run_eql_walk (w : World) (f : Fn) (a b : Array Value) : (binOp .eql 87 (.func f a b) .nilFunc).run Tryd.prog w = .ok (.bool false) w := by
  have h : ∀ d, (Op.equalIn (d + 1) 87 (.func f a b) .nilFunc).run Tryd.prog w = .ok false w := fun d => by
    simp [Op.equalIn, run_underlying Tryd.underlying87]
  simp only [binOp]
  simp [Op.equal, Op.maxDepth, h 9999]
theorem cell_two_new2 (w : World) (x y : Value) (t : TypeId) : ∀ j u, [x, y][j]? = some u → (w.alloc (.cells #[x, y] t)).cell? ((⟨w.heap.size, 0, none⟩ : Addr).add j) = some u := by
  intro j u h
  rw [Go.WideShapes.add_plain]
  rw [cell_of_row (w.alloc (.cells #[x, y] t)) w.heap.size (0 + j) _ _ _ (heap_alloc_new w _)]
  simpa using h
abbrev OwnP (w : World) (base : Nat) (v : Value) (ps : List Sn) : Prop := w.ownsRow base 92 2 v ps.length (cellsP ps)
set_option maxHeartbeats 4000000 in
set_option maxRecDepth 100000 in
theorem taken_zero (pv : Value) (n : Int) (w : World) (hn : n ≤ 0) : Calls Tryd.prog 53 #[pv, .int .i64 n] w fun e w' => ∃ v, e = .returned v ∧ OwnP w' w.heap.size v [] ∧ Below w.heap.size w w' := by
  have HB := hid ((((Below.refl _ w).alloc (Nat.le_refl _) (.cells #[.int .i64 n] 3)).alloc (by simp) (.cells #[] 92)).alloc (B := w.heap.size) (by simp; omega) (.cells #[.slice (some ⟨w.heap.size + 1, 0, none⟩) 0 0] 90))
  have hO : ((w.alloc (.cells #[.int .i64 n] 3)).alloc (.cells #[] 92)).ownsRow w.heap.size 92 2 (.slice (some ⟨w.heap.size + 1, 0, none⟩) 0 0) 0 [] := by
    have := World.ownsRow_made (w.alloc (.cells #[.int .i64 n] 3)) (e := 92) (size := 2) #[] 0 (base := w.heap.size) (by simp) (Nat.zero_le _) rfl
    simpa using this
  have HO := hid (hO.alloc (.cells #[.slice (some ⟨w.heap.size + 1, 0, none⟩) 0 0] 90))
  clear hO
  go_enter Tryd.func53, Tryd.ntmps53
  go_wp2
  go_ret
  exact ⟨_, rfl, HO.out, HB.out⟩
set_option maxHeartbeats 4000000 in
set_option maxRecDepth 100000 in
theorem taken_core (pv : Value) (ss : List ByteArray) (n : Nat) (w : World) (hn0 : 0 < n) (hnm : n ≤ 66000) (hl : ss.length ≤ 65536)
    (AL : Hid (∀ W, Below w.heap.size w W → Calls Tryd.prog 41 #[pv] W fun e w' => ∃ X v, e = .returned (allF X) ∧ W.heap.size ≤ X ∧ w'.heap[X]? = some (.cells #[v] 72 (0, 0)) ∧ OwnS w' W.heap.size v ss ∧ Below W.heap.size W w')) :
    Calls Tryd.prog 53 #[pv, .int .i64 (n : Int)] w fun e w' => ∃ v, e = .returned v ∧ OwnP w' w.heap.size v ((tk ss).take n) ∧ Below w.heap.size w w' := by
  obtain ⟨i0, hi, hz0, hz1, hz2⟩ := info_parts infoP
  have hq := run_eql_walk
  have hnp : ¬ ((n : Int) ≤ 0) := by omega
  have hnp2 : decide ((n : Int) ≤ 0) = false := decide_eq_false hnp
  refine (callsIn_wide (n := 3)).1 ?_
  refine callsIn_of_wp_marks Tryd.func53 rfl trivial ?_ rfl
  simp only [Tryd.ntmps53, List.size_toArray, List.length_cons, List.length_nil, Nat.reduceAdd, Nat.reduceSub, Array.replicate_succ, Array.replicate_zero, List.push_toArray, List.append_toArray, List.nil_append, List.cons_append]
  have BW2 : Below w.heap.size w (((w.alloc (.cells #[.int .i64 (n : Int)] 3)).alloc (.cells #[] 92)).alloc (.cells #[.slice (some ⟨w.heap.size + 1, 0, none⟩) 0 0] 90)) := (((Below.refl _ w).alloc (Nat.le_refl _) _).alloc (by simp) _).alloc (by simp; omega) _
  gi_wp2_with (first
    | (refine ⟨trivial, ?_⟩; gi_at_call 41; refine (callsIn_wide.2 (AL.out _ BW2)).mono ?_
       rintro e w3 ⟨X, v3, he, hX, hbox, O3, B3⟩; unfold allF at he; subst he))
  obtain ⟨w2', hw2'⟩ : ∃ W, W = ((w.alloc (.cells #[.int .i64 (n : Int)] 3)).alloc (.cells #[] 92)).alloc (.cells #[.slice (some ⟨w.heap.size + 1, 0, none⟩) 0 0] 90) := ⟨_, rfl⟩
  rw [← hw2'] at hX O3 B3 BW2
  have hs2' : w2'.heap.size = w.heap.size + 3 := by rw [hw2']; simp
  have bx2 : Boxed w2' (w.heap.size + 1 + 1) 90 (.slice (some ⟨w.heap.size + 1, 0, none⟩) 0 0) := by
    have := heap_alloc_new ((w.alloc (.cells #[.int .i64 (n : Int)] 3)).alloc (.cells #[] 92)) (.cells #[.slice (some ⟨w.heap.size + 1, 0, none⟩) 0 0] 90)
    rw [← hw2'] at this
    unfold Boxed
    simpa using this
  have nb2 : Boxed w2' w.heap.size 3 (.int .i64 (n : Int)) := by
    rw [hw2']
    exact ((Boxed.new w _ _).alloc _).alloc _
  have ow2 : w2'.ownsRow w.heap.size 92 2 (.slice (some ⟨w.heap.size + 1, 0, none⟩) 0 0) 0 [] := by
    rw [hw2']
    have := World.ownsRow_made (w.alloc (.cells #[.int .i64 (n : Int)] 3)) (e := 92) (size := 2) #[] 0 (base := w.heap.size) (by simp) (Nat.zero_le _) rfl
    exact (by simpa using this : ((w.alloc (.cells #[.int .i64 (n : Int)] 3)).alloc (.cells #[] 92)).ownsRow w.heap.size 92 2 (.slice (some ⟨w.heap.size + 1, 0, none⟩) 0 0) 0 []).alloc _
  have hn0' : w2'.heap.size ≤ w3.heap.size := B3.size
  have BW3 : Below w.heap.size w w3 := BW2.trans (B3.mono BW2.size)
  have bx3 : Boxed w3 (w.heap.size + 1 + 1) 90 (.slice (some ⟨w.heap.size + 1, 0, none⟩) 0 0) := (B3.block _ (by omega)).trans bx2
  have nb3 : Boxed w3 w.heap.size 3 (.int .i64 (n : Int)) := (B3.block _ (by omega)).trans nb2
  have ow3 : w3.ownsRow w.heap.size 92 2 (.slice (some ⟨w.heap.size + 1, 0, none⟩) 0 0) 0 [] := own_stays ow2 (fun g hg => B3.block g (by simp [Value.ownBlock] at hg; omega))
  have hXlt : X < w3.heap.size := lt_of_block hbox
  have hXc : w3.cell? ⟨X, 0, none⟩ = some v3 := by rw [cell_of_row w3 X 0 _ _ _ hbox]; rfl
  have hSl : SlS w2'.heap.size w3.heap.size w3 v3 ss := own_slS O3 (Nat.le_refl _)
  clear hw2' bx2 nb2 ow2 O3 hbox
  have hm0 : w.heap.size < w2'.heap.size := by omega
  have hII : ∀ Pp : Nat → Prop, OwnFrom w3.heap.size (fun (pre : List Sn) W => ((∃ v, Boxed W (w.heap.size + 1 + 1) 90 v ∧ W.ownsRow w.heap.size 92 2 v pre.length (cellsP pre) ∧ (∃ k, v.ownBlock = some k ∧ (k < w2'.heap.size ∨ w3.heap.size ≤ k))) ∧ Boxed W w.heap.size 3 (.int .i64 (n : Int))) ∧ (Below w.heap.size w W ∧ w3.heap.size ≤ W.heap.size) ∧ Pp pre.length) := fun Pp =>
    OwnFrom.and (OwnFrom.and (Own.from (holdsRow_own w.heap.size (w.heap.size + 1 + 1) 90 92 2 (fun pre => pre.length) cellsP (fun _ v => ∃ k, v.ownBlock = some k ∧ (k < w2'.heap.size ∨ w3.heap.size ≤ k))) _) (Own.from (boxed_own w.heap.size 3 (fun _ => .int .i64 (n : Int))) _))
      (OwnFrom.and (OwnFrom.and (ownFrom_below (Nat.le_refl _) (by omega)) (Own.from (fun s A B row hs hg hr => Nat.le_trans hs hg.size) _)) (Own.from (fun s A B row hs hg hr => hs) _))
  have htl : (tk ss).length ≤ 65536 := Nat.le_trans (tkK_len ss _) hl
  have HS2 := hid hs2'
  clear hs2'
  refine wpIn_rangeFunc_ownH rfl (by decide) (gf := 77) (lb := #[.pointer (some ⟨X, 0, none⟩)]) rfl trivial (enters_of Tryd.func77 (by kernel_rfl) rfl)
    (seq_stops (3 - 1) (by decide) w2'.heap.size X v3 ss hl w3 hXc hXlt hSl)
    Mid.trans (fun W l o o' hl h _ _ => Mid.of (N := w3.heap.size) ((Below.refl _ W).grown (grownBy_putObj' W l o') (by have := (Array.getElem?_eq_some_iff.1 h).1; omega) (fun k e => by cases e; exact hl)) (Nat.le_refl _)) (Below.refl _ _) (fun _ => rfl)
    (fun (pre : List Sn) W => ((∃ v, Boxed W (w.heap.size + 1 + 1) 90 v ∧ W.ownsRow w.heap.size 92 2 v pre.length (cellsP pre) ∧ (∃ k, v.ownBlock = some k ∧ (k < w2'.heap.size ∨ w3.heap.size ≤ k))) ∧ Boxed W w.heap.size 3 (.int .i64 (n : Int))) ∧ (Below w.heap.size w W ∧ w3.heap.size ≤ W.heap.size) ∧ pre.length < n)
    (fun c (pre : List Sn) W => ((∃ v, Boxed W (w.heap.size + 1 + 1) 90 v ∧ W.ownsRow w.heap.size 92 2 v pre.length (cellsP pre) ∧ (∃ k, v.ownBlock = some k ∧ (k < w2'.heap.size ∨ w3.heap.size ≤ k))) ∧ Boxed W w.heap.size 3 (.int .i64 (n : Int))) ∧ (Below w.heap.size w W ∧ w3.heap.size ≤ W.heap.size) ∧ (pre.length = n ∧ c = Code.exit 0))
    (hII (fun k => k < n)) (fun c => hII (fun k => k = n ∧ c = Code.exit 0)) ⟨⟨⟨_, bx3, ow3, ⟨w.heap.size + 1, rfl, Or.inl (by have := HS2.out; omega)⟩⟩, nb3⟩, ⟨BW3, Nat.le_refl _⟩, hn0⟩
    (fun x a' W => a' = { tmps := #[pv, .int .i64 (n : Int), undef, .pointer (some ⟨w.heap.size, 0, none⟩), .slice none 0 0, .pointer (some ⟨w.heap.size + 1 + 1, 0, none⟩), allF X, .int .i64 (x.1 : Int), .string x.2, .slice (some ⟨w.heap.size + 1, 0, none⟩) 0 0, .int .i64 (n : Int), .bool false, undef, pv, allF X, allF X, .bool false, undef, undef, allF X, .int .i64 (x.1 : Int), .string x.2, undef, undef, undef, undef, undef, undef, undef, undef, undef, undef, undef], defers := [] })
    (fun x a' => fun _ A B row hs hg hr => hs) ?assign ?body ?done ?stop
  case assign =>
    rintro l pre x W K hi hK
    have HK := hid hK
    have HI := hid hi
    clear hK hi
    simp only [dv]
    gi_wp2
    exact HK.out _ _ ((KeepsOthers.refl _).from _) (Mid.refl _ _ _) HI.out rfl
  case body =>
    rintro l pre x a' W hl hr ⟨⟨⟨v, hv, hrow, hloc⟩, hnb⟩, ⟨hB, hN⟩, hlen⟩ rfl hlt
    have hc := hv.cell
    have hf := hv.frozen
    have nc := hnb.cell
    have HR := hid hrow
    have HV := hid hv
    have HB := hid hB
    have HLC := hid hloc
    have HNB := hid hnb
    have hsz : w.heap.size + 1 + 1 < W.heap.size := by have := HS2.out; omega
    clear hrow hv hB hr hloc hnb
    obtain ⟨xk, xs⟩ := x
    by_cases hbrk : pre.length + 1 = n
    · have hge : ((n : Int) ≤ (pre.length : Int) + 1) := by omega
      have HBK := hid hbrk
      clear hbrk
      gi_wp2_with (first
        | (gi_at_builtin; refine wpListIn_append_own_at _ rfl _ _ 90 rfl w.heap.size 92 i0 (.agg #[.int .i64 0, .string ByteArray.empty]) 2 24 Tryd.underlying90 hi hz0 hz1 hz2 rfl (by decide) _ _ _ rfl (HR.out.alloc _) ⟨W.heap.size, 0, none⟩ 1 1 [.int .i64 (xk : Int), .string xs] rfl rfl (cell_two_new2 _ _ _ _) (fun x hx => by simp at hx; rcases hx with rfl | rfl <;> rfl) (by unfold maxLen; omega) (by omega) (by simp; omega) ?_
           intro v' w4 hown' hgrow hnil hat
           obtain ⟨g', cap', rfl⟩ := ownsRow_succ hown'
           obtain ⟨hv1, hv2, hr2, hk2, hb2⟩ := HV.out.appended (by decide) HR.out HB.out.size (by omega) hown' hgrow
           have hnb2 := HNB.out.alloc (.cells #[.int .i64 (xk : Int), .string xs] 92)
           have hnb4 := hnb2.kept hgrow (HNB.out.not_row (by decide) HR.out)
           have HN5 := hid (hnb4.other (B' := w.heap.size + 1 + 1) (by omega) (.slice (some ⟨g', 0, none⟩) (pre.length + 1) cap'))
           have nc5 := HN5.out.cell
           have hc1 := hv1.cell
           have hf1 := hv1.frozen
           have hc2 := hv2.cell
           clear nc))
      obtain ⟨k0, hk0, hk1⟩ := HLC.out
      have LC : ∃ k, (Value.slice (some ⟨g', 0, none⟩) (pre.length + 1) cap').ownBlock = some k ∧ (k < w2'.heap.size ∨ w3.heap.size ≤ k) := by
        refine ⟨g', rfl, ?_⟩
        rcases hat with e | e
        · have e2 : some g' = v.ownBlock := e
          rw [hk0] at e2
          injection e2 with e2
          subst e2
          exact hk1
        · right
          simp [Value.ownBlock] at e
          omega
      have RW : (w4.setCell ⟨w.heap.size + 1 + 1, 0, none⟩ (.slice (some ⟨g', 0, none⟩) (pre.length + 1) cap')).ownsRow w.heap.size 92 2 (.slice (some ⟨g', 0, none⟩) (pre.length + 1) cap') (pre ++ [(xk, xs)]).length (cellsP (pre ++ [(xk, xs)])) := by
        rw [cellsP_snoc, List.length_append]
        exact hr2
      refine ⟨hk2.from _, ⟨⟨⟨_, hv2, RW, LC⟩, HN5.out⟩, ⟨HB.out.trans hb2, Nat.le_trans hN hb2.size⟩, by rw [List.length_append]; exact HBK.out, rfl⟩⟩
    · have hge : ¬ ((n : Int) ≤ (pre.length : Int) + 1) := by omega
      gi_wp2_with (first
        | (gi_at_builtin; refine wpListIn_append_own_at _ rfl _ _ 90 rfl w.heap.size 92 i0 (.agg #[.int .i64 0, .string ByteArray.empty]) 2 24 Tryd.underlying90 hi hz0 hz1 hz2 rfl (by decide) _ _ _ rfl (HR.out.alloc _) ⟨W.heap.size, 0, none⟩ 1 1 [.int .i64 (xk : Int), .string xs] rfl rfl (cell_two_new2 _ _ _ _) (fun x hx => by simp at hx; rcases hx with rfl | rfl <;> rfl) (by unfold maxLen; omega) (by omega) (by simp; omega) ?_
           intro v' w4 hown' hgrow hnil hat
           obtain ⟨g', cap', rfl⟩ := ownsRow_succ hown'
           obtain ⟨hv1, hv2, hr2, hk2, hb2⟩ := HV.out.appended (by decide) HR.out HB.out.size (by omega) hown' hgrow
           have hnb2 := HNB.out.alloc (.cells #[.int .i64 (xk : Int), .string xs] 92)
           have hnb4 := hnb2.kept hgrow (HNB.out.not_row (by decide) HR.out)
           have HN5 := hid (hnb4.other (B' := w.heap.size + 1 + 1) (by omega) (.slice (some ⟨g', 0, none⟩) (pre.length + 1) cap'))
           have nc5 := HN5.out.cell
           have hc1 := hv1.cell
           have hf1 := hv1.frozen
           have hc2 := hv2.cell
           clear nc))
      obtain ⟨k0, hk0, hk1⟩ := HLC.out
      have LC : ∃ k, (Value.slice (some ⟨g', 0, none⟩) (pre.length + 1) cap').ownBlock = some k ∧ (k < w2'.heap.size ∨ w3.heap.size ≤ k) := by
        refine ⟨g', rfl, ?_⟩
        rcases hat with e | e
        · have e2 : some g' = v.ownBlock := e
          rw [hk0] at e2
          injection e2 with e2
          subst e2
          exact hk1
        · right
          simp [Value.ownBlock] at e
          omega
      have RW : (w4.setCell ⟨w.heap.size + 1 + 1, 0, none⟩ (.slice (some ⟨g', 0, none⟩) (pre.length + 1) cap')).ownsRow w.heap.size 92 2 (.slice (some ⟨g', 0, none⟩) (pre.length + 1) cap') (pre ++ [(xk, xs)]).length (cellsP (pre ++ [(xk, xs)])) := by
        rw [cellsP_snoc, List.length_append]
        exact hr2
      refine ⟨hk2.from _, mid_app hgrow (fun k hk => by rw [show v.ownBlock = some k from hk] at hk0; injection hk0 with hk0; subst hk0; exact hk1) hN (by have := HS2.out; omega), ⟨⟨⟨_, hv2, RW, LC⟩, HN5.out⟩, ⟨HB.out.trans hb2, Nat.le_trans hN hb2.size⟩, ?_⟩⟩
      rw [List.length_append]
      simp
      omega
  case done =>
    rintro D ys W hD rfl ⟨⟨⟨v, hv, hrow, k0, hk0, hk1⟩, hnb⟩, ⟨hB, hN⟩, hlen⟩ hK
    have hc := hv.cell
    rcases own_form hrow with ⟨e, _⟩ | ⟨g, cap, e, _⟩
    · rw [e] at hk0; simp [Value.ownBlock] at hk0
    subst e
    have HV := hid hv
    have HR := hid hrow
    have HB := hid hB
    have HKD := hid hK
    clear hrow hB hv hk0 hk1 hK hnb
    have TE := hid (List.take_of_length_le (l := tk ss) (i := n) (Nat.le_of_lt hlen))
    gi_wp2_with fail
    refine ⟨by simp, .inl ⟨_, _, rfl, run_takeDeferred HKD.out, ?_⟩⟩
    refine ⟨_, results_tmp rfl _ _ _, _, rfl, ?_, HB.out.trans (belowK_b (w := w) (Nat.le_refl _) W D _ _ (by have := BW3.size; omega) HKD.out rfl rfl)⟩
    rw [TE.out]
    exact ownsRow_putObj HR.out _ HKD.out rfl
  case stop =>
    rintro D c pre W hD hSp ⟨⟨⟨v, hv, hrow, k0, hk0, hk1⟩, hnb⟩, ⟨hB, hN⟩, hlen, rfl⟩ hK
    have TE : Hid ((tk ss).take n = pre) := hid (by
      obtain ⟨r, hr⟩ := hSp
      rw [← hr, ← hlen, List.take_left])
    clear hSp hlen
    have hc := hv.cell
    rcases own_form hrow with ⟨e, _⟩ | ⟨g, cap, e, _⟩
    · rw [e] at hk0; simp [Value.ownBlock] at hk0
    subst e
    have HV := hid hv
    have HR := hid hrow
    have HB := hid hB
    have HKD := hid hK
    clear hrow hB hv hk0 hk1 hK hnb
    gi_wp2_with fail
    refine ⟨by simp, .inl ⟨_, _, rfl, run_takeDeferred HKD.out, ?_⟩⟩
    refine ⟨_, results_tmp rfl _ _ _, _, rfl, ?_, HB.out.trans (belowK_b (w := w) (Nat.le_refl _) W D _ _ (by have := BW3.size; omega) HKD.out rfl rfl)⟩
    rw [TE.out]
    exact ownsRow_putObj HR.out _ HKD.out rfl
end Go.Proofs.YtdhjoimiejdgbaaDoor.L
