import Derived.Test.YtfkijmmflpnncaaDoorMgAH
import Derived.Test.YtfkijmmflpnncaaDoorMgAM
import Derived.Maps.AppendAt
import Derived.Maps.OwnIn
import Derived.Test.YtfkijmmflpnncaaDoorStb
import Derived.Test.YtfkijmmflpnncaaDoorSst
import Derived.WalkKit
import Derived.WalkSpells
import Derived.WalkLawsBesides
import Derived.Handy
import Derived.Deep.QuietTactic
import Derived.BigQuiet
import Derived.OwnWalk
import Derived.Laws.AppendOwnNone
import Derived.Laws.Rows
import Derived.Maps.OwnSet
import Derived.StringKeys
import Derived.Test.YtfkijmmflpnncaaDoorProg
namespace Go.Proofs.YtfkijmmflpnncaaDoor.LT
open L
open Go.RowKit Go.Shelf
set_option linter.unusedVariables false
attribute [local go_sem] Oper.semAt_some
theorem seq_stops (n : Nat) (hn : 1 ≤ n) (m0 X : Nat) (v : Value) (ss : List ByteArray) (hl : ss.length ≤ 65536) (w0 : World) (h1 : w0.cell? ⟨X, 0, none⟩ = some v) (hX : X < w0.heap.size) (s1 : SlS m0 w0.heap.size w0 v ss) :
    SeqStopsK Fence.wide n Tryd.prog 54 #[.pointer (some ⟨X, 0, none⟩)] dv (Mid m0 w0.heap.size) (fun xs => xs = tk ss) (fun pre => pre <+: tk ss) (tk ss).length w0 := by
  intro l J Jx W hW hJ hJx hY h0
  exact iter_in n hn l m0 w0.heap.size X v ss hl J Jx (fun pre W W' h hb => hJ pre W W' none h (grown_of hb) (fun r e => by cases e)) hY W hW.size ((hW.cell (p := ⟨X, 0, none⟩) hX).trans h1) (s1.low (Mid.of hW (Nat.le_refl _))) h0
set_option maxHeartbeats 4000000 in
set_option maxRecDepth 100000 in
theorem names_core (pv : Value) (ss : List ByteArray) (c : Nat) (w : World) (hc : c ≤ 65536) (hl : ss.length ≤ 65536)
    (LN : Hid (Calls Tryd.prog 42 #[pv] w fun e w' => e = .returned (.int .i64 (c : Int)) ∧ w' = w))
    (AL : Hid (∀ W, Below w.heap.size w W → Calls Tryd.prog 43 #[pv] W fun e w' => ∃ X v, e = .returned (allF X) ∧ W.heap.size ≤ X ∧ w'.heap[X]? = some (.cells #[v] 61 (0, 0)) ∧ OwnS w' W.heap.size v ss ∧ Below W.heap.size W w')) :
    Calls Tryd.prog 23 #[pv] w fun e w' => ∃ v, e = .returned v ∧ OwnS w' w.heap.size v (srt ((tk ss).map (·.2))) ∧ Below w.heap.size w w' := by
  obtain ⟨i0, hi, hz0, hz1, hz2⟩ := info_parts infoS
  refine (callsIn_wide (n := 3)).1 ?_
  refine callsIn_of_wp_marks Tryd.func23 rfl trivial ?_ rfl
  simp only [Tryd.ntmps23, List.size_toArray, List.length_cons, List.length_nil, Nat.reduceAdd, Nat.reduceSub, Array.replicate_succ, Array.replicate_zero, List.push_toArray, List.append_toArray, List.nil_append, List.cons_append]
  gi_wp2_with (first
    | (refine ⟨trivial, ?_⟩; gi_at_call 42; refine (callsIn_wide.2 LN.out).mono ?_; rintro e w1 ⟨rfl, hw1⟩; replace hw1 := hw1.symm; subst hw1)
    | (gi_at_make; refine wpListIn_make_own _ rfl _ _ 61 rfl w.heap.size 9 i0 (.string ByteArray.empty) 1 Tryd.underlying61 hi hz0 hz1 .i64 .i64 (c : Int) c rfl rfl rfl (by rw [hz2]; omega) (by unfold maxLen; omega) (Nat.le_refl _) ?_
       intro w2 hown2 hgrow2
       have hs2 : w.heap.size < w2.heap.size := (hown2.lt w.heap.size rfl).2
       have B2 := grown_low hgrow2)
    | (refine ⟨trivial, ?_⟩; gi_at_call 43; refine (callsIn_wide.2 (AL.out _ (B2.alloc B2.size _))).mono ?_
       rintro e w3 ⟨X, v3, rfl, hX, hbox, O3, B3⟩))
  obtain ⟨w2', hw2'⟩ : ∃ W, W = w2.alloc (.cells #[.slice (some ⟨w.heap.size, 0, none⟩) 0 c] 61) := ⟨_, rfl⟩
  rw [← hw2'] at hX O3 B3
  have hs2' : w2'.heap.size = w2.heap.size + 1 := by rw [hw2']; simp
  have BW2 : Below w.heap.size w w2' := by rw [hw2']; exact B2.alloc B2.size _
  have bx2 : Boxed w2' w2.heap.size 61 (.slice (some ⟨w.heap.size, 0, none⟩) 0 c) := by rw [hw2']; exact World.alloc_heap_new w2 _
  have ow2 : w2'.ownsRow w.heap.size 9 1 (.slice (some ⟨w.heap.size, 0, none⟩) 0 c) 0 [] := by rw [hw2']; exact hown2.alloc _
  have hn0 : w2'.heap.size ≤ w3.heap.size := B3.size
  have BW3 : Below w.heap.size w w3 := BW2.trans (B3.mono BW2.size)
  have bx3 : Boxed w3 w2.heap.size 61 (.slice (some ⟨w.heap.size, 0, none⟩) 0 c) := (B3.block w2.heap.size (by omega)).trans bx2
  have ow3 : w3.ownsRow w.heap.size 9 1 (.slice (some ⟨w.heap.size, 0, none⟩) 0 c) 0 [] := own_stays ow2 (fun g hg => B3.block g (by simp [Value.ownBlock] at hg; omega))
  have hXlt : X < w3.heap.size := lt_of_block hbox
  have hXc : w3.cell? ⟨X, 0, none⟩ = some v3 := by rw [cell_of_row w3 X 0 _ _ _ hbox]; rfl
  have hSl : SlS w2'.heap.size w3.heap.size w3 v3 ss := own_slS O3 (Nat.le_refl _)
  clear hw2' hown2 hgrow2 bx2 ow2 B2 O3 hbox
  have hI : OwnFrom w3.heap.size (fun (pre : List Sn) W => (∃ v, Boxed W w2.heap.size 61 v ∧ W.ownsRow w.heap.size 9 1 v pre.length (cellsN pre) ∧ (∃ k, v.ownBlock = some k ∧ (k < w2'.heap.size ∨ w3.heap.size ≤ k))) ∧ (Below w.heap.size w W ∧ w3.heap.size ≤ W.heap.size)) :=
    OwnFrom.and (Own.from (holdsRow_own w.heap.size w2.heap.size 61 9 1 (fun pre => pre.length) cellsN (fun _ v => ∃ k, v.ownBlock = some k ∧ (k < w2'.heap.size ∨ w3.heap.size ≤ k))) _) (OwnFrom.and (ownFrom_below (Nat.le_refl _) (by omega)) (Own.from (fun s A B row hs hg hr => Nat.le_trans hs hg.size) _))
  have htl : (tk ss).length ≤ 65536 := Nat.le_trans (tkK_len ss _) hl
  have hm0 : w.heap.size < w2'.heap.size := by omega
  have HS2 := hid hs2'
  clear hs2'
  refine wpIn_rangeFunc_ownH rfl (by decide) (gf := 54) (lb := #[.pointer (some ⟨X, 0, none⟩)]) rfl trivial (enters_of Tryd.func54 (by kernel_rfl) rfl)
    (seq_stops (3 - 1) (by decide) w2'.heap.size X v3 ss hl w3 hXc hXlt hSl)
    Mid.trans (fun W l o o' hl h _ _ => Mid.of (N := w3.heap.size) ((Below.refl _ W).grown (grownBy_putObj' W l o') (by have := (Array.getElem?_eq_some_iff.1 h).1; omega) (fun k e => by cases e; exact hl)) (Nat.le_refl _)) (Below.refl _ _) (fun _ => rfl)
    (fun (pre : List Sn) W => (∃ v, Boxed W w2.heap.size 61 v ∧ W.ownsRow w.heap.size 9 1 v pre.length (cellsN pre) ∧ (∃ k, v.ownBlock = some k ∧ (k < w2'.heap.size ∨ w3.heap.size ≤ k))) ∧ (Below w.heap.size w W ∧ w3.heap.size ≤ W.heap.size))
    (fun _ _ _ => False) hI (fun c => fun _ _ _ _ hs _ _ => hs) ⟨⟨_, bx3, ow3, ⟨w.heap.size, rfl, Or.inl hm0⟩⟩, BW3, Nat.le_refl _⟩
    (fun x a' W => a' = { tmps := #[pv, undef, .slice none 0 0, .pointer (some ⟨w2.heap.size, 0, none⟩), undef, .string x.2, pv, .int .i64 (c : Int), .slice (some ⟨w.heap.size, 0, none⟩) 0 c, pv, allF X, .int .i64 (x.1 : Int), .string x.2, undef, undef, undef, undef, undef, undef, undef], defers := [] })
    (fun x a' => fun _ A B row hs hg hr => hs) ?assign ?body ?done ?stop
  case assign =>
    rintro l pre x W K hi hK
    have HK := hid hK
    have HI := hid hi
    clear hK hi
    simp only [dv]
    gi_wp2
    exact HK.out _ _ ((KeepsOthers.refl _).from _) (Mid.refl _ _ _) HI.out rfl
  case body =>
    rintro l pre x a' W hl hr ⟨⟨v, hv, hrow, hloc⟩, hB, hN⟩ rfl hlt
    have hc := hv.cell
    have hf := hv.frozen
    have HR := hid hrow
    have HV := hid hv
    have HB := hid hB
    have HLC := hid hloc
    have hsz : w2.heap.size < W.heap.size := by have := HS2.out; omega
    clear hrow hv hB hr hloc
    obtain ⟨xk, xs⟩ := x
    gi_wp2_with (first
      | (gi_at_builtin; refine wpListIn_append_own_at _ rfl _ _ 61 rfl w.heap.size 9 i0 (.string ByteArray.empty) 1 16 Tryd.underlying61 hi hz0 hz1 hz2 rfl (by decide) _ _ _ rfl (HR.out.alloc _) ⟨W.heap.size, 0, none⟩ 1 1 [.string xs] rfl rfl (cell_one_new _ _ _) (fun x hx => by simp at hx; subst hx; rfl) (by unfold maxLen; omega) (by omega) (by simp; omega) ?_
         intro v' w4 hown' hgrow hnil hat
         obtain ⟨g', cap', rfl⟩ := ownsRow_succ hown'
         obtain ⟨hv1, hv2, hr2, hk2, hb2⟩ := HV.out.appended (by decide) HR.out HB.out.size (by omega) hown' hgrow
         have hc1 := hv1.cell
         have hf1 := hv1.frozen))
    obtain ⟨k0, hk0, hk1⟩ := HLC.out
    refine ⟨hk2.from _, mid_app hgrow (fun k hk => by rw [show v.ownBlock = some k from hk] at hk0; injection hk0 with hk0; subst hk0; exact hk1) hN (by have := HS2.out; omega), ⟨⟨_, hv2, ?_, ?_⟩, HB.out.trans hb2, Nat.le_trans hN hb2.size⟩⟩
    · rw [cellsN_snoc, List.length_append]
      exact hr2
    · refine ⟨g', rfl, ?_⟩
      rcases hat with e | e
      · have e2 : some g' = v.ownBlock := e
        rw [hk0] at e2
        injection e2 with e2
        subst e2
        exact hk1
      · right
        simp [Value.ownBlock] at e
        omega
  case done =>
    rintro D ys W hD rfl ⟨⟨v, hv, hrow, k0, hk0, hk1⟩, hB, hN⟩ hK
    obtain ⟨g, cap, e⟩ : ∃ g cap, v = .slice (some ⟨g, 0, none⟩) (tk ss).length cap := by
      rcases own_form hrow with ⟨e, _⟩ | ⟨g, cap, e, _⟩
      · rw [e] at hk0; simp [Value.ownBlock] at hk0
      · exact ⟨g, cap, e⟩
    subst e
    have hc := hv.cell
    have el : ((tk ss).map (·.2)).length = (tk ss).length := by simp
    have SO := hid (sort_own g cap w.heap.size ((tk ss).map (·.2)) W (by rw [el, List.map_map]; exact hrow) (by rw [el]; exact htl))
    rw [el] at SO
    have HV := hid hv
    have HR := hid hrow
    have HB := hid hB
    have HKD := hid hK
    have hne := hid (hv.not_row (by decide) hrow)
    clear hrow hB hv hk0 hk1 hK
    generalize (tk ss).length = T at *
    gi_wp2_with (first
      | (refine ⟨trivial, ?_⟩; gi_at_call 44; refine (callsIn_wide.2 SO.out).mono ?_
         rintro e w5 ⟨rfl, O5, G5⟩
         have hv5 := HV.out.kept G5 hne.out
         have hc5 := hv5.cell
         have HO5 := hid O5
         have HG5 := hid G5
         clear O5 G5))
    have hK5 : w5.heap[D]? = some (.deferred (some [])) := (HG5.out.block D (Array.getElem?_eq_some_iff.1 HKD.out).1 (fun e => by
      injection e with e
      subst e
      rcases HR.out.2 with ⟨e, _⟩ | ⟨g', cap', cur, e, _, hh, _⟩
      · cases e
      · injection e with e1 _ _
        injection e1 with e1
        injection e1 with e1 _ _
        subst e1
        rw [HKD.out] at hh
        cases hh)).trans HKD.out
    have B5 : Below w.heap.size w w5 := HB.out.grown HG5.out HB.out.size (fun k e => by cases e; exact (HR.out.lt g rfl).1)
    have hs5 := HG5.out.size
    refine ⟨by simp, .inl ⟨_, _, rfl, run_takeDeferred hK5, ?_⟩⟩
    refine ⟨_, results_tmp rfl _ _ _, _, rfl, ?_, B5.trans (belowK_b (w := w) (Nat.le_refl _) w5 D _ _ (by have := BW3.size; omega) hK5 rfl rfl)⟩
    have hlen : (srt ((tk ss).map (·.2))).length = T := by rw [srt_len]; exact el
    unfold OwnS
    rw [hlen]
    exact ownsRow_putObj HO5.out _ hK5 rfl
  case stop =>
    rintro D c pre W _ _ h _
    exact h.elim
end Go.Proofs.YtfkijmmflpnncaaDoor.LT
namespace Go.Proofs.YtfkijmmflpnncaaDoor.LS
open L
open Go.RowKit Bs Go.Maps
set_option linter.unusedVariables false
/-- Rows in memory: a name and a number each. -/
abbrev Rw := ByteArray × ByteArray
def cellsR (l : List Rw) : List Value := l.flatMap fun x => [.string x.1, .string x.2]
theorem cellsR_cons (x : Rw) (l : List Rw) : cellsR (x :: l) = .string x.1 :: .string x.2 :: cellsR l := rfl
theorem cellsR_len : ∀ l : List Rw, (cellsR l).length = l.length * 2
  | [] => rfl
  | x :: l => by rw [cellsR_cons]; simp [cellsR_len l]; omega
theorem cellsR_app (l c : List Rw) : cellsR (l ++ c) = cellsR l ++ cellsR c := by simp [cellsR]
theorem cellsR_at0 : ∀ (l : List Rw) (j : Nat) (h : j < l.length), (cellsR l)[j * 2]? = some (.string (l[j]).1)
  | x :: l, 0, h => rfl
  | x :: l, j + 1, h => by rw [cellsR_cons, show (j + 1) * 2 = j * 2 + 1 + 1 by omega]; simpa using cellsR_at0 l j (by simpa using h)
theorem cellsR_at1 : ∀ (l : List Rw) (j : Nat) (h : j < l.length), (cellsR l)[j * 2 + 1]? = some (.string (l[j]).2)
  | x :: l, 0, h => rfl
  | x :: l, j + 1, h => by rw [cellsR_cons, show (j + 1) * 2 + 1 = j * 2 + 1 + 1 + 1 by omega]; simpa using cellsR_at1 l j (by simpa using h)
theorem cellsR_set : ∀ (l : List Rw) (j : Nat) (x : Rw), j < l.length → ((cellsR l).set (j * 2) (.string x.1)).set (j * 2 + 1) (.string x.2) = cellsR (l.set j x)
  | y :: l, 0, x, h => rfl
  | y :: l, j + 1, x, h => by
    have := cellsR_set l j x (by simpa using h)
    rw [cellsR_cons, show (j + 1) * 2 = j * 2 + 1 + 1 by omega]
    simp only [List.set_cons_succ, cellsR_cons, this]
theorem cellsR_set1 : ∀ (l : List Rw) (j : Nat) (v : ByteArray), j < l.length → (cellsR l).set (j * 2 + 1) (.string v) = cellsR (l.set j (nm l j, v))
  | y :: l, 0, v, h => rfl
  | y :: l, j + 1, v, h => by
    have := cellsR_set1 l j v (by simpa using h)
    rw [cellsR_cons, show (j + 1) * 2 + 1 = j * 2 + 1 + 1 + 1 by omega, nm_cons_succ]
    simp only [List.set_cons_succ, cellsR_cons, this]
theorem cellsR_take : ∀ (l : List Rw) (n : Nat), (cellsR l).take (n * 2) = cellsR (l.take n)
  | [], n => by simp [cellsR]
  | x :: l, 0 => by simp [cellsR]
  | x :: l, n + 1 => by
    rw [cellsR_cons, show (n + 1) * 2 = n * 2 + 1 + 1 by omega]
    simp only [List.take_succ_cons, cellsR_cons, cellsR_take l n]
/-! ### the map of names -/
abbrev OwnR (w : World) (v : Value) (l : List Rw) : Prop := w.ownsRow 0 82 2 v l.length (cellsR l)
/-- A table in memory: the struct, the map, the rows, the words. -/
structure Tm (w : World) (p m mb : Nat) (rs ks : Value) (D : DataW Unit) (l : List Rw) (ws : List Nat) : Prop where
  hp : w.heap[p]? = some (.cells #[.int .i64 (m : Int), .map (some mb), rs, ks] 75 (0, 0))
  hm : Own1 w mb 65536 D
  hr : OwnR w rs l
  hk : OwnK w ks ws
/-- What its parts have to do with one another. -/
structure Cp (m : Nat) (D : DataW Unit) (l : List Rw) (ws : List Nat) : Prop where
  ok : OkS m l
  mo : MapOf D l
  wd : Wd ws
  bt : ∀ i, mem ws i = isT l i
  wl : ws.length ≤ 1024
/-- A TABLE: its most, its rows, its blocks. -/
def Tb (w : World) (p m : Nat) (l : List Rw) (F : List Nat) : Prop := ∃ mb rs ks D ws, Tm w p m mb rs ks D l ws ∧ Cp m D l ws ∧ F = fp p mb rs ks
theorem Tm.frame {w w' : World} {p m mb : Nat} {rs ks : Value} {D : DataW Unit} {l : List Rw} {ws : List Nat} (h : Tm w p m mb rs ks D l ws) (hk : ∀ k ∈ fp p mb rs ks, w'.heap[k]? = w.heap[k]?) : Tm w' p m mb rs ks D l ws :=
  ⟨(hk p (by simp [fp])).trans h.hp, owns_stays h.hm (hk mb (by simp [fp])), own_stays h.hr (fun g hg => hk g (by simp [fp, hg])), own_stays h.hk (fun g hg => hk g (by simp [fp, hg]))⟩
theorem Tb.frame {w w' : World} {p m : Nat} {l : List Rw} {F : List Nat} (h : Tb w p m l F) (hk : ∀ k ∈ F, w'.heap[k]? = w.heap[k]?) : Tb w' p m l F := by
  obtain ⟨mb, rs, ks, D, ws, h1, h2, rfl⟩ := h
  exact ⟨mb, rs, ks, D, ws, h1.frame hk, h2, rfl⟩
theorem Tm.lt {w : World} {p m mb : Nat} {rs ks : Value} {D : DataW Unit} {l : List Rw} {ws : List Nat} (h : Tm w p m mb rs ks D l ws) : ∀ k ∈ fp p mb rs ks, k < w.heap.size := by
  intro k hk
  unfold fp at hk
  simp at hk
  rcases hk with rfl | rfl | hk | hk
  · exact lt_of_block h.hp
  · exact owns_lt h.hm
  · exact (h.hr.lt k hk).2
  · exact (h.hk.lt k hk).2
theorem Tb.lt {w : World} {p m : Nat} {l : List Rw} {F : List Nat} (h : Tb w p m l F) : ∀ k ∈ F, k < w.heap.size := by
  obtain ⟨mb, rs, ks, D, ws, h1, h2, rfl⟩ := h
  exact h1.lt
theorem Tb.low {w w' : World} {p m : Nat} {l : List Rw} {F : List Nat} (h : Tb w p m l F) (hb : Below w.heap.size w w') : Tb w' p m l F := h.frame (fun k hk => hb.block k (h.lt k hk))
theorem Tb.ok {w : World} {p m : Nat} {l : List Rw} {F : List Nat} (h : Tb w p m l F) : OkS m l := by
  obtain ⟨mb, rs, ks, D, ws, h1, h2, rfl⟩ := h
  exact h2.ok
theorem Tb.mem {w : World} {p m : Nat} {l : List Rw} {F : List Nat} (h : Tb w p m l F) : p ∈ F := by
  obtain ⟨mb, rs, ks, D, ws, h1, h2, rfl⟩ := h
  simp [fp]
/-- Blocks of unlike kind are apart. -/
theorem Tm.ap {w : World} {p m mb : Nat} {rs ks : Value} {D : DataW Unit} {l : List Rw} {ws : List Nat} (h : Tm w p m mb rs ks D l ws) : p ≠ mb ∧ (∀ g, rs.ownBlock = some g → g ≠ p ∧ g ≠ mb ∧ ks.ownBlock ≠ some g) ∧ (∀ g, ks.ownBlock = some g → g ≠ p ∧ g ≠ mb ∧ rs.ownBlock ≠ some g) := by
  obtain ⟨es, clock, hb, _⟩ := h.hm
  have R : ∀ g, rs.ownBlock = some g → ∃ cur, w.heap[g]? = some (.cells cur 82 (0, 0)) := by
    intro g hg
    rcases h.hr.2 with ⟨e, _⟩ | ⟨g', cap, cur, e, _, hh, _⟩
    · rw [e] at hg; simp [Value.ownBlock] at hg
    · rw [e] at hg; simp [Value.ownBlock] at hg; subst hg; exact ⟨cur, hh⟩
  have K : ∀ g, ks.ownBlock = some g → ∃ cur, w.heap[g]? = some (.cells cur 97 (0, 0)) := by
    intro g hg
    rcases h.hk.2 with ⟨e, _⟩ | ⟨g', cap, cur, e, _, hh, _⟩
    · rw [e] at hg; simp [Value.ownBlock] at hg
    · rw [e] at hg; simp [Value.ownBlock] at hg; subst hg; exact ⟨cur, hh⟩
  refine ⟨fun e => ?_, fun g hg => ?_, fun g hg => ?_⟩
  · subst e; have := h.hp.symm.trans hb; simp at this
  · obtain ⟨cur, hc⟩ := R g hg
    refine ⟨fun e => ?_, fun e => ?_, fun e => ?_⟩
    · subst e; have := h.hp.symm.trans hc; simp at this
    · subst e; have := hb.symm.trans hc; simp at this
    · obtain ⟨cur', hc'⟩ := K g e
      have := hc'.symm.trans hc; simp at this
  · obtain ⟨cur, hc⟩ := K g hg
    refine ⟨fun e => ?_, fun e => ?_, fun e => ?_⟩
    · subst e; have := h.hp.symm.trans hc; simp at this
    · subst e; have := hb.symm.trans hc; simp at this
    · obtain ⟨cur', hc'⟩ := R g e
      have := hc'.symm.trans hc; simp at this
end Go.Proofs.YtfkijmmflpnncaaDoor.LS
