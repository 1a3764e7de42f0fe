import Derived.Test.YtnlohjcjboelgaaRows
import Derived.Test.YtnlohjcjboelgaaRShareA
import Derived.Deep.Slices
import Derived.Deep.RegionHeld3
import Derived.ProofKit
import Derived.OpenShut
import Derived.Lib.SmallJoins
namespace Go.Proofs.Ytnlohjcjboelgaa.quantShares
open Go.ChangeShapes Go.WideShapes Go.ChangeAt Go.RowKit Go.Joins Go.Lib
set_option linter.unusedVariables false
theorem below_drewN {B : Nat} {a w : World} (h : Below B a w) (n : Nat) : Below B a (w.drewN n) := ⟨h.os, h.tape, h.output, h.size, h.block⟩
set_option maxHeartbeats 1000000 in
theorem fixedShare_any (w : World) : Calls Try.prog 7 #[] w fun e w' => e = .returned (.bool true) ∧ ∃ n, w' = w.drewN n := by
  have h := share_any 1 3 100 (by decide) (by decide) (by decide) (by decide) w
  rw [show shareN 1 3 100 = (33, 0) by decide] at h
  have H := hid h
  clear h
  go_enter Try.func7, Try.ntmps7
  go_wp2_with (go_at_call 8; refine H.out.mono ?_; rintro e w1 ⟨rfl, k, hww⟩; subst hww)
  go_ret
  exact ⟨rfl, k, rfl⟩
/-- What both answer. -/
theorem both_share (p q s : Int) (h0 : -9223372036854775808 ≤ p ∧ p ≤ 9223372036854775807) (h1 : -9223372036854775808 ≤ q ∧ q ≤ 9223372036854775807) (h2 : -9223372036854775808 ≤ s ∧ s ≤ 9223372036854775807) :
    ∃ n e : Int, (∀ W, Calls Try.prog 8 #[.int .i64 p, .int .i64 q, .int .i64 s] W fun r w' => r = .returned (.tuple #[.int .i64 n, .int .i64 e]) ∧ ∃ k, w' = W.drewN k) ∧
      (∀ W, Calls Try.prog 9 #[.int .i64 p, .int .i64 q, .int .i64 s] W fun r w' => r = .returned (.tuple #[.int .i64 n, .int .i64 e]) ∧ ∃ k, w' = W.drewN k) := by
  by_cases bad : p < 0 ∨ s < 0 ∨ q < 1
  · exact ⟨0, 26, fun W => (share_zero p q s bad W).mono (by rintro r w' ⟨rfl, rfl⟩; exact ⟨rfl, 0, rfl⟩), fun W => (rshare_zero p q s bad W).mono (by rintro r w' ⟨rfl, rfl⟩; exact ⟨rfl, 0, rfl⟩)⟩
  · obtain ⟨p, rfl⟩ := Int.eq_ofNat_of_zero_le (show 0 ≤ p by omega)
    obtain ⟨q, rfl⟩ := Int.eq_ofNat_of_zero_le (show 0 ≤ q by omega)
    obtain ⟨s, rfl⟩ := Int.eq_ofNat_of_zero_le (show 0 ≤ s by omega)
    exact ⟨_, _, fun W => share_any p q s (by omega) (by omega) (by omega) (by omega) W, fun W => rshare_any p q s (by omega) (by omega) (by omega) (by omega) W⟩
/-- The list that came in. -/
def List3 (W : World) (a : Option Addr) (len : Nat) : Prop := len ≤ maxLen ∧ (len = 0 ∨ ∃ b off, a = some ⟨b, off, none⟩ ∧ b < W.heap.size ∧ ∀ j, j < len → ∃ p q s : Int, W.cell? ⟨b, off + j * 3, none⟩ = some (.int .i64 p) ∧ W.cell? ⟨b, off + j * 3 + 1, none⟩ = some (.int .i64 q) ∧ W.cell? ⟨b, off + j * 3 + 2, none⟩ = some (.int .i64 s) ∧
    (-9223372036854775808 ≤ p ∧ p ≤ 9223372036854775807) ∧ (-9223372036854775808 ≤ q ∧ q ≤ 9223372036854775807) ∧ (-9223372036854775808 ≤ s ∧ s ≤ 9223372036854775807))
set_option maxHeartbeats 4000000 in
theorem walk (a : Option Addr) (len cap : Nat) (w : World) (hl : List3 w a len) :
    Calls Try.prog 4 #[.slice a len cap] w fun e w' => e = .returned (.bool true) ∧ Below w.heap.size w w' := by
  have HS := hid (fun W => fixedShare_any W)
  have HL := hid hl
  have hlen : len ≤ maxLen := hl.1
  unfold maxLen at hlen
  clear hl
  go_enter Try.func4, Try.ntmps4
  go_wp2_with (go_at_call 7; refine (HS.out _).mono ?_; rintro e w1 ⟨rfl, k, hww⟩; subst hww)
  go_loopw [13] (fun i wr => ∃ j : Nat, j ≤ len ∧ i = .int .i64 j ∧ Hid (Below w.heap.size w wr)) (fun i _ => len - (intOf i).toNat)
  case atStart => exact ⟨0, Nat.zero_le _, rfl, hid (below_drewN (Below.refl _ _) k)⟩
  case round =>
    obtain ⟨j, hj, rfl, HB⟩ := hrel
    by_cases hlt : j < len
    · rcases HL.out.2 with h0 | ⟨b, off, rfl, hbl, hc⟩
      · omega
      obtain ⟨p, q, s, c0, c1, c2, r0, r1, r2⟩ := hc j hlt
      rw [← HB.out.cell (p := ⟨b, off + j * 3, none⟩) hbl] at c0
      rw [← HB.out.cell (p := ⟨b, off + j * 3 + 1, none⟩) hbl] at c1
      rw [← HB.out.cell (p := ⟨b, off + j * 3 + 2, none⟩) hbl] at c2
      obtain ⟨n, er, h1, h2⟩ := both_share p q s r0 r1 r2
      have H1 := hid h1
      have H2 := hid h2
      have HB1 := hid hbl
      have hsz : b < wr.heap.size := Nat.lt_of_lt_of_le hbl HB.out.size
      clear h1 h2 hc r0 r1 r2 hbl
      go_wp2_with (first | (go_at_call 8; refine (H1.out _).mono ?_; rintro e w1 ⟨rfl, k1, hww⟩; subst hww) | (go_at_call 9; refine (H2.out _).mono ?_; rintro e w1 ⟨rfl, k2, hww⟩; subst hww))
      exact ⟨⟨j + 1, by omega, by go_num, hid (below_drewN (HB.out.alloc HB.out.size _) _)⟩, by simp [intOf]; omega⟩
    · obtain rfl : j = len := by omega
      go_wp2
      go_ret
      exact ⟨rfl, HB.out⟩
theorem own : ownKnob Try.prog.godebug = none := by kernel_rfl
theorem laidOut : laidOutB Try.prog = true := by kernel_rfl
theorem cells31 : Try.prog.cellsOf 31 = 3 := by kernel_rfl
theorem cells3 : Try.prog.cellsOf 3 = 1 := by kernel_rfl
theorem read29 : Try.prog.readableRec 29 = true := by kernel_rfl
theorem row29 : 29 < Try.prog.types.size := of_decide_eq_true (by kernel_rfl)
theorem block_lt {w : World} {b o : Nat} {v : Value} (h : w.cell? ⟨b, o, none⟩ = some v) : b < w.heap.size := by
  apply Classical.byContradiction
  intro n
  have : w.heap[b]? = none := Array.getElem?_eq_none (by omega)
  simp [World.cell?, this] at h
theorem wf_i64 {a : Int} (h : (Lit.int .i64 a).wf = true) : -9223372036854775808 ≤ a ∧ a ≤ 9223372036854775807 := by
  simp [Lit.wf] at h
  exact h
/-- The argument, opened. -/
theorem thirds_open {H : Type} {enc : TypeId × Value → H} {W : World} {fuel : Nat} {v : Value} {y : DataW H × List MemPlace} (h : DataW.trod enc Try.prog W 0 (fun _ => true) true fuel 29 [v] = some y) :
    ∃ a len cap, v = .slice a len cap ∧ List3 W a len := by
  rcases Go.Deep.open_slice Try.underlying29 h with ⟨hv, hx⟩ | ⟨a, len, cap, m, n, D, Pl, hv, hb, hl, hm, hmm, hx, hc⟩
  · simp at hv
    exact ⟨none, 0, 0, hv, Nat.zero_le _, Or.inl rfl⟩
  · simp at hv
    simp at hmm
    refine ⟨some a, len, cap, hv, Nat.le_trans hl hm, ?_⟩
    by_cases h0 : len = 0
    · exact Or.inl h0
    right
    rw [cells31] at hc
    have key : ∀ i, i < len → ∃ p q s : Int, W.cell? (a.add (i * 3)) = some (.int .i64 p) ∧ W.cell? (a.add (i * 3 + 1)) = some (.int .i64 q) ∧ W.cell? (a.add (i * 3 + 2)) = some (.int .i64 s) ∧
        (-9223372036854775808 ≤ p ∧ p ≤ 9223372036854775807) ∧ (-9223372036854775808 ≤ q ∧ q ≤ 9223372036854775807) ∧ (-9223372036854775808 ≤ s ∧ s ≤ 9223372036854775807) := by
      intro i hi
      obtain ⟨cs', h1, h2⟩ := hc i (by omega)
      obtain ⟨_, hlen, hcell⟩ := World.cells?_some h1
      obtain ⟨xs, k, hk, hxy, _, hxl, hf⟩ := DataW.trod_struct Try.underlying31 h2
      match xs, hxl, cs', hlen with
      | [y0, y1, y2], _, [v0, v1, v2], _ =>
        have g0 := hf 0 _ rfl
        have g1 := hf 1 _ rfl
        have g2 := hf 2 _ rfl
        simp [cells3] at g0 g1 g2
        obtain ⟨p, e0, _, w0⟩ := DataW.trod_int Try.underlying3 g0
        obtain ⟨q, e1, _, w1⟩ := DataW.trod_int Try.underlying3 g1
        obtain ⟨s, e2, _, w2⟩ := DataW.trod_int Try.underlying3 g2
        simp at e0 e1 e2
        subst e0 e1 e2
        have f0 := hcell 0 (by omega)
        have f1 := hcell 1 (by omega)
        have f2 := hcell 2 (by omega)
        rw [Go.Deep.add_add] at f0 f1 f2
        exact ⟨p, q, s, by simpa using f0, by simpa using f1, by simpa using f2, wf_i64 w0, wf_i64 w1, wf_i64 w2⟩
    obtain ⟨b, off, spot⟩ := a
    obtain ⟨p0, _, _, k0, _⟩ := key 0 (by omega)
    have hspot : spot = none := by simpa [Addr.add] using World.cell?_spot k0
    subst hspot
    refine ⟨b, off, rfl, ?_, fun j hj => ?_⟩
    · rw [Go.WideShapes.add_plain] at k0
      exact block_lt k0
    · obtain ⟨p, q, s, a0, a1, a2, r⟩ := key j hj
      rw [Go.WideShapes.add_plain] at a0 a1 a2
      exact ⟨p, q, s, a0, by rw [Nat.add_assoc]; exact a1, by rw [Nat.add_assoc]; exact a2, r⟩
theorem thirds_arg {H : Type} {enc : TypeId × Value → H} {W : World} {base : Nat} {v : Value} {d : DataW H} {p : List MemPlace} (hv : Value.okWide Try.prog W .any base 29 v) (h : DataW.Trod enc Try.prog W 0 (fun _ => true) true 29 v d p) :
    ∃ a len cap, v = .slice a len cap ∧ List3 W a len := by
  obtain ⟨a, len, cap, rfl⟩ := okWide_slice Try.underlying29 hv
  obtain ⟨fuel, hf⟩ := h
  exact thirds_open (by simpa [Value.cells] using hf)
set_option maxRecDepth 100000 in
theorem lifted (os : Os) (started : os.Started) (H : Type) (enc : TypeId × Value → H) :
    ReturnsInHanded {} Try.checked os 4 .any (Rows.quantSharesSpec.pre6 enc Try.prog Try.f4 Rows.quantSharesRow.domain false) (Rows.quantSharesSpec.post enc Try.prog Try.f4 false true false false) := by
  refine returnsInHanded_of_change (C := Try.checked) own started (by kernel_rfl) Try.func4
    (ChangeSpec.witness6 (enc := enc) (C := Try.checked) false ⟨#[], #[.slice none 0 0], []⟩ 8 (by kernel_rfl) (by kernel_rfl) (by kernel_rfl) (by kernel_rfl)) ?_
  intro W base args ds gs before hval0 hW hcnd _
  have hval : ∀ (j : Nat) t v, Try.f4.params[j]? = some t → args[j]? = some v → Value.okWide Try.prog W .any base t v := hval0
  have hW' := hW
  obtain ⟨p, q, hA0, hV, rfl, hfz, hnd⟩ := hW
  have hA : DataW.TrodAll enc Try.prog W 0 (fun _ => true) true Try.f4.params.toList args.toList ds p := hA0
  rw [Try.params4] at hA hval
  obtain ⟨v0, vs0, d0, ds0, p0, q0, hargs, rfl, rfl, h0, r0⟩ := trodAll_cons hA
  obtain ⟨rfl, rfl, rfl⟩ := trodAll_nil r0
  obtain rfl : args = #[v0] := by cases args; simp_all
  obtain ⟨rfl, rfl⟩ := trodVars_none hV
  clear hA0 hval0
  simp only [List.append_nil] at hW'
  have hlt : ∀ x ∈ p0, x.block < W.heap.size := fun x hx => hW'.lt x hx
  obtain ⟨a, len, cap, rfl, h3⟩ := thirds_arg (hval 0 29 v0 rfl rfl) h0
  refine (walk a len cap W h3).mono fun e W' ⟨he, hb⟩ => ?_
  subst he
  refine ⟨_, rfl, [d0], [], p0, [], p0, [], hW', ?_, ?_, ?_, hb.frame _, fun h => by cases h⟩
  · exact trodAll_cons_mk (shut_bool Try.underlying4 _) trodAll_mk0
  · have := trodAll_cons_mk (Below.trod laidOut read29 row29 h0 hb hlt) (trodAll_mk0 (P := Try.prog) (enc := enc) (w := W') (base := 0) (spare := fun b => decide (b < W.heap.size)) (held := true))
    rw [List.append_nil] at this
    exact this
  · rfl
theorem over : Rows.quantSharesRow.holds Try.pinned (OpenSpec.ofChange Rows.quantSharesSpec) :=
  OpenClaim.holds_of_wide 4 Try.f4 rfl rfl rfl rfl rfl rfl rfl ⟨rfl, rfl, rfl, rfl, rfl⟩ rfl rfl rfl rfl rfl (by kernel_rfl) Try.func4 (by kernel_rfl)
    (of_decide_eq_true (by kernel_rfl)) (by unfold Func.isWrapper; first | (rw [if_pos (by decide +kernel)]; kernel_rfl) | (rw [if_neg (by decide +kernel)]; exact ⟨rfl, rfl⟩))
    (fun os started H enc _ => lifted os started H enc)
theorem proved : Rows.QuantSharesSaid := over
end Go.Proofs.Ytnlohjcjboelgaa.quantShares
namespace Go.Proofs.Ytnlohjcjboelgaa
/-- THE STATEMENT, AS IT IS HANDED IN. -/
theorem quantShares_holds : Rows.QuantSharesSaid := quantShares.proved
end Go.Proofs.Ytnlohjcjboelgaa
