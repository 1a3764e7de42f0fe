import Derived.Test.YtfbagkajbnomoaaQ2
import Derived.Shelf.Abstract
namespace Go.Proofs.Ytfbagkajbnomoaa.L
open Go.RowKit Rg Qu
set_option linter.unusedVariables false
set_option linter.unusedSimpArgs false
/-- The first place that passes, or -1. -/
def IxR (p : Wt → Bool) (l : List Wt) (e : Ending) : Prop := ∃ k, k ≤ l.length ∧ (∀ (j : Nat) (h : j < l.length), j < k → p l[j] = false) ∧ (∀ h : k < l.length, p l[k] = true) ∧ e = .returned (.int .i64 (if k < l.length then (k : Int) else -1))
set_option maxHeartbeats 1000000 in
theorem idxf_any (nb : Nat) (p : Wt → Bool) (l : List Wt) (a : Option Addr) (c : Nat) (w : World) (h : RdG wtV 6 w a l) (hl : l.length ≤ 2048)
    (hp : ∀ (W : World) (x : Wt), Below w.heap.size w W → Calls Try.prog 47 #[.agg (wtV x), .pointer (some ⟨nb, 0, none⟩)] W fun e w' => e = .returned (.bool (p x)) ∧ Below W.heap.size W w') :
    Calls Try.prog 46 #[.slice a l.length c, .func (.func 47) #[] #[.pointer (some ⟨nb, 0, none⟩)]] w fun e w' => IxR p l e ∧ Below w.heap.size w w' := by
  unfold wtV at hp
  have HP := hid hp
  have HR := hid h
  clear hp h
  obtain ⟨n, hn⟩ : ∃ n, n = l.length := ⟨_, rfl⟩
  have HN := hid hn
  rw [← hn] at hl ⊢
  clear hn
  have hmax : n ≤ 9223372036854775807 := by omega
  go_enter Try.func46, Try.ntmps46
  go_wp2_with fail
  go_loopw [5, 8] (fun _ s8 wr => ∃ k : Nat, k ≤ n ∧ s8 = .int .i64 (k : Int) ∧ Hid (Below w.heap.size w wr) ∧ Hid (∀ (j : Nat) (h : j < l.length), j < k → p l[j] = false)) (fun _ i _ => n - (intOf i).toNat)
  case atStart => exact ⟨0, Nat.zero_le _, rfl, hid (Below.refl _ _), hid (fun j h hj => absurd hj (Nat.not_lt_zero j))⟩
  case round =>
    obtain ⟨k, hk, rfl, HB, HA⟩ := hrel
    by_cases hlt : k < n
    · have g1 : (k : Int) < (n : Int) := by omega
      have g2 : (0 : Int) ≤ (k : Int) := by omega
      have hlt' : k < l.length := by rw [← HN.out]; exact hlt
      obtain ⟨b, off, hae, hbb, c0, c1, c2, c3, c4, c5⟩ := cell_w (HR.out.low HB.out) hlt'
      subst hae
      have HC := hid (HP.out wr l[k] HB.out)
      have HY := hid (show ∃ y, y = p l[k] from ⟨_, rfl⟩)
      clear hbb
      cases hy : p l[k] with
      | true =>
        have HYT := hid hy
        rw [hy] at HC
        clear hy HY
        go_wp2_with fail
        refine HC.out.mono ?_
        rintro e w2 ⟨rfl, hb2⟩
        have HB2 := hid hb2
        clear hb2 HC
        go_wp2_with fail
        go_ret
        exact ⟨⟨k, by rw [← HN.out]; exact hk, HA.out, fun _ => HYT.out, by rw [if_pos hlt']; rfl⟩, bch HB.out HB2.out⟩
      | false =>
        have HYT := hid hy
        rw [hy] at HC
        clear hy HY
        go_wp2_with fail
        refine HC.out.mono ?_
        rintro e w2 ⟨rfl, hb2⟩
        have HB2 := hid hb2
        clear hb2 HC
        go_wp2_with fail
        exact ⟨⟨k + 1, by omega, by go_num, hid (bch HB.out HB2.out), hid (fun j h hj => by
          by_cases e : j = k
          · subst e; exact HYT.out
          · exact HA.out j h (by omega))⟩, by simp [intOf]; omega⟩
    · have g1 : ¬ (k : Int) < (n : Int) := by omega
      have hkn : k = l.length := by rw [← HN.out]; omega
      go_wp2_with fail
      go_ret
      exact ⟨⟨k, by omega, HA.out, fun h => by omega, by rw [if_neg (by omega)]; rfl⟩, HB.out⟩
set_option maxHeartbeats 1000000 in
theorem idxa_any (y : Wt) (p : Wt → Bool) (l : List Wt) (a : Option Addr) (c : Nat) (w : World) (h : RdG wtV 6 w a l) (hl : l.length ≤ 2048)
    (hp : ∀ (W : World) (x : Wt), Below w.heap.size w W → Calls Try.prog 48 #[.agg (wtV y), .agg (wtV x)] W fun e w' => e = .returned (.bool (p x)) ∧ Below W.heap.size W w') :
    Calls Try.prog 46 #[.slice a l.length c, .func (.func 48) #[.agg (wtV y)] #[]] w fun e w' => IxR p l e ∧ Below w.heap.size w w' := by
  unfold wtV at hp ⊢
  have HP := hid hp
  have HR := hid h
  clear hp h
  obtain ⟨n, hn⟩ : ∃ n, n = l.length := ⟨_, rfl⟩
  have HN := hid hn
  rw [← hn] at hl ⊢
  clear hn
  have hmax : n ≤ 9223372036854775807 := by omega
  go_enter Try.func46, Try.ntmps46
  go_wp2_with fail
  go_loopw [5, 8] (fun _ s8 wr => ∃ k : Nat, k ≤ n ∧ s8 = .int .i64 (k : Int) ∧ Hid (Below w.heap.size w wr) ∧ Hid (∀ (j : Nat) (h : j < l.length), j < k → p l[j] = false)) (fun _ i _ => n - (intOf i).toNat)
  case atStart => exact ⟨0, Nat.zero_le _, rfl, hid (Below.refl _ _), hid (fun j h hj => absurd hj (Nat.not_lt_zero j))⟩
  case round =>
    obtain ⟨k, hk, rfl, HB, HA⟩ := hrel
    by_cases hlt : k < n
    · have g1 : (k : Int) < (n : Int) := by omega
      have g2 : (0 : Int) ≤ (k : Int) := by omega
      have hlt' : k < l.length := by rw [← HN.out]; exact hlt
      obtain ⟨b, off, hae, hbb, c0, c1, c2, c3, c4, c5⟩ := cell_w (HR.out.low HB.out) hlt'
      subst hae
      have HC := hid (HP.out wr l[k] HB.out)
      have HY := hid (show ∃ y, y = p l[k] from ⟨_, rfl⟩)
      clear hbb
      cases hy : p l[k] with
      | true =>
        have HYT := hid hy
        rw [hy] at HC
        clear hy HY
        go_wp2_with fail
        refine HC.out.mono ?_
        rintro e w2 ⟨rfl, hb2⟩
        have HB2 := hid hb2
        clear hb2 HC
        go_wp2_with fail
        go_ret
        exact ⟨⟨k, by rw [← HN.out]; exact hk, HA.out, fun _ => HYT.out, by rw [if_pos hlt']; rfl⟩, bch HB.out HB2.out⟩
      | false =>
        have HYT := hid hy
        rw [hy] at HC
        clear hy HY
        go_wp2_with fail
        refine HC.out.mono ?_
        rintro e w2 ⟨rfl, hb2⟩
        have HB2 := hid hb2
        clear hb2 HC
        go_wp2_with fail
        exact ⟨⟨k + 1, by omega, by go_num, hid (bch HB.out HB2.out), hid (fun j h hj => by
          by_cases e : j = k
          · subst e; exact HYT.out
          · exact HA.out j h (by omega))⟩, by simp [intOf]; omega⟩
    · have g1 : ¬ (k : Int) < (n : Int) := by omega
      have hkn : k = l.length := by rw [← HN.out]; omega
      go_wp2_with fail
      go_ret
      exact ⟨⟨k, by omega, HA.out, fun h => by omega, by rw [if_neg (by omega)]; rfl⟩, HB.out⟩
/-- A struct of six cells that was laid: its cells. -/
theorem cls (w : World) (x : Wt) (t : TypeId) : (w.alloc (.cells #[.string x.name, .int .i64 x.pr, .int .i64 x.seq, .int .i64 x.tries, .int .i64 x.til, .bool x.asl] t)).cell? ⟨w.heap.size, 0, none⟩ = some (.string x.name) := cell_of_row _ _ 0 _ _ _ (heap_alloc_new w _)
theorem name_any (s : ByteArray) (nb : Nat) (x : Wt) (w : World) (hn : w.cell? ⟨nb, 0, none⟩ = some (.string s)) : Calls Try.prog 47 #[.agg (wtV x), .pointer (some ⟨nb, 0, none⟩)] w fun e w' => e = .returned (.bool (x.name.toList == s.toList)) ∧ Below w.heap.size w w' := by
  have hb := World.block_lt_of_cell? w _ hn
  unfold wtV
  have h2 : (w.alloc (.cells #[.string x.name, .int .i64 x.pr, .int .i64 x.seq, .int .i64 x.tries, .int .i64 x.til, .bool x.asl] 63)).cell? ⟨nb, 0, none⟩ = some (.string s) := ((belowA w _).cell (p := ⟨nb, 0, none⟩) hb).trans hn
  go_enter Try.func47, Try.ntmps47
  go_wp2
  go_ret
  exact ⟨by first | rfl | simp, belowA _ _⟩
/-- A name's place, as a number. -/
def fndI (s : ByteArray) (l : List Wt) : Int := if fnd s l < l.length then (fnd s l : Int) else -1
/-- The place of a name in the program's queue. -/
theorem find_any {w : World} {B qb : Nat} {v : Value} {l : List Wt} {nx : Int} (h : Qm w B qb v l nx) (hl : l.length ≤ 2048) (s : ByteArray) : Calls Try.prog 34 #[.pointer (some ⟨qb, 0, none⟩), .string s] w fun e w' => e = .returned (.int .i64 (fndI s l)) ∧ Below w.heap.size w w' := by
  obtain ⟨_, a, c, rfl, hr⟩ := own_w h.row
  have HB1 := hid (belowA w (.cells #[.string s] 9))
  have HX1 := hid (heap_alloc_new w (.cells #[.string s] 9))
  have x0 : (w.alloc (.cells #[.string s] 9)).cell? ⟨qb, 0, none⟩ = some (.slice a l.length c) := cell_of_row _ _ 0 _ _ _ ((HB1.out.block _ (lt_blk h.box)).trans h.box)
  have HI := hid (idxf_any w.heap.size (fun x => x.name.toList == s.toList) l a c (w.alloc (.cells #[.string s] 9)) (hr.low HB1.out) hl (fun W x hb => name_any s w.heap.size x W ((hb.cell (p := ⟨w.heap.size, 0, none⟩) (lt_blk HX1.out)).trans (cell_of_row _ _ 0 _ _ _ HX1.out))))
  obtain ⟨n, hn⟩ : ∃ n, n = l.length := ⟨_, rfl⟩
  have HN := hid hn
  rw [← hn] at x0 HI hl
  clear hn h hr
  go_enter Try.func34, Try.ntmps34
  go_wp2_with fail
  refine HI.out.mono ?_
  rintro e w2 ⟨⟨k, hk, h1, h2, rfl⟩, hb2⟩
  have hf : fnd s l = k := fnd_eq hk (fun j hj => by have := h1 j (by omega) hj; simpa using this) (fun h => by have := h2 h; simpa using this)
  have HB2 := hid hb2
  obtain ⟨z, hz⟩ : ∃ z : Int, z = (if k < l.length then (k : Int) else -1) := ⟨_, rfl⟩
  rw [← hz]
  rw [← hf] at hz
  have HZ := hid (show z = fndI s l from hz)
  clear hz hf hk h1 h2 hb2 HI
  go_wp2_with fail
  go_ret
  exact ⟨by rw [← HZ.out]; rfl, bch HB1.out HB2.out⟩
end Go.Proofs.Ytfbagkajbnomoaa.L
