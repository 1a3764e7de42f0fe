import Derived.Test.YtbplmglddinkdaaDoorXU
namespace Go.Proofs.YtbplmglddinkdaaDoor.L
open Go.RowKit Go.Shelf
set_option linter.unusedVariables false
def tk (l : List Tok) (k : Nat) : Tok := l.getD k tok0
/-- A list of tokens that can be read. -/
def TokL (W : World) (v : Value) (l : List Tok) : Prop := ∃ a cap, v = .slice a l.length cap ∧ (l.length = 0 ∨ ∃ b, a = some ⟨b, 0, none⟩ ∧ b < W.heap.size ∧ ∀ k, k < l.length →
  W.cell? ⟨b, k * 5, none⟩ = some (.int .i64 (tk l k).kind) ∧ W.cell? ⟨b, k * 5 + 1, none⟩ = some (.string (tk l k).text) ∧ W.cell? ⟨b, k * 5 + 2, none⟩ = some (.int .i64 (tk l k).num) ∧ W.cell? ⟨b, k * 5 + 3, none⟩ = some (.int .i64 (tk l k).a) ∧ W.cell? ⟨b, k * 5 + 4, none⟩ = some (.int .i64 (tk l k).e))
theorem cellsT_get : ∀ (l : List Tok) (k j : Nat), j < 5 → k < l.length → (cellsT l)[k * 5 + j]? = [Value.int .i64 (tk l k).kind, .string (tk l k).text, .int .i64 (tk l k).num, .int .i64 (tk l k).a, .int .i64 (tk l k).e][j]?
  | [], k, j, _, h => by simp at h
  | t :: r, 0, j, hj, _ => by
    have : cellsT (t :: r) = [Value.int .i64 t.kind, .string t.text, .int .i64 t.num, .int .i64 t.a, .int .i64 t.e] ++ cellsT r := rfl
    rw [this, List.getElem?_append_left (by simp; omega)]
    simp [tk]
  | t :: r, k + 1, j, hj, h => by
    have : cellsT (t :: r) = [Value.int .i64 t.kind, .string t.text, .int .i64 t.num, .int .i64 t.a, .int .i64 t.e] ++ cellsT r := rfl
    rw [this, List.getElem?_append_right (by simp; omega)]
    have e : (k + 1) * 5 + j - [Value.int .i64 t.kind, .string t.text, .int .i64 t.num, .int .i64 t.a, .int .i64 t.e].length = k * 5 + j := by simp; omega
    rw [e, cellsT_get r k j hj (by simpa using h)]
    rfl
theorem OwnT.lst {W : World} {base : Nat} {v : Value} {l : List Tok} (h : OwnT W base v l) : TokL W v l := by
  obtain ⟨h1, h2⟩ := h
  rcases h2 with ⟨e, n0⟩ | ⟨g, cap, cur, e, hb, hg, h3, h4, h5, h6⟩
  · exact ⟨none, 0, by rw [e, n0], .inl n0⟩
  · refine ⟨_, cap, e, .inr ⟨g, rfl, lt_blk hg, fun k hk => ?_⟩⟩
    have key : ∀ j u, j < 5 → [Value.int .i64 (tk l k).kind, .string (tk l k).text, .int .i64 (tk l k).num, .int .i64 (tk l k).a, .int .i64 (tk l k).e][j]? = some u → W.cell? ⟨g, k * 5 + j, none⟩ = some u := by
      intro j u hj hu
      rw [← cellsT_get l k j hj hk, ← h6, List.getElem?_take_of_lt (by omega)] at hu
      rw [cell_of_row W g (k * 5 + j) _ _ _ hg]
      simpa using hu
    exact ⟨key 0 _ (by decide) rfl, key 1 _ (by decide) rfl, key 2 _ (by decide) rfl, key 3 _ (by decide) rfl, key 4 _ (by decide) rfl⟩
theorem TokL.low {W W' : World} {v : Value} {l : List Tok} (h : TokL W v l) (hb : Below W.heap.size W W') : TokL W' v l := by
  obtain ⟨a, cap, e, h2⟩ := h
  refine ⟨a, cap, e, ?_⟩
  rcases h2 with h0 | ⟨b, e1, hl, hc⟩
  · exact .inl h0
  · refine .inr ⟨b, e1, Nat.lt_of_lt_of_le hl hb.size, fun k hk => ?_⟩
    obtain ⟨c0, c1, c2, c3, c4⟩ := hc k hk
    exact ⟨(hb.cell (p := ⟨b, k * 5, none⟩) hl).trans c0, (hb.cell (p := ⟨b, k * 5 + 1, none⟩) hl).trans c1, (hb.cell (p := ⟨b, k * 5 + 2, none⟩) hl).trans c2, (hb.cell (p := ⟨b, k * 5 + 3, none⟩) hl).trans c3, (hb.cell (p := ⟨b, k * 5 + 4, none⟩) hl).trans c4⟩
theorem tokl_nil (W : World) : TokL W (.slice none 0 0) [] := ⟨none, 0, rfl, .inl rfl⟩
set_option maxHeartbeats 8000000 in
set_option maxRecDepth 100000 in
theorem same_tokens (v1 v2 : Value) (l : List Tok) (w : World) (i1 : TokL w v1 l) (i2 : TokL w v2 l) (hl : l.length ≤ 4097) :
    Calls Tryd.prog 11 #[v1, v2] w fun e w' => e = .returned (.bool true) ∧ Below w.heap.size w w' := by
  obtain ⟨a1, c1, rfl, h1⟩ := i1
  obtain ⟨a2, c2, rfl, h2⟩ := i2
  generalize l.length = len at *
  go_enter Tryd.func11, Tryd.ntmps11
  go_wp2
  go_loopw [13] (fun i wr => ∃ k : Nat, k ≤ len ∧ i = .int .i64 k ∧ Hid (Below w.heap.size w wr)) (fun i _ => len - (intOf i).toNat)
  case atStart => exact ⟨0, Nat.zero_le _, rfl, hid (Below.refl _ _)⟩
  case round =>
    obtain ⟨k, hk, rfl, HB⟩ := hrel
    by_cases hlt : k < len
    · rcases h1 with h0 | ⟨b1, rfl, hb1, hc1⟩
      · omega
      rcases h2 with h0 | ⟨b2, rfl, hb2, hc2⟩
      · omega
      obtain ⟨p0, p1, p2, p3, p4⟩ := hc1 k hlt
      obtain ⟨q0, q1, q2, q3, q4⟩ := hc2 k hlt
      rw [← HB.out.cell (p := ⟨b1, k * 5, none⟩) hb1] at p0
      rw [← HB.out.cell (p := ⟨b1, k * 5 + 1, none⟩) hb1] at p1
      rw [← HB.out.cell (p := ⟨b1, k * 5 + 2, none⟩) hb1] at p2
      rw [← HB.out.cell (p := ⟨b1, k * 5 + 3, none⟩) hb1] at p3
      rw [← HB.out.cell (p := ⟨b1, k * 5 + 4, none⟩) hb1] at p4
      rw [← HB.out.cell (p := ⟨b2, k * 5, none⟩) hb2] at q0
      rw [← HB.out.cell (p := ⟨b2, k * 5 + 1, none⟩) hb2] at q1
      rw [← HB.out.cell (p := ⟨b2, k * 5 + 2, none⟩) hb2] at q2
      rw [← HB.out.cell (p := ⟨b2, k * 5 + 3, none⟩) hb2] at q3
      rw [← HB.out.cell (p := ⟨b2, k * 5 + 4, none⟩) hb2] at q4
      generalize (tk l k).kind = s1 at *
      generalize (tk l k).text = s2 at *
      generalize (tk l k).num = s3 at *
      generalize (tk l k).a = s4 at *
      generalize (tk l k).e = s5 at *
      clear hc1 hc2
      have g1 : (k : Int) < (len : Int) := by omega
      have g2 : (0 : Int) ≤ (k : Int) := by omega
      go_wp2_with fail
      go_quiet (fail)
      go_wp2_with fail
      exact ⟨⟨k + 1, by omega, by go_num, hid (below_drewN HB.out nq)⟩, by simp [intOf]; omega⟩
    · obtain rfl : k = len := by omega
      go_wp2
      go_ret
      exact ⟨rfl, HB.out⟩
end Go.Proofs.YtbplmglddinkdaaDoor.L
