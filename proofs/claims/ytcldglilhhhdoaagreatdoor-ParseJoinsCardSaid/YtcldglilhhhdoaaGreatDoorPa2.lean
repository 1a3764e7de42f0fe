import Derived.Test.YtcldglilhhhdoaaGreatDoorMgAF
import Derived.Test.YtcldglilhhhdoaaGreatDoorMgAG
import Derived.Test.YtcldglilhhhdoaaGreatDoorXT
namespace Go.Proofs.YtcldglilhhhdoaaGreatDoor.L
open Go.RowKit
set_option linter.unusedVariables false
set_option linter.unusedSimpArgs false
/-- A fault in memory. -/
def Fli (W : World) (N c : Nat) (a : Int) : Prop := W.heap[N]? = some (.cells #[.int .i64 (c : Int), .int .i64 a, .string ⟨#[]⟩, .nilIface] 78 (0, 0))
abbrev pe (N : Nat) : Ending := .panicked [{ v := .iface 62 (.pointer (some ⟨N, 0, none⟩)), recovered := false }]
theorem giveup_any (c : Nat) (a : Int) (w : World) : Calls Tryz.prog 37 #[.int .i64 (c : Int), .int .i64 a] w fun e w' => ∃ N, e = pe N ∧ Fli w' N c a ∧ Below w.heap.size w w' := by
  have HB := hid (belowA w (.cells #[.int .i64 (c : Int), .int .i64 a, .string ⟨#[]⟩, .nilIface] 78))
  have HX := hid (heap_alloc_new w (.cells #[.int .i64 (c : Int), .int .i64 a, .string ⟨#[]⟩, .nilIface] 78))
  go_enter Tryz.func37, Tryz.ntmps37
  go_wp2_with fail
  exact ⟨rfl, _, rfl, HX.out, HB.out⟩
/-- The parser in memory. -/
structure Apx (Nb : Nat → Prop) (W : World) (n : Nat) (o : Value) (ks : Nat → Value) : Prop where
  kx : ∀ j, j < n → ∀ k, (ks j).ownBlock = some k → ¬ Nb k
  ox : ∀ k, o.ownBlock = some k → ¬ Nb k
  xl : ∀ k, Nb k → k < W.heap.size
  two : ∀ i j, i < n → j < n → i ≠ j → ∀ k, (ks i).ownBlock = some k → (ks j).ownBlock ≠ some k
theorem Apx.size {Nb : Nat → Prop} {W W' : World} {n : Nat} {o : Value} {ks : Nat → Value} (h : Apx Nb W n o ks) (hs : ∀ k, k < W.heap.size → k < W'.heap.size) : Apx Nb W' n o ks := ⟨h.kx, h.ox, fun k hk => hs k (h.xl k hk), h.two⟩
structure PM (pb B : Nat) (Nb : Nat → Prop) (tv : Value) (T : List Tok) (W : World) (s : PS) (v o : Value) (ks : Nat → Value) : Prop where
  box : W.heap[pb]? = some (.cells #[tv, .int .i64 (s.nx : Int), .int .i64 (s.ns : Int), v, o] 65 (0, 0))
  tok : OwnT W 0 tv T
  tlt : ∀ k, tv.ownBlock = some k → k < B
  parts : OwnP W B v s.ps ks s.ps.length
  offs : OwnI W B o s.os
  pbB : B ≤ pb
  nx : s.nx < T.length
  ns : s.ns ≤ 32
  tl : T.length ≤ 4097
  fin : ∀ k, k < T.length → (tk T k).kind ≠ 0 → k + 1 < T.length
  apart : ∀ j, j < s.ps.length → ∀ k, (ks j).ownBlock = some k → o.ownBlock ≠ some k
  apx : Apx Nb W s.ps.length o ks
theorem row_kept {W W' : World} {base : Nat} {e : TypeId} {size : Nat} {v : Value} {n : Nat} {xs : List Value} (h : W.ownsRow base e size v n xs) (hk : ∀ k, v.ownBlock = some k → W'.heap[k]? = W.heap[k]?) : W'.ownsRow base e size v n xs := by
  refine ⟨h.1, ?_⟩
  rcases h.2 with h0 | ⟨g, cap, cur, rfl, hb, hg, h3⟩
  · exact Or.inl h0
  · exact Or.inr ⟨g, cap, cur, rfl, hb, (hk g rfl).trans hg, h3⟩
theorem row_at {W : World} {base : Nat} {e : TypeId} {size : Nat} {v : Value} {n : Nat} {xs : List Value} (h : W.ownsRow base e size v n xs) {k : Nat} (hk : v.ownBlock = some k) : base ≤ k ∧ k < W.heap.size ∧ ∃ cur, W.heap[k]? = some (.cells cur e (0, 0)) := by
  rcases h.2 with ⟨rfl, _⟩ | ⟨g, cap, cur, rfl, hb, hg, h3⟩
  · cases hk
  · obtain rfl : g = k := by simpa [Value.ownBlock] using hk
    exact ⟨hb, lt_blk hg, cur, hg⟩
theorem PM.low {pb B : Nat} {Nb : Nat → Prop} {tv : Value} {T : List Tok} {W W' : World} {s : PS} {v o : Value} {ks : Nat → Value} (h : PM pb B Nb tv T W s v o ks) (hb : Below W.heap.size W W') : PM pb B Nb tv T W' s v o ks :=
  ⟨(hb.block _ (lt_blk h.box)).trans h.box, row_kept h.tok (fun k hk => hb.block k (row_at h.tok hk).2.1), h.tlt, ⟨row_kept h.parts.row (fun k hk => hb.block k (row_at h.parts.row hk).2.1), fun j hj => row_kept (h.parts.kids j hj) (fun k hk => hb.block k (row_at (h.parts.kids j hj) hk).2.1)⟩, row_kept h.offs (fun k hk => hb.block k (row_at h.offs hk).2.1), h.pbB, h.nx, h.ns, h.tl, h.fin, h.apart, h.apx.size (fun k hk => Nat.lt_of_lt_of_le hk hb.size)⟩
/-- Only the parser's own blocks have changed. -/
structure Fp (pb : Nat) (W : World) (v o : Value) (W' : World) (v' o' : Value) : Prop where
  os : W'.os = W.os
  tape : W'.tape = W.tape
  output : W'.output = W.output
  size : W.heap.size ≤ W'.heap.size
  block : ∀ k, k < W.heap.size → k ≠ pb → v.ownBlock ≠ some k → o.ownBlock ≠ some k → W'.heap[k]? = W.heap[k]?
  vb : ∀ k, v'.ownBlock = some k → v.ownBlock = some k ∨ W.heap.size ≤ k
  ob : ∀ k, o'.ownBlock = some k → o.ownBlock = some k ∨ W.heap.size ≤ k
theorem Fp.refl (pb : Nat) (W : World) (v o : Value) : Fp pb W v o W v o := ⟨rfl, rfl, rfl, Nat.le_refl _, fun _ _ _ _ _ => rfl, fun k h => Or.inl h, fun k h => Or.inl h⟩
theorem Fp.of {pb : Nat} {W W' : World} (v o : Value) (h : Below W.heap.size W W') : Fp pb W v o W' v o := ⟨h.os, h.tape, h.output, h.size, fun k hk _ _ _ => h.block k hk, fun k h => Or.inl h, fun k h => Or.inl h⟩
theorem Fp.trans {pb : Nat} {W W1 W2 : World} {v o v1 o1 v2 o2 : Value} (h : Fp pb W v o W1 v1 o1) (k : Fp pb W1 v1 o1 W2 v2 o2) : Fp pb W v o W2 v2 o2 := by
  refine ⟨k.os.trans h.os, k.tape.trans h.tape, k.output.trans h.output, Nat.le_trans h.size k.size, fun j hj h1 h2 h3 => ?_, fun j hj => ?_, fun j hj => ?_⟩
  · refine (k.block j (Nat.lt_of_lt_of_le hj h.size) h1 (fun e => ?_) (fun e => ?_)).trans (h.block j hj h1 h2 h3)
    · rcases h.vb j e with e | e
      · exact h2 e
      · omega
    · rcases h.ob j e with e | e
      · exact h3 e
      · omega
  · rcases k.vb j hj with e | e
    · exact h.vb j e
    · exact Or.inr (Nat.le_trans h.size e)
  · rcases k.ob j hj with e | e
    · exact h.ob j e
    · exact Or.inr (Nat.le_trans h.size e)
theorem PM.below {pb B : Nat} {Nb : Nat → Prop} {tv : Value} {T : List Tok} {W W' : World} {s : PS} {v o v' o' : Value} {ks : Nat → Value} (h : PM pb B Nb tv T W s v o ks) (hf : Fp pb W v o W' v' o') : Below B W W' := by
  refine ⟨hf.os, hf.tape, hf.output, hf.size, fun k hk => ?_⟩
  by_cases hs : k < W.heap.size
  · refine hf.block k hs (by have := h.pbB; omega) (fun e => ?_) (fun e => ?_)
    · have := (row_at h.parts.row e).1; omega
    · have := (row_at h.offs e).1; omega
  · have := h.pbB; have := lt_blk h.box; omega
/-- What a function of the parser gives. -/
def Po {α : Type} (pb B : Nat) (Nb : Nat → Prop) (tv : Value) (T : List Tok) (mk : α → Value) (r : PRes α) (W : World) (v o : Value) (e : Ending) (W' : World) : Prop :=
  match r with
  | .ok (a, s') => e = .returned (mk a) ∧ ∃ v' o' ks', PM pb B Nb tv T W' s' v' o' ks' ∧ Fp pb W v o W' v' o'
  | .error (c, x) => ∃ N, e = pe N ∧ Fli W' N c x ∧ Below B W W'
theorem Po.back {α : Type} {pb B : Nat} {Nb : Nat → Prop} {tv : Value} {T : List Tok} {mk : α → Value} {r : PRes α} {W0 W W' : World} {v0 o0 v o : Value} {s0 : PS} {ks0 : Nat → Value} {e : Ending} (h : Po pb B Nb tv T mk r W v o e W') (h0 : PM pb B Nb tv T W0 s0 v0 o0 ks0) (hf : Fp pb W0 v0 o0 W v o) : Po pb B Nb tv T mk r W0 v0 o0 e W' := by
  match r, h with
  | .ok (a, s'), ⟨h1, v', o', ks', h2, h3⟩ => exact ⟨h1, v', o', ks', h2, hf.trans h3⟩
  | .error (c, x), ⟨N, h1, h2, h3⟩ =>
    have hb := h0.below hf
    exact ⟨N, h1, h2, hb.trans h3⟩
theorem cellsT_get (l : List Tok) (j r : Nat) (hr : r < 5) (hj : j < l.length) : (cellsT l)[j * 5 + r]? = ([.int .i64 ((tk l j).kind : Int), .string (tk l j).text, .int .i64 (tk l j).num, .int .i64 ((tk l j).a : Int), .int .i64 ((tk l j).e : Int)] : List Value)[r]? := by
  induction l generalizing j with
  | nil => simp at hj
  | cons x l ih =>
    cases j with
    | zero =>
      simp only [cellsT, List.flatMap_cons, Nat.zero_mul, Nat.zero_add]
      rw [List.getElem?_append_left (by simpa using hr)]
      rfl
    | succ j =>
      simp only [cellsT, List.flatMap_cons]
      rw [List.getElem?_append_right (by simp; omega)]
      have := ih j (by simpa using hj)
      rw [show (j + 1) * 5 + r - ([.int .i64 (x.kind : Int), .string x.text, .int .i64 x.num, .int .i64 (x.a : Int), .int .i64 (x.e : Int)] : List Value).length = j * 5 + r by simp; omega]
      exact this
theorem PM.tokc {pb B : Nat} {Nb : Nat → Prop} {tv : Value} {T : List Tok} {W : World} {s : PS} {v o : Value} {ks : Nat → Value} (h : PM pb B Nb tv T W s v o ks) : ∃ g cap, tv = .slice (some ⟨g, 0, none⟩) T.length cap ∧ g < W.heap.size ∧ ∀ j r, j < T.length → r < 5 → W.cell? ⟨g, j * 5 + r, none⟩ = ([.int .i64 ((tk T j).kind : Int), .string (tk T j).text, .int .i64 (tk T j).num, .int .i64 ((tk T j).a : Int), .int .i64 ((tk T j).e : Int)] : List Value)[r]? := by
  rcases h.tok.2 with ⟨_, n0⟩ | ⟨g, cap, cur, rfl, hb, hg, h3, h4, h5, h6⟩
  · have := h.nx; omega
  · refine ⟨g, cap, rfl, lt_blk hg, fun j r hj hr => ?_⟩
    rw [cell_of_row W g _ _ _ _ hg, ← cellsT_get T j r hr hj, ← h6, List.getElem?_take_of_lt (by omega), Array.getElem?_toList]
theorem infoTk : (Tryz.prog.info? 53).map (·.size) = some 5 := by kernel_rfl
set_option maxHeartbeats 4000000 in
set_option maxRecDepth 100000 in
theorem token_any {pb B : Nat} {Nb : Nat → Prop} {tv : Value} {T : List Tok} {W : World} {s : PS} {v o : Value} {ks : Nat → Value} (h : PM pb B Nb tv T W s v o ks) :
    Calls Tryz.prog 35 #[.pointer (some ⟨pb, 0, none⟩)] W fun e W' => e = .returned (L.tv (tk T s.nx)) ∧ Below W.heap.size W W' := by
  obtain ⟨g, cap, rfl, hgl, hc⟩ := h.tokc
  have HB0 := hid (belowA W (.cells #[.int .i64 0, .string ⟨#[]⟩, .int .i64 0, .int .i64 0, .int .i64 0] 53))
  have HX0 := hid (heap_alloc_new W (.cells #[.int .i64 0, .string ⟨#[]⟩, .int .i64 0, .int .i64 0, .int .i64 0] 53))
  have hnx := h.nx
  have htl := h.tl
  have HP := hid h.box
  have HC := hid (fun r (hr : r < 5) => hc s.nx r hnx hr)
  have HGL := hid hgl
  clear hc h hgl
  generalize tk T s.nx = t at *
  generalize T.length = L at *
  generalize s.nx = n at *
  go_enter Tryz.func35, Tryz.ntmps35
  go_upto_region 1 with (fail)
  generalize W.alloc (.cells #[.int .i64 0, .string ⟨#[]⟩, .int .i64 0, .int .i64 0, .int .i64 0] 53) = X at *
  have g1 : (n : Int) < (L : Int) := by omega
  have g0 : (0 : Int) ≤ (n : Int) := by omega
  have MS := hid (show ∀ Y, Below W.heap.size W Y → (fun Y => (Y.cell? ⟨pb, 0, none⟩ = some (.slice (some ⟨g, 0, none⟩) L cap) ∧ Y.cell? ⟨pb, 1, none⟩ = some (.int .i64 (n : Int))) ∧ Y.cell? ⟨g, n * 5, none⟩ = some (.int .i64 (t.kind : Int)) ∧ Y.cell? ⟨g, n * 5 + 1, none⟩ = some (.string t.text) ∧ Y.cell? ⟨g, n * 5 + 2, none⟩ = some (.int .i64 t.num) ∧ Y.cell? ⟨g, n * 5 + 3, none⟩ = some (.int .i64 (t.a : Int)) ∧ Y.cell? ⟨g, n * 5 + 4, none⟩ = some (.int .i64 (t.e : Int))) Y from fun Y hb => ⟨⟨(hb.cell (p := ⟨pb, 0, none⟩) (lt_blk HP.out)).trans (cell_of_row _ _ 0 _ _ _ HP.out), (hb.cell (p := ⟨pb, 1, none⟩) (lt_blk HP.out)).trans (cell_of_row _ _ 1 _ _ _ HP.out)⟩, (hb.cell (p := ⟨g, n * 5, none⟩) HGL.out).trans (HC.out 0 (by decide)), (hb.cell (p := ⟨g, n * 5 + 1, none⟩) HGL.out).trans (HC.out 1 (by decide)), (hb.cell (p := ⟨g, n * 5 + 2, none⟩) HGL.out).trans (HC.out 2 (by decide)), (hb.cell (p := ⟨g, n * 5 + 3, none⟩) HGL.out).trans (HC.out 3 (by decide)), (hb.cell (p := ⟨g, n * 5 + 4, none⟩) HGL.out).trans (HC.out 4 (by decide))⟩)
  have HD := hid (show Below W.heap.size W X.drew from HB0.out.drew)
  have HZ := hid (show X.drew.heap[W.heap.size]? = _ from HX0.out)
  refine wp_region_held_drew (S := (fun Y => (Y.cell? ⟨pb, 0, none⟩ = some (.slice (some ⟨g, 0, none⟩) L cap) ∧ Y.cell? ⟨pb, 1, none⟩ = some (.int .i64 (n : Int))) ∧ Y.cell? ⟨g, n * 5, none⟩ = some (.int .i64 (t.kind : Int)) ∧ Y.cell? ⟨g, n * 5 + 1, none⟩ = some (.string t.text) ∧ Y.cell? ⟨g, n * 5 + 2, none⟩ = some (.int .i64 t.num) ∧ Y.cell? ⟨g, n * 5 + 3, none⟩ = some (.int .i64 (t.a : Int)) ∧ Y.cell? ⟨g, n * 5 + 4, none⟩ = some (.int .i64 (t.e : Int)))) (by kernel_rfl) ?_ (fun hHeld => ?_)
  · exact MS.out _ HD.out
  generalize X.drew = Z at *
  refine wpAnyH_take (i := 0) (oi := { dst := some 3, op := Op.move (Operand.tmp 0), type := 63, pos := "parse.go:60", after := #[], guard := none }) (v := ?_) rfl (by kernel_rfl) (by kernel_rfl) (by kernel_rfl) (fun _ _ _ h => h) (Or.inl ⟨by rfl, ?_⟩) (by assumption) ?_
  rotate_left
  · (intro w hSw; (try dsimp only at hSw); go_simp; try with_reducible rfl)
  try simp only [Act.put, List.setIfInBounds_toArray, List.set_cons_zero, List.set_cons_succ]
  refine wpAnyH_take (i := 1) (oi := { dst := some 4, op := Op.nilCheck (Operand.tmp 3), type := 0, pos := "parse.go:60", after := #[{ on := 0, ground := Ground.data }], guard := none }) (v := ?_) rfl (by kernel_rfl) (by kernel_rfl) (by kernel_rfl) (fun _ _ _ h => h) (Or.inl ⟨by rfl, ?_⟩) (by assumption) ?_
  rotate_left
  · (intro w hSw; (try dsimp only at hSw); go_simp; try with_reducible rfl)
  try simp only [Act.put, List.setIfInBounds_toArray, List.set_cons_zero, List.set_cons_succ]
  refine wpAnyH_take (i := 2) (oi := { dst := some 5, op := Op.fieldAddr 65 (Operand.tmp 4) 0, type := 0, pos := "parse.go:60", after := #[{ on := 1, ground := Ground.data }], guard := none }) (v := ?_) rfl (by kernel_rfl) (by kernel_rfl) (by kernel_rfl) (fun _ _ _ h => h) (Or.inl ⟨by rfl, ?_⟩) (by assumption) ?_
  rotate_left
  · (intro w hSw; (try dsimp only at hSw); go_simp; try with_reducible rfl)
  try simp only [Act.put, List.setIfInBounds_toArray, List.set_cons_zero, List.set_cons_succ]
  refine wpAnyH_take (i := 3) (oi := { dst := some 6, op := Op.load 47 (Operand.tmp 5), type := 47, pos := "parse.go:60", after := #[{ on := 2, ground := Ground.data }], guard := none }) (v := ?_) rfl (by kernel_rfl) (by kernel_rfl) (by kernel_rfl) (fun _ _ _ h => h) (Or.inl ⟨by rfl, ?_⟩) (by assumption) ?_
  rotate_left
  · (intro w hSw; (try dsimp only at hSw); go_simp; try with_reducible rfl)
  try simp only [Act.put, List.setIfInBounds_toArray, List.set_cons_zero, List.set_cons_succ]
  refine wpAnyH_take (i := 4) (oi := { dst := some 7, op := Op.move (Operand.tmp 0), type := 63, pos := "parse.go:60", after := #[], guard := none }) (v := ?_) rfl (by kernel_rfl) (by kernel_rfl) (by kernel_rfl) (fun _ _ _ h => h) (Or.inl ⟨by rfl, ?_⟩) (by assumption) ?_
  rotate_left
  · (intro w hSw; (try dsimp only at hSw); go_simp; try with_reducible rfl)
  try simp only [Act.put, List.setIfInBounds_toArray, List.set_cons_zero, List.set_cons_succ]
  refine wpAnyH_take (i := 5) (oi := { dst := some 8, op := Op.nilCheck (Operand.tmp 7), type := 0, pos := "parse.go:60", after := #[{ on := 4, ground := Ground.data }], guard := none }) (v := ?_) rfl (by kernel_rfl) (by kernel_rfl) (by kernel_rfl) (fun _ _ _ h => h) (Or.inl ⟨by rfl, ?_⟩) (by assumption) ?_
  rotate_left
  · (intro w hSw; (try dsimp only at hSw); go_simp; try with_reducible rfl)
  try simp only [Act.put, List.setIfInBounds_toArray, List.set_cons_zero, List.set_cons_succ]
  refine wpAnyH_take (i := 6) (oi := { dst := some 9, op := Op.fieldAddr 65 (Operand.tmp 8) 1, type := 0, pos := "parse.go:60", after := #[{ on := 5, ground := Ground.data }], guard := none }) (v := ?_) rfl (by kernel_rfl) (by kernel_rfl) (by kernel_rfl) (fun _ _ _ h => h) (Or.inl ⟨by rfl, ?_⟩) (by assumption) ?_
  rotate_left
  · (intro w hSw; (try dsimp only at hSw); go_simp; try with_reducible rfl)
  try simp only [Act.put, List.setIfInBounds_toArray, List.set_cons_zero, List.set_cons_succ]
  refine wpAnyH_take (i := 7) (oi := { dst := some 10, op := Op.load 3 (Operand.tmp 9), type := 3, pos := "parse.go:60", after := #[{ on := 6, ground := Ground.data }], guard := none }) (v := ?_) rfl (by kernel_rfl) (by kernel_rfl) (by kernel_rfl) (fun _ _ _ h => h) (Or.inl ⟨by rfl, ?_⟩) (by assumption) ?_
  rotate_left
  · (intro w hSw; (try dsimp only at hSw); go_simp; try with_reducible rfl)
  try simp only [Act.put, List.setIfInBounds_toArray, List.set_cons_zero, List.set_cons_succ]
  refine wpAnyH_take (i := 8) (oi := { dst := some 11, op := Op.indexAddr 47 (Operand.tmp 6) (Operand.tmp 10), type := 0, pos := "parse.go:60", after := #[{ on := 3, ground := Ground.data }, { on := 7, ground := Ground.data }], guard := none }) (v := ?_) rfl (by kernel_rfl) (by kernel_rfl) (by kernel_rfl) (fun _ _ _ h => h) (Or.inl ⟨by rfl, ?_⟩) (by assumption) ?_
  rotate_left
  · (intro w hSw; (try dsimp only at hSw); go_simp; try with_reducible rfl)
  try simp only [Act.put, List.setIfInBounds_toArray, List.set_cons_zero, List.set_cons_succ]
  refine wpAnyH_take (i := 9) (oi := { dst := some 12, op := Op.load 53 (Operand.tmp 11), type := 53, pos := "parse.go:60", after := #[{ on := 8, ground := Ground.data }], guard := none }) (v := ?_) rfl (by kernel_rfl) (by kernel_rfl) (by kernel_rfl) (fun _ _ _ h => h) (Or.inl ⟨by rfl, ?_⟩) (by assumption) ?_
  rotate_left
  · (intro w hSw; (try dsimp only at hSw); go_simp; try with_reducible rfl)
  try simp only [Act.put, List.setIfInBounds_toArray, List.set_cons_zero, List.set_cons_succ]
  refine wpAnyH_ready (rs := [10]) (by kernel_rfl) (by simp) ?_
  refine AllReadyH.cons (o := { dst := none, op := Op.store 53 (Operand.tmp 2) (Operand.tmp 12), type := 0, pos := "parse.go:60", after := #[{ on := 9, ground := Ground.data }, { on := 0, ground := Ground.phase }, { on := 1, ground := Ground.phase }, { on := 2, ground := Ground.phase }, { on := 3, ground := Ground.phase }, { on := 4, ground := Ground.phase }, { on := 5, ground := Ground.phase }, { on := 6, ground := Ground.phase }, { on := 7, ground := Ground.phase }, { on := 8, ground := Ground.phase }, { on := 9, ground := Ground.phase }], guard := none }) rfl (fun K hK => ?_) AllReadyH.nil
  rw [if_pos (by rfl)]
  refine wp_store_row 53 _ _ rfl W.heap.size #[.int .i64 (t.kind : Int), .string t.text, .int .i64 t.num, .int .i64 (t.a : Int), .int .i64 (t.e : Int)] rfl rfl 53 _ HZ.out infoTk rfl (by kernel_rfl) ?_
  refine hK.out _ _ ?_ (fun hHeld => ?_)
  · exact MS.out _ (below_row HD.out _ _ (Nat.le_refl _))
  clear hK K hHeld
  try simp only [Act.put, List.setIfInBounds_toArray, List.set_cons_zero, List.set_cons_succ]
  refine wpAnyH_done (by kernel_rfl) ?_ _
  have HV := hid (setRow_heap Z _ _ #[.int .i64 (t.kind : Int), .string t.text, .int .i64 t.num, .int .i64 (t.a : Int), .int .i64 (t.e : Int)] _ _ HZ.out)
  have HBV := hid (below_row HD.out W.heap.size #[.int .i64 (t.kind : Int), .string t.text, .int .i64 t.num, .int .i64 (t.a : Int), .int .i64 (t.e : Int)] (Nat.le_refl _))
  generalize Z.setRow W.heap.size #[.int .i64 (t.kind : Int), .string t.text, .int .i64 t.num, .int .i64 (t.a : Int), .int .i64 (t.e : Int)] = V at *
  go_wp2_with fail
  exact ⟨rfl, .agg #[.int .i64 (t.kind : Int), .string t.text, .int .i64 t.num, .int .i64 (t.a : Int), .int .i64 (t.e : Int)], results_cell_row Tryz.results35 _ V W.heap.size 53 #[.int .i64 (t.kind : Int), .string t.text, .int .i64 t.num, .int .i64 (t.a : Int), .int .i64 (t.e : Int)] (0, 0) _ rfl HV.out Tryz.underlying53 rfl infoTk, rfl, HBV.out⟩
end Go.Proofs.YtcldglilhhhdoaaGreatDoor.L
