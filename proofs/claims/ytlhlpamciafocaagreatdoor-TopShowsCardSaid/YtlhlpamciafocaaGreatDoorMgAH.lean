import Derived.Test.YtlhlpamciafocaaGreatDoorMgAC
import Derived.Test.YtlhlpamciafocaaGreatDoorMgAD
import Derived.Test.YtlhlpamciafocaaGreatDoorMgAG
namespace Go.Proofs.YtlhlpamciafocaaGreatDoor.L
open Go.RowKit
set_option linter.unusedVariables false
set_option linter.unusedSimpArgs false
/-- A fault in memory. -/
def Fli (W : World) (N c : Nat) (a : Int) : Prop := W.heap[N]? = some (.cells #[.int .i64 (c : Int), .int .i64 a, .string ⟨#[]⟩, .nilIface] 67 (0, 0))
abbrev pe (N : Nat) : Ending := .panicked [{ v := .iface 60 (.pointer (some ⟨N, 0, none⟩)), recovered := false }]
theorem giveup_any (c : Nat) (a : Int) (w : World) : Calls Tryz.prog 36 #[.int .i64 (c : Int), .int .i64 a] w fun e w' => ∃ N, e = pe N ∧ Fli w' N c a ∧ Below w.heap.size w w' := by
  have HB := hid (belowA w (.cells #[.int .i64 (c : Int), .int .i64 a, .string ⟨#[]⟩, .nilIface] 67))
  have HX := hid (heap_alloc_new w (.cells #[.int .i64 (c : Int), .int .i64 a, .string ⟨#[]⟩, .nilIface] 67))
  go_enter Tryz.func36, Tryz.ntmps36
  go_wp2_with fail
  exact ⟨rfl, _, rfl, HX.out, HB.out⟩
/-- The parser in memory. -/
structure Apx (Nb : Nat → Prop) (W : World) (n : Nat) (o : Value) (ks : Nat → Value) : Prop where
  kx : ∀ j, j < n → ∀ k, (ks j).ownBlock = some k → ¬ Nb k
  ox : ∀ k, o.ownBlock = some k → ¬ Nb k
  xl : ∀ k, Nb k → k < W.heap.size
  two : ∀ i j, i < n → j < n → i ≠ j → ∀ k, (ks i).ownBlock = some k → (ks j).ownBlock ≠ some k
theorem Apx.size {Nb : Nat → Prop} {W W' : World} {n : Nat} {o : Value} {ks : Nat → Value} (h : Apx Nb W n o ks) (hs : ∀ k, k < W.heap.size → k < W'.heap.size) : Apx Nb W' n o ks := ⟨h.kx, h.ox, fun k hk => hs k (h.xl k hk), h.two⟩
structure PM (pb B : Nat) (Nb : Nat → Prop) (tv : Value) (T : List Tok) (W : World) (s : PS) (v o : Value) (ks : Nat → Value) : Prop where
  box : W.heap[pb]? = some (.cells #[tv, .int .i64 (s.nx : Int), .int .i64 (s.ns : Int), v, o] 63 (0, 0))
  tok : OwnT W 0 tv T
  tlt : ∀ k, tv.ownBlock = some k → k < B
  parts : OwnP W B v s.ps ks s.ps.length
  offs : OwnI W B o s.os
  pbB : B ≤ pb
  nx : s.nx < T.length
  ns : s.ns ≤ 32
  tl : T.length ≤ 4097
  fin : ∀ k, k < T.length → (tk T k).kind ≠ 0 → k + 1 < T.length
  apart : ∀ j, j < s.ps.length → ∀ k, (ks j).ownBlock = some k → o.ownBlock ≠ some k
  apx : Apx Nb W s.ps.length o ks
theorem row_kept {W W' : World} {base : Nat} {e : TypeId} {size : Nat} {v : Value} {n : Nat} {xs : List Value} (h : W.ownsRow base e size v n xs) (hk : ∀ k, v.ownBlock = some k → W'.heap[k]? = W.heap[k]?) : W'.ownsRow base e size v n xs := by
  refine ⟨h.1, ?_⟩
  rcases h.2 with h0 | ⟨g, cap, cur, rfl, hb, hg, h3⟩
  · exact Or.inl h0
  · exact Or.inr ⟨g, cap, cur, rfl, hb, (hk g rfl).trans hg, h3⟩
theorem row_at {W : World} {base : Nat} {e : TypeId} {size : Nat} {v : Value} {n : Nat} {xs : List Value} (h : W.ownsRow base e size v n xs) {k : Nat} (hk : v.ownBlock = some k) : base ≤ k ∧ k < W.heap.size ∧ ∃ cur, W.heap[k]? = some (.cells cur e (0, 0)) := by
  rcases h.2 with ⟨rfl, _⟩ | ⟨g, cap, cur, rfl, hb, hg, h3⟩
  · cases hk
  · obtain rfl : g = k := by simpa [Value.ownBlock] using hk
    exact ⟨hb, lt_blk hg, cur, hg⟩
theorem PM.low {pb B : Nat} {Nb : Nat → Prop} {tv : Value} {T : List Tok} {W W' : World} {s : PS} {v o : Value} {ks : Nat → Value} (h : PM pb B Nb tv T W s v o ks) (hb : Below W.heap.size W W') : PM pb B Nb tv T W' s v o ks :=
  ⟨(hb.block _ (lt_blk h.box)).trans h.box, row_kept h.tok (fun k hk => hb.block k (row_at h.tok hk).2.1), h.tlt, ⟨row_kept h.parts.row (fun k hk => hb.block k (row_at h.parts.row hk).2.1), fun j hj => row_kept (h.parts.kids j hj) (fun k hk => hb.block k (row_at (h.parts.kids j hj) hk).2.1)⟩, row_kept h.offs (fun k hk => hb.block k (row_at h.offs hk).2.1), h.pbB, h.nx, h.ns, h.tl, h.fin, h.apart, h.apx.size (fun k hk => Nat.lt_of_lt_of_le hk hb.size)⟩
/-- Only the parser's own blocks have changed. -/
structure Fp (pb : Nat) (W : World) (v o : Value) (W' : World) (v' o' : Value) : Prop where
  os : W'.os = W.os
  tape : W'.tape = W.tape
  output : W'.output = W.output
  size : W.heap.size ≤ W'.heap.size
  block : ∀ k, k < W.heap.size → k ≠ pb → v.ownBlock ≠ some k → o.ownBlock ≠ some k → W'.heap[k]? = W.heap[k]?
  vb : ∀ k, v'.ownBlock = some k → v.ownBlock = some k ∨ W.heap.size ≤ k
  ob : ∀ k, o'.ownBlock = some k → o.ownBlock = some k ∨ W.heap.size ≤ k
theorem Fp.refl (pb : Nat) (W : World) (v o : Value) : Fp pb W v o W v o := ⟨rfl, rfl, rfl, Nat.le_refl _, fun _ _ _ _ _ => rfl, fun k h => Or.inl h, fun k h => Or.inl h⟩
theorem Fp.of {pb : Nat} {W W' : World} (v o : Value) (h : Below W.heap.size W W') : Fp pb W v o W' v o := ⟨h.os, h.tape, h.output, h.size, fun k hk _ _ _ => h.block k hk, fun k h => Or.inl h, fun k h => Or.inl h⟩
theorem Fp.trans {pb : Nat} {W W1 W2 : World} {v o v1 o1 v2 o2 : Value} (h : Fp pb W v o W1 v1 o1) (k : Fp pb W1 v1 o1 W2 v2 o2) : Fp pb W v o W2 v2 o2 := by
  refine ⟨k.os.trans h.os, k.tape.trans h.tape, k.output.trans h.output, Nat.le_trans h.size k.size, fun j hj h1 h2 h3 => ?_, fun j hj => ?_, fun j hj => ?_⟩
  · refine (k.block j (Nat.lt_of_lt_of_le hj h.size) h1 (fun e => ?_) (fun e => ?_)).trans (h.block j hj h1 h2 h3)
    · rcases h.vb j e with e | e
      · exact h2 e
      · omega
    · rcases h.ob j e with e | e
      · exact h3 e
      · omega
  · rcases k.vb j hj with e | e
    · exact h.vb j e
    · exact Or.inr (Nat.le_trans h.size e)
  · rcases k.ob j hj with e | e
    · exact h.ob j e
    · exact Or.inr (Nat.le_trans h.size e)
theorem PM.below {pb B : Nat} {Nb : Nat → Prop} {tv : Value} {T : List Tok} {W W' : World} {s : PS} {v o v' o' : Value} {ks : Nat → Value} (h : PM pb B Nb tv T W s v o ks) (hf : Fp pb W v o W' v' o') : Below B W W' := by
  refine ⟨hf.os, hf.tape, hf.output, hf.size, fun k hk => ?_⟩
  by_cases hs : k < W.heap.size
  · refine hf.block k hs (by have := h.pbB; omega) (fun e => ?_) (fun e => ?_)
    · have := (row_at h.parts.row e).1; omega
    · have := (row_at h.offs e).1; omega
  · have := h.pbB; have := lt_blk h.box; omega
/-- What a function of the parser gives. -/
def Po {α : Type} (pb B : Nat) (Nb : Nat → Prop) (tv : Value) (T : List Tok) (mk : α → Value) (r : PRes α) (W : World) (v o : Value) (e : Ending) (W' : World) : Prop :=
  match r with
  | .ok (a, s') => e = .returned (mk a) ∧ ∃ v' o' ks', PM pb B Nb tv T W' s' v' o' ks' ∧ Fp pb W v o W' v' o'
  | .error (c, x) => ∃ N, e = pe N ∧ Fli W' N c x ∧ Below B W W'
theorem Po.back {α : Type} {pb B : Nat} {Nb : Nat → Prop} {tv : Value} {T : List Tok} {mk : α → Value} {r : PRes α} {W0 W W' : World} {v0 o0 v o : Value} {s0 : PS} {ks0 : Nat → Value} {e : Ending} (h : Po pb B Nb tv T mk r W v o e W') (h0 : PM pb B Nb tv T W0 s0 v0 o0 ks0) (hf : Fp pb W0 v0 o0 W v o) : Po pb B Nb tv T mk r W0 v0 o0 e W' := by
  match r, h with
  | .ok (a, s'), ⟨h1, v', o', ks', h2, h3⟩ => exact ⟨h1, v', o', ks', h2, hf.trans h3⟩
  | .error (c, x), ⟨N, h1, h2, h3⟩ =>
    have hb := h0.below hf
    exact ⟨N, h1, h2, hb.trans h3⟩
theorem cellsT_get (l : List Tok) (j r : Nat) (hr : r < 5) (hj : j < l.length) : (cellsT l)[j * 5 + r]? = ([.int .i64 ((tk l j).kind : Int), .string (tk l j).text, .int .i64 (tk l j).num, .int .i64 ((tk l j).a : Int), .int .i64 ((tk l j).e : Int)] : List Value)[r]? := by
  induction l generalizing j with
  | nil => simp at hj
  | cons x l ih =>
    cases j with
    | zero =>
      simp only [cellsT, List.flatMap_cons, Nat.zero_mul, Nat.zero_add]
      rw [List.getElem?_append_left (by simpa using hr)]
      rfl
    | succ j =>
      simp only [cellsT, List.flatMap_cons]
      rw [List.getElem?_append_right (by simp; omega)]
      have := ih j (by simpa using hj)
      rw [show (j + 1) * 5 + r - ([.int .i64 (x.kind : Int), .string x.text, .int .i64 x.num, .int .i64 (x.a : Int), .int .i64 (x.e : Int)] : List Value).length = j * 5 + r by simp; omega]
      exact this
theorem PM.tokc {pb B : Nat} {Nb : Nat → Prop} {tv : Value} {T : List Tok} {W : World} {s : PS} {v o : Value} {ks : Nat → Value} (h : PM pb B Nb tv T W s v o ks) : ∃ g cap, tv = .slice (some ⟨g, 0, none⟩) T.length cap ∧ g < W.heap.size ∧ ∀ j r, j < T.length → r < 5 → W.cell? ⟨g, j * 5 + r, none⟩ = ([.int .i64 ((tk T j).kind : Int), .string (tk T j).text, .int .i64 (tk T j).num, .int .i64 ((tk T j).a : Int), .int .i64 ((tk T j).e : Int)] : List Value)[r]? := by
  rcases h.tok.2 with ⟨_, n0⟩ | ⟨g, cap, cur, rfl, hb, hg, h3, h4, h5, h6⟩
  · have := h.nx; omega
  · refine ⟨g, cap, rfl, lt_blk hg, fun j r hj hr => ?_⟩
    rw [cell_of_row W g _ _ _ _ hg, ← cellsT_get T j r hr hj, ← h6, List.getElem?_take_of_lt (by omega), Array.getElem?_toList]
theorem infoTk : (Tryz.prog.info? 80).map (·.size) = some 5 := by kernel_rfl
set_option maxHeartbeats 4000000 in
set_option maxRecDepth 100000 in
theorem token_any {pb B : Nat} {Nb : Nat → Prop} {tv : Value} {T : List Tok} {W : World} {s : PS} {v o : Value} {ks : Nat → Value} (h : PM pb B Nb tv T W s v o ks) :
    Calls Tryz.prog 34 #[.pointer (some ⟨pb, 0, none⟩)] W fun e W' => e = .returned (L.tv (tk T s.nx)) ∧ Below W.heap.size W W' := by
  obtain ⟨g, cap, rfl, hgl, hc⟩ := h.tokc
  have HB0 := hid (belowA W (.cells #[.int .i64 0, .string ⟨#[]⟩, .int .i64 0, .int .i64 0, .int .i64 0] 80))
  have HX0 := hid (heap_alloc_new W (.cells #[.int .i64 0, .string ⟨#[]⟩, .int .i64 0, .int .i64 0, .int .i64 0] 80))
  have hnx := h.nx
  have htl := h.tl
  have HP := hid h.box
  have HC := hid (fun r (hr : r < 5) => hc s.nx r hnx hr)
  have HGL := hid hgl
  clear hc h hgl
  generalize tk T s.nx = t at *
  generalize T.length = L at *
  generalize s.nx = n at *
  go_enter Tryz.func34, Tryz.ntmps34
  go_upto_region 1 with (fail)
  generalize W.alloc (.cells #[.int .i64 0, .string ⟨#[]⟩, .int .i64 0, .int .i64 0, .int .i64 0] 80) = X at *
  have g1 : (n : Int) < (L : Int) := by omega
  have g0 : (0 : Int) ≤ (n : Int) := by omega
  have MS := hid (show ∀ Y, Below W.heap.size W Y → (fun Y => (Y.cell? ⟨pb, 0, none⟩ = some (.slice (some ⟨g, 0, none⟩) L cap) ∧ Y.cell? ⟨pb, 1, none⟩ = some (.int .i64 (n : Int))) ∧ Y.cell? ⟨g, n * 5, none⟩ = some (.int .i64 (t.kind : Int)) ∧ Y.cell? ⟨g, n * 5 + 1, none⟩ = some (.string t.text) ∧ Y.cell? ⟨g, n * 5 + 2, none⟩ = some (.int .i64 t.num) ∧ Y.cell? ⟨g, n * 5 + 3, none⟩ = some (.int .i64 (t.a : Int)) ∧ Y.cell? ⟨g, n * 5 + 4, none⟩ = some (.int .i64 (t.e : Int))) Y from fun Y hb => ⟨⟨(hb.cell (p := ⟨pb, 0, none⟩) (lt_blk HP.out)).trans (cell_of_row _ _ 0 _ _ _ HP.out), (hb.cell (p := ⟨pb, 1, none⟩) (lt_blk HP.out)).trans (cell_of_row _ _ 1 _ _ _ HP.out)⟩, (hb.cell (p := ⟨g, n * 5, none⟩) HGL.out).trans (HC.out 0 (by decide)), (hb.cell (p := ⟨g, n * 5 + 1, none⟩) HGL.out).trans (HC.out 1 (by decide)), (hb.cell (p := ⟨g, n * 5 + 2, none⟩) HGL.out).trans (HC.out 2 (by decide)), (hb.cell (p := ⟨g, n * 5 + 3, none⟩) HGL.out).trans (HC.out 3 (by decide)), (hb.cell (p := ⟨g, n * 5 + 4, none⟩) HGL.out).trans (HC.out 4 (by decide))⟩)
  have HD := hid (show Below W.heap.size W X.drew from HB0.out.drew)
  have HZ := hid (show X.drew.heap[W.heap.size]? = _ from HX0.out)
  refine wp_region_held_drew (S := (fun Y => (Y.cell? ⟨pb, 0, none⟩ = some (.slice (some ⟨g, 0, none⟩) L cap) ∧ Y.cell? ⟨pb, 1, none⟩ = some (.int .i64 (n : Int))) ∧ Y.cell? ⟨g, n * 5, none⟩ = some (.int .i64 (t.kind : Int)) ∧ Y.cell? ⟨g, n * 5 + 1, none⟩ = some (.string t.text) ∧ Y.cell? ⟨g, n * 5 + 2, none⟩ = some (.int .i64 t.num) ∧ Y.cell? ⟨g, n * 5 + 3, none⟩ = some (.int .i64 (t.a : Int)) ∧ Y.cell? ⟨g, n * 5 + 4, none⟩ = some (.int .i64 (t.e : Int)))) (by kernel_rfl) ?_ (fun hHeld => ?_)
  · exact MS.out _ HD.out
  generalize X.drew = Z at *
  refine wpAnyH_take (i := 0) (oi := { dst := some 3, op := Op.move (Operand.tmp 0), type := 61, pos := "parse.go:60", after := #[], guard := none }) (v := ?_) rfl (by kernel_rfl) (by kernel_rfl) (by kernel_rfl) (fun _ _ _ h => h) (Or.inl ⟨by rfl, ?_⟩) (by assumption) ?_
  rotate_left
  · (intro w hSw; (try dsimp only at hSw); go_simp; try with_reducible rfl)
  try simp only [Act.put, List.setIfInBounds_toArray, List.set_cons_zero, List.set_cons_succ]
  refine wpAnyH_take (i := 1) (oi := { dst := some 4, op := Op.nilCheck (Operand.tmp 3), type := 0, pos := "parse.go:60", after := #[{ on := 0, ground := Ground.data }], guard := none }) (v := ?_) rfl (by kernel_rfl) (by kernel_rfl) (by kernel_rfl) (fun _ _ _ h => h) (Or.inl ⟨by rfl, ?_⟩) (by assumption) ?_
  rotate_left
  · (intro w hSw; (try dsimp only at hSw); go_simp; try with_reducible rfl)
  try simp only [Act.put, List.setIfInBounds_toArray, List.set_cons_zero, List.set_cons_succ]
  refine wpAnyH_take (i := 2) (oi := { dst := some 5, op := Op.fieldAddr 63 (Operand.tmp 4) 0, type := 0, pos := "parse.go:60", after := #[{ on := 1, ground := Ground.data }], guard := none }) (v := ?_) rfl (by kernel_rfl) (by kernel_rfl) (by kernel_rfl) (fun _ _ _ h => h) (Or.inl ⟨by rfl, ?_⟩) (by assumption) ?_
  rotate_left
  · (intro w hSw; (try dsimp only at hSw); go_simp; try with_reducible rfl)
  try simp only [Act.put, List.setIfInBounds_toArray, List.set_cons_zero, List.set_cons_succ]
  refine wpAnyH_take (i := 3) (oi := { dst := some 6, op := Op.load 57 (Operand.tmp 5), type := 57, pos := "parse.go:60", after := #[{ on := 2, ground := Ground.data }], guard := none }) (v := ?_) rfl (by kernel_rfl) (by kernel_rfl) (by kernel_rfl) (fun _ _ _ h => h) (Or.inl ⟨by rfl, ?_⟩) (by assumption) ?_
  rotate_left
  · (intro w hSw; (try dsimp only at hSw); go_simp; try with_reducible rfl)
  try simp only [Act.put, List.setIfInBounds_toArray, List.set_cons_zero, List.set_cons_succ]
  refine wpAnyH_take (i := 4) (oi := { dst := some 7, op := Op.move (Operand.tmp 0), type := 61, pos := "parse.go:60", after := #[], guard := none }) (v := ?_) rfl (by kernel_rfl) (by kernel_rfl) (by kernel_rfl) (fun _ _ _ h => h) (Or.inl ⟨by rfl, ?_⟩) (by assumption) ?_
  rotate_left
  · (intro w hSw; (try dsimp only at hSw); go_simp; try with_reducible rfl)
  try simp only [Act.put, List.setIfInBounds_toArray, List.set_cons_zero, List.set_cons_succ]
  refine wpAnyH_take (i := 5) (oi := { dst := some 8, op := Op.nilCheck (Operand.tmp 7), type := 0, pos := "parse.go:60", after := #[{ on := 4, ground := Ground.data }], guard := none }) (v := ?_) rfl (by kernel_rfl) (by kernel_rfl) (by kernel_rfl) (fun _ _ _ h => h) (Or.inl ⟨by rfl, ?_⟩) (by assumption) ?_
  rotate_left
  · (intro w hSw; (try dsimp only at hSw); go_simp; try with_reducible rfl)
  try simp only [Act.put, List.setIfInBounds_toArray, List.set_cons_zero, List.set_cons_succ]
  refine wpAnyH_take (i := 6) (oi := { dst := some 9, op := Op.fieldAddr 63 (Operand.tmp 8) 1, type := 0, pos := "parse.go:60", after := #[{ on := 5, ground := Ground.data }], guard := none }) (v := ?_) rfl (by kernel_rfl) (by kernel_rfl) (by kernel_rfl) (fun _ _ _ h => h) (Or.inl ⟨by rfl, ?_⟩) (by assumption) ?_
  rotate_left
  · (intro w hSw; (try dsimp only at hSw); go_simp; try with_reducible rfl)
  try simp only [Act.put, List.setIfInBounds_toArray, List.set_cons_zero, List.set_cons_succ]
  refine wpAnyH_take (i := 7) (oi := { dst := some 10, op := Op.load 3 (Operand.tmp 9), type := 3, pos := "parse.go:60", after := #[{ on := 6, ground := Ground.data }], guard := none }) (v := ?_) rfl (by kernel_rfl) (by kernel_rfl) (by kernel_rfl) (fun _ _ _ h => h) (Or.inl ⟨by rfl, ?_⟩) (by assumption) ?_
  rotate_left
  · (intro w hSw; (try dsimp only at hSw); go_simp; try with_reducible rfl)
  try simp only [Act.put, List.setIfInBounds_toArray, List.set_cons_zero, List.set_cons_succ]
  refine wpAnyH_take (i := 8) (oi := { dst := some 11, op := Op.indexAddr 57 (Operand.tmp 6) (Operand.tmp 10), type := 0, pos := "parse.go:60", after := #[{ on := 3, ground := Ground.data }, { on := 7, ground := Ground.data }], guard := none }) (v := ?_) rfl (by kernel_rfl) (by kernel_rfl) (by kernel_rfl) (fun _ _ _ h => h) (Or.inl ⟨by rfl, ?_⟩) (by assumption) ?_
  rotate_left
  · (intro w hSw; (try dsimp only at hSw); go_simp; try with_reducible rfl)
  try simp only [Act.put, List.setIfInBounds_toArray, List.set_cons_zero, List.set_cons_succ]
  refine wpAnyH_take (i := 9) (oi := { dst := some 12, op := Op.load 80 (Operand.tmp 11), type := 80, pos := "parse.go:60", after := #[{ on := 8, ground := Ground.data }], guard := none }) (v := ?_) rfl (by kernel_rfl) (by kernel_rfl) (by kernel_rfl) (fun _ _ _ h => h) (Or.inl ⟨by rfl, ?_⟩) (by assumption) ?_
  rotate_left
  · (intro w hSw; (try dsimp only at hSw); go_simp; try with_reducible rfl)
  try simp only [Act.put, List.setIfInBounds_toArray, List.set_cons_zero, List.set_cons_succ]
  refine wpAnyH_ready (rs := [10]) (by kernel_rfl) (by simp) ?_
  refine AllReadyH.cons (o := { dst := none, op := Op.store 80 (Operand.tmp 2) (Operand.tmp 12), type := 0, pos := "parse.go:60", after := #[{ on := 9, ground := Ground.data }, { on := 0, ground := Ground.phase }, { on := 1, ground := Ground.phase }, { on := 2, ground := Ground.phase }, { on := 3, ground := Ground.phase }, { on := 4, ground := Ground.phase }, { on := 5, ground := Ground.phase }, { on := 6, ground := Ground.phase }, { on := 7, ground := Ground.phase }, { on := 8, ground := Ground.phase }, { on := 9, ground := Ground.phase }], guard := none }) rfl (fun K hK => ?_) AllReadyH.nil
  rw [if_pos (by rfl)]
  refine wp_store_row 80 _ _ rfl W.heap.size #[.int .i64 (t.kind : Int), .string t.text, .int .i64 t.num, .int .i64 (t.a : Int), .int .i64 (t.e : Int)] rfl rfl 80 _ HZ.out infoTk rfl (by kernel_rfl) ?_
  refine hK.out _ _ ?_ (fun hHeld => ?_)
  · exact MS.out _ (below_row HD.out _ _ (Nat.le_refl _))
  clear hK K hHeld
  try simp only [Act.put, List.setIfInBounds_toArray, List.set_cons_zero, List.set_cons_succ]
  refine wpAnyH_done (by kernel_rfl) ?_ _
  have HV := hid (setRow_heap Z _ _ #[.int .i64 (t.kind : Int), .string t.text, .int .i64 t.num, .int .i64 (t.a : Int), .int .i64 (t.e : Int)] _ _ HZ.out)
  have HBV := hid (below_row HD.out W.heap.size #[.int .i64 (t.kind : Int), .string t.text, .int .i64 t.num, .int .i64 (t.a : Int), .int .i64 (t.e : Int)] (Nat.le_refl _))
  generalize Z.setRow W.heap.size #[.int .i64 (t.kind : Int), .string t.text, .int .i64 t.num, .int .i64 (t.a : Int), .int .i64 (t.e : Int)] = V at *
  go_wp2_with fail
  exact ⟨rfl, .agg #[.int .i64 (t.kind : Int), .string t.text, .int .i64 t.num, .int .i64 (t.a : Int), .int .i64 (t.e : Int)], results_cell_row Tryz.results34 _ V W.heap.size 80 #[.int .i64 (t.kind : Int), .string t.text, .int .i64 t.num, .int .i64 (t.a : Int), .int .i64 (t.e : Int)] (0, 0) _ rfl HV.out Tryz.underlying80 rfl infoTk, rfl, HBV.out⟩
end Go.Proofs.YtlhlpamciafocaaGreatDoor.L
namespace Go.Proofs.YtlhlpamciafocaaGreatDoor.L
open Go.RowKit
set_option linter.unusedVariables false
set_option linter.unusedSimpArgs false
theorem PM.chg {pb B : Nat} {Nb : Nat → Prop} {tv : Value} {T : List Tok} {W : World} {s : PS} {v o : Value} {ks : Nat → Value} {W' : World} {s' : PS} (h : PM pb B Nb tv T W s v o ks) (hb : W'.heap[pb]? = some (.cells #[tv, .int .i64 (s'.nx : Int), .int .i64 (s'.ns : Int), v, o] 63 (0, 0))) (hk : ∀ k, k < W.heap.size → k ≠ pb → W'.heap[k]? = W.heap[k]?) (hp : s'.ps = s.ps) (ho : s'.os = s.os) (hn : s'.nx < T.length) (hs : s'.ns ≤ 32) : PM pb B Nb tv T W' s' v o ks := by
  have key : ∀ {e : TypeId} {base size n : Nat} {u : Value} {xs : List Value}, e ≠ 63 → W.ownsRow base e size u n xs → W'.ownsRow base e size u n xs := by
    intro e base size n u xs he hr
    refine row_kept hr (fun k hkk => ?_)
    obtain ⟨_, h2, cur, h3⟩ := row_at hr hkk
    refine hk k h2 (fun e2 => ?_)
    rw [e2, h.box] at h3
    injection h3 with h3
    injection h3 with _ h4
    exact he h4.symm
  refine ⟨hb, key (by decide) h.tok, h.tlt, ?_, ?_, h.pbB, hn, hs, h.tl, h.fin, by rw [hp]; exact h.apart, by rw [hp]; exact h.apx.size (fun k h1 => by by_cases e : k = pb; (rw [e]; exact lt_blk hb); have h2 := hk k h1 e; rw [Array.getElem?_eq_getElem h1] at h2; exact lt_blk h2)⟩
  · rw [hp]
    exact ⟨key (by decide) h.parts.row, fun j hj => key (by decide) (h.parts.kids j hj)⟩
  · rw [ho]
    exact key (by decide) h.offs
theorem Fp.chg {pb : Nat} {W W' : World} (v o : Value) (h1 : W'.os = W.os) (h2 : W'.tape = W.tape) (h3 : W'.output = W.output) (h4 : W.heap.size ≤ W'.heap.size) (hk : ∀ k, k < W.heap.size → k ≠ pb → W'.heap[k]? = W.heap[k]?) : Fp pb W v o W' v o :=
  ⟨h1, h2, h3, h4, fun k hk1 hk2 _ _ => hk k hk1 hk2, fun k h => Or.inl h, fun k h => Or.inl h⟩
theorem set_oth {W : World} {g k : Nat} {cs : Array Value} {t : TypeId} (h : W.heap[g]? = some (.cells cs t (0, 0))) (j : Nat) (v : Value) (hk : k ≠ g) : (W.setCell ⟨g, j, none⟩ v).heap[k]? = W.heap[k]? := by
  rw [setCell_eq_setRow _ _ _ _ _ _ _ h]
  exact setRow_other _ _ _ _ hk
theorem frz_row {W : World} {g : Nat} {cs : Array Value} {t : TypeId} (h : W.heap[g]? = some (.cells cs t (0, 0))) (j : Nat) : W.frozen? ⟨g, j, none⟩ = false := by
  simp [World.frozen?, h]
set_option maxHeartbeats 4000000 in
set_option maxRecDepth 100000 in
theorem take_any {pb B : Nat} {Nb : Nat → Prop} {tv : Value} {T : List Tok} {W : World} {s : PS} {v o : Value} {ks : Nat → Value} (h : PM pb B Nb tv T W s v o ks) (hk : (tk T s.nx).kind ≠ 0) :
    Calls Tryz.prog 72 #[.pointer (some ⟨pb, 0, none⟩)] W fun e W' => e = .returned (L.tv (tk T s.nx)) ∧ PM pb B Nb tv T W' (adv s) v o ks ∧ Fp pb W v o W' v o := by
  have HB0 := hid (belowA W (.cells #[.int .i64 0, .string ⟨#[]⟩, .int .i64 0, .int .i64 0, .int .i64 0] 80))
  have HX0 := hid (heap_alloc_new W (.cells #[.int .i64 0, .string ⟨#[]⟩, .int .i64 0, .int .i64 0, .int .i64 0] 80))
  have hnx := h.nx
  have htl := h.tl
  have HFIN := hid (h.fin _ hnx hk)
  have HP := hid h
  clear h hk
  obtain ⟨t, ht⟩ : ∃ t, t = tk T s.nx := ⟨_, rfl⟩
  have HT := hid ht
  rw [← ht]
  clear ht
  have hnL : (s.nx : Int) + 1 ≤ 4098 := by omega
  go_enter Tryz.func72, Tryz.ntmps72
  go_upto_region 1 with (fail)
  generalize W.alloc (.cells #[.int .i64 0, .string ⟨#[]⟩, .int .i64 0, .int .i64 0, .int .i64 0] 80) = X at *
  have HTK := hid (token_any (HP.out.low HB0.out))
  rw [← HT.out] at HTK
  unfold L.tv at HTK
  go_upto_region 2 with (go_at_call 34; refine HTK.out.mono ?_; rintro e Y ⟨rfl, l⟩; have L1 := hid (HB0.out.trans (l.mono HB0.out.size)); have X1 := hid ((l.block _ (lt_blk HX0.out)).trans HX0.out); clear l)
  have HB2 := hid (belowA Y (.cells #[.int .i64 (t.kind : Int), .string t.text, .int .i64 t.num, .int .i64 (t.a : Int), .int .i64 (t.e : Int)] 80))
  have HX2 := hid (heap_alloc_new Y (.cells #[.int .i64 (t.kind : Int), .string t.text, .int .i64 t.num, .int .i64 (t.a : Int), .int .i64 (t.e : Int)] 80))
  have L2 := hid (L1.out.trans (HB2.out.mono L1.out.size))
  have X2 := hid ((HB2.out.block _ (lt_blk X1.out)).trans X1.out)
  clear HTK
  generalize Y.alloc (.cells #[.int .i64 (t.kind : Int), .string t.text, .int .i64 t.num, .int .i64 (t.a : Int), .int .i64 (t.e : Int)] 80) = Z at *
  generalize Y.heap.size = b1 at *
  have HPZ := hid (HP.out.low L2.out)
  have c1 : Z.cell? ⟨pb, 1, none⟩ = some (.int .i64 (s.nx : Int)) := cell_of_row _ _ 1 _ _ _ HPZ.out.box
  have f1 := frz_row HPZ.out.box 1
  go_upto_region 3 with (fail)
  have HV1 := hid (show (Z.setCell ⟨pb, 1, none⟩ (.int .i64 ((s.nx : Int) + 1))).heap[pb]? = some (.cells #[tv, .int .i64 ((s.nx : Int) + 1), .int .i64 (s.ns : Int), v, o] 63 (0, 0)) by rw [setCell_eq_setRow _ _ _ _ _ _ _ HPZ.out.box, setRow_heap _ _ _ _ _ _ HPZ.out.box]; rfl)
  have HVO := hid (fun k (hk : k ≠ pb) => set_oth (k := k) HPZ.out.box 1 (.int .i64 ((s.nx : Int) + 1)) hk)
  have HVS := hid (show (Z.setCell ⟨pb, 1, none⟩ (.int .i64 ((s.nx : Int) + 1))).os = Z.os ∧ (Z.setCell ⟨pb, 1, none⟩ (.int .i64 ((s.nx : Int) + 1))).tape = Z.tape ∧ (Z.setCell ⟨pb, 1, none⟩ (.int .i64 ((s.nx : Int) + 1))).output = Z.output ∧ (Z.setCell ⟨pb, 1, none⟩ (.int .i64 ((s.nx : Int) + 1))).heap.size = Z.heap.size from ⟨rfl, rfl, rfl, by simp⟩)
  clear c1 f1
  generalize Z.setCell ⟨pb, 1, none⟩ (.int .i64 ((s.nx : Int) + 1)) = V at *
  have HNB := hid (show b1 ≠ pb from fun e => (by have h1 := HX2.out; rw [e, HPZ.out.box] at h1; cases h1))
  have HNW := hid (show W.heap.size ≠ pb from fun e => (by have h1 := X2.out; rw [e, HPZ.out.box] at h1; cases h1))
  have HB1 := hid ((HVO.out _ HNB.out).trans HX2.out)
  have HW1 := hid ((HVO.out _ HNW.out).trans X2.out)
  have ⟨d0, d1, d2, d3, d4⟩ : V.cell? ⟨b1, 0, none⟩ = some (.int .i64 (t.kind : Int)) ∧ V.cell? ⟨b1, 1, none⟩ = some (.string t.text) ∧ V.cell? ⟨b1, 2, none⟩ = some (.int .i64 t.num) ∧ V.cell? ⟨b1, 3, none⟩ = some (.int .i64 (t.a : Int)) ∧ V.cell? ⟨b1, 4, none⟩ = some (.int .i64 (t.e : Int)) := ⟨cell_of_row _ _ 0 _ _ _ HB1.out, cell_of_row _ _ 1 _ _ _ HB1.out, cell_of_row _ _ 2 _ _ _ HB1.out, cell_of_row _ _ 3 _ _ _ HB1.out, cell_of_row _ _ 4 _ _ _ HB1.out⟩
  refine wp_region_lit ?_
  refine wpList_plain rfl fun K hK => ?_
  have HK := hid hK
  clear hK
  go_simp
  refine HK.out _ _ ?_
  clear HK
  try simp only [Act.put, List.setIfInBounds_toArray, List.set_cons_zero, List.set_cons_succ]
  refine wpList_store_row rfl 80 _ _ rfl W.heap.size #[.int .i64 (t.kind : Int), .string t.text, .int .i64 t.num, .int .i64 (t.a : Int), .int .i64 (t.e : Int)] rfl rfl 80 _ HW1.out infoTk rfl (by kernel_rfl) ?_
  try simp only [Act.put, List.setIfInBounds_toArray, List.set_cons_zero, List.set_cons_succ]
  have HV := hid (setRow_heap V _ _ #[.int .i64 (t.kind : Int), .string t.text, .int .i64 t.num, .int .i64 (t.a : Int), .int .i64 (t.e : Int)] _ _ HW1.out)
  have HU1 := hid (show (V.setRow W.heap.size #[.int .i64 (t.kind : Int), .string t.text, .int .i64 t.num, .int .i64 (t.a : Int), .int .i64 (t.e : Int)]).heap[pb]? = _ from (setRow_other _ _ _ _ (Ne.symm HNW.out)).trans HV1.out)
  have HUK := hid (show ∀ k, k < W.heap.size → k ≠ pb → (V.setRow W.heap.size #[.int .i64 (t.kind : Int), .string t.text, .int .i64 t.num, .int .i64 (t.a : Int), .int .i64 (t.e : Int)]).heap[k]? = W.heap[k]? from fun k h1 h2 => ((setRow_other _ _ _ _ (by omega)).trans (HVO.out k h2)).trans (L2.out.block k h1))
  have HUS := hid (show W.heap.size ≤ (V.setRow W.heap.size #[.int .i64 (t.kind : Int), .string t.text, .int .i64 t.num, .int .i64 (t.a : Int), .int .i64 (t.e : Int)]).heap.size by rw [setRow_size, HVS.out.2.2.2]; exact L2.out.size)
  have HUX := hid (show (V.setRow W.heap.size #[.int .i64 (t.kind : Int), .string t.text, .int .i64 t.num, .int .i64 (t.a : Int), .int .i64 (t.e : Int)]).os = W.os ∧ (V.setRow W.heap.size #[.int .i64 (t.kind : Int), .string t.text, .int .i64 t.num, .int .i64 (t.a : Int), .int .i64 (t.e : Int)]).tape = W.tape ∧ (V.setRow W.heap.size #[.int .i64 (t.kind : Int), .string t.text, .int .i64 t.num, .int .i64 (t.a : Int), .int .i64 (t.e : Int)]).output = W.output from ⟨HVS.out.1.trans L2.out.os, HVS.out.2.1.trans L2.out.tape, HVS.out.2.2.1.trans L2.out.output⟩)
  clear d0 d1 d2 d3 d4
  generalize V.setRow W.heap.size #[.int .i64 (t.kind : Int), .string t.text, .int .i64 t.num, .int .i64 (t.a : Int), .int .i64 (t.e : Int)] = U at *
  go_wp2_with fail
  exact ⟨rfl, .agg #[.int .i64 (t.kind : Int), .string t.text, .int .i64 t.num, .int .i64 (t.a : Int), .int .i64 (t.e : Int)], results_cell_row Tryz.results72 _ U W.heap.size 80 #[.int .i64 (t.kind : Int), .string t.text, .int .i64 t.num, .int .i64 (t.a : Int), .int .i64 (t.e : Int)] (0, 0) _ rfl HV.out Tryz.underlying80 rfl infoTk, rfl, HP.out.chg (s' := adv s) (show U.heap[pb]? = some (.cells #[tv, .int .i64 ((s.nx + 1 : Nat) : Int), .int .i64 (s.ns : Int), v, o] 63 (0, 0)) by rw [Int.natCast_add]; exact HU1.out) HUK.out rfl rfl HFIN.out HP.out.ns, Fp.chg v o HUX.out.1 HUX.out.2.1 HUX.out.2.2 HUS.out HUK.out⟩
end Go.Proofs.YtlhlpamciafocaaGreatDoor.L
