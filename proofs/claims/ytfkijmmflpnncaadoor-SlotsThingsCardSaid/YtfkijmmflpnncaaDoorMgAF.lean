import Derived.Test.YtfkijmmflpnncaaDoorRf1
import Derived.Laws.ResultCell
namespace Go.Proofs.YtfkijmmflpnncaaDoor.L
open Go.RowKit Bs Go.Maps
set_option linter.unusedVariables false
theorem badB_num (s : ByteArray) : (decide ((s.size : Int) < 1) || decide ((63 : Int) < (s.size : Int))) = badB s := by
  unfold badB
  congr 1 <;> apply decide_eq_decide.2 <;> omega
set_option maxHeartbeats 1000000 in
theorem rbad_any (s : ByteArray) (w : World) (hs : s.size ≤ maxLen) : Calls Tryd.prog 34 #[.string s] w fun e w' => e = .returned (.bool (badB s)) ∧ w' = w := by
  unfold maxLen at hs
  have HE := hid (badB_num s)
  by_cases h1 : (s.size : Int) < 1
  · rw [decide_eq_true h1, Bool.true_or] at HE
    go_enter Tryd.func34, Tryd.ntmps34
    go_wp2
    go_ret
    exact ⟨by rw [← HE.out]; rfl, rfl⟩
  · rw [decide_eq_false h1, Bool.false_or] at HE
    have h1' : (1 : Int) ≤ s.size := by omega
    go_enter Tryd.func34, Tryd.ntmps34
    go_wp2
    go_ret
    exact ⟨by rw [← HE.out]; rfl, rfl⟩
/-- The document's New: refused, or a table with no rows. -/
def newD (m : Int) : Value := if m < 0 ∨ 65536 < m then .tuple #[.agg #[.int .i64 0, .slice none 0 0], .int .i64 50] else .tuple #[.agg #[.int .i64 m, .slice none 0 0], .int .i64 0]
set_option maxHeartbeats 1000000 in
theorem rnew_any (m : Int) (w : World) : Calls Tryd.prog 7 #[.int .i64 m] w fun e w' => e = .returned (newD m) ∧ Below w.heap.size w w' := by
  by_cases h1 : m < 0
  · have e : newD m = .tuple #[.agg #[.int .i64 0, .slice none 0 0], .int .i64 50] := if_pos (Or.inl h1)
    rw [e]
    clear e
    go_enter Tryd.func7, Tryd.ntmps7
    go_wp2
    (try simp only [Exit.inBlock, Exit.then])
    refine bodyPost_ret (v := .tuple #[.agg #[.int .i64 0, .slice none 0 0], .int .i64 50]) ?_ rfl ⟨rfl, (Below.refl _ w).alloc (Nat.le_refl _) _⟩
    rw [results_cell_tmp rfl]
    go_simp
  · by_cases h2 : 65536 < m
    · have e : newD m = .tuple #[.agg #[.int .i64 0, .slice none 0 0], .int .i64 50] := if_pos (Or.inr h2)
      rw [e]
      clear e
      go_enter Tryd.func7, Tryd.ntmps7
      go_wp2
      (try simp only [Exit.inBlock, Exit.then])
      refine bodyPost_ret (v := .tuple #[.agg #[.int .i64 0, .slice none 0 0], .int .i64 50]) ?_ rfl ⟨rfl, (Below.refl _ w).alloc (Nat.le_refl _) _⟩
      rw [results_cell_tmp rfl]
      go_simp
    · have e : newD m = .tuple #[.agg #[.int .i64 m, .slice none 0 0], .int .i64 0] := if_neg (by omega)
      rw [e]
      clear e
      have h1' : 0 ≤ m := by omega
      have h2' : m ≤ 65536 := by omega
      go_enter Tryd.func7, Tryd.ntmps7
      go_wp2
      (try simp only [Exit.inBlock, Exit.then])
      refine bodyPost_ret (v := .tuple #[.agg #[.int .i64 m, .slice none 0 0], .int .i64 0]) ?_ rfl ⟨rfl, (Below.refl _ w).alloc (Nat.le_refl _) _⟩
      rw [results_cell_tmp rfl]
      go_simp
/-- One more than the highest slot of the first k rows. -/
def spn (d : List Dr) : Nat → Nat
  | 0 => 0
  | k + 1 => max (spn d k) (ds d k + 1)
def spanD (d : List Dr) : Nat := spn d d.length
theorem spn_le {d : List Dr} {b : Nat} (h : ∀ k, ds d k < b) : ∀ k, spn d k ≤ b
  | 0 => Nat.zero_le _
  | k + 1 => Nat.max_le.2 ⟨spn_le h k, h k⟩
end Go.Proofs.YtfkijmmflpnncaaDoor.L
namespace Go.Proofs.YtfkijmmflpnncaaDoor.L
open Go.RowKit Bs Go.Maps
set_option linter.unusedVariables false
theorem ItemsD.low {w w' : World} {v : Value} {d : List Dr} {B : Nat} (h : ItemsD w v d) (hb : Below B w w') (hB : w.heap.size ≤ B) : ItemsD w' v d := by
  obtain ⟨a, cap, rfl, h⟩ := h
  refine ⟨a, cap, rfl, ?_⟩
  rcases h with h | ⟨b, rfl, hl, hc⟩
  · exact Or.inl h
  · refine Or.inr ⟨b, rfl, Nat.lt_of_lt_of_le hl hb.size, fun j hj => ?_⟩
    have e : w'.heap[b]? = w.heap[b]? := hb.block b (by omega)
    rw [World.cell?_of_block (w := w) (a := ⟨b, j * 3, none⟩) e, World.cell?_of_block (w := w) (a := ⟨b, j * 3 + 1, none⟩) e, World.cell?_of_block (w := w) (a := ⟨b, j * 3 + 2, none⟩) e]
    exact hc j hj
theorem results_cell_tmp3 {fn : Func} {p u t : Tmp} {ty : TypeId} (h : fn.results = #[.cell p ty, .tmp u, .tmp t]) (tmps : Array Value) (P : Program) (w : World) :
    (results fn tmps).run P w =
      ((asAddr (tmps.getD p undef)).run P w).andThen fun a w₁ => ((loadVar ty a).run P w₁).andThen fun v w₂ => .ok (.tuple #[v, tmps.getD u undef, tmps.getD t undef]) w₂ := by
  simp only [results, h]
  simp [Sem.run_bind, Result.andThen]
/-- Two boxes: the table that was handed in, and the answer's. -/
structure Bp (w W : World) (m : Int) (v : Value) : Prop where
  c1 : W.cell? ⟨w.heap.size, 0, none⟩ = some (.int .i64 m)
  c2 : W.cell? ⟨w.heap.size, 1, none⟩ = some v
  c3 : W.cell? ⟨w.heap.size + 1, 0, none⟩ = some (.int .i64 0)
  c4 : W.cell? ⟨w.heap.size + 1, 1, none⟩ = some (.slice none 0 0)
  f3 : W.frozen? ⟨w.heap.size + 1, 0, none⟩ = false
  f4 : W.frozen? ⟨w.heap.size + 1, 1, none⟩ = false
  sz : w.heap.size + 1 < W.heap.size
  lo : Below w.heap.size w W
theorem Bp.mk2 (w : World) (m : Int) (v : Value) (t : TypeId) : Bp w ((w.alloc (.cells #[.int .i64 m, v] t)).alloc (.cells #[.int .i64 0, .slice none 0 0] t)) m v := by
  have h1 : ((w.alloc (.cells #[.int .i64 m, v] t)).alloc (.cells #[.int .i64 0, .slice none 0 0] t)).heap[w.heap.size + 1]? = some (.cells #[.int .i64 0, .slice none 0 0] t) := heap_alloc2_new w _ _
  have h2 : ((w.alloc (.cells #[.int .i64 m, v] t)).alloc (.cells #[.int .i64 0, .slice none 0 0] t)).heap[w.heap.size]? = some (.cells #[.int .i64 m, v] t) := by
    rw [heap_alloc_old _ _ (by simp)]
    exact heap_alloc_new w _
  refine ⟨?_, ?_, ?_, ?_, ?_, ?_, by simp, ((Below.refl _ w).alloc (Nat.le_refl _) _).alloc (by simp) _⟩
  · unfold World.cell?; rw [h2]; rfl
  · unfold World.cell?; rw [h2]; rfl
  · unfold World.cell?; rw [h1]; rfl
  · unfold World.cell?; rw [h1]; rfl
  · unfold World.frozen?; rw [h1]; rfl
  · unfold World.frozen?; rw [h1]; rfl
theorem Bp.low {w W W' : World} {m : Int} {v : Value} (h : Bp w W m v) (hb : Below W.heap.size W W') : Bp w W' m v := by
  obtain ⟨a1, a2, a3, a4, a5, a6, a7, a8⟩ := h
  refine ⟨?_, ?_, ?_, ?_, ?_, ?_, Nat.lt_of_lt_of_le a7 hb.size, a8.trans (hb.mono (Nat.le_trans (by omega) a7))⟩
  · exact (hb.cell (p := ⟨w.heap.size, 0, none⟩) (Nat.lt_of_succ_lt a7)).trans a1
  · exact (hb.cell (p := ⟨w.heap.size, 1, none⟩) (Nat.lt_of_succ_lt a7)).trans a2
  · exact (hb.cell (p := ⟨w.heap.size + 1, 0, none⟩) a7).trans a3
  · exact (hb.cell (p := ⟨w.heap.size + 1, 1, none⟩) a7).trans a4
  · unfold World.frozen? at *; rw [hb.block _ a7]; exact a5
  · unfold World.frozen? at *; rw [hb.block _ a7]; exact a6
theorem below_set {B : Nat} {a w : World} (h : Below B a w) (b o : Nat) (v : Value) (hb : B ≤ b) : Below B a (w.setCell ⟨b, o, none⟩ v) :=
  ⟨h.os, h.tape, h.output, by simpa using h.size, fun k hk => (heap_setCell_other w ⟨b, o, none⟩ k v (by show k ≠ b; omega)).trans (h.block k hk)⟩
set_option maxHeartbeats 4000000 in
theorem rput_bad (m : Int) (a : Option Addr) (L cap : Nat) (s : ByteArray) (x : Int) (w : World) (hs : s.size ≤ maxLen) (hb : badB s = true) : Calls Tryd.prog 11 #[.agg #[.int .i64 m, .slice a L cap], .string s, .int .i64 x] w fun e w' => e = .returned (.tuple #[.agg #[.int .i64 m, .slice a L cap], .int .i64 0, .int .i64 51]) ∧ Below w.heap.size w w' := by
  have C := hid (fun W => rbad_any s W hs)
  rw [hb] at C
  have BO := Bp.mk2 w m (.slice a L cap) 35
  go_enter Tryd.func11, Tryd.ntmps11
  go_wp2_with fail
  generalize (w.alloc _).alloc _ = W at *
  refine (C.out _).mono ?_
  rintro e w2 ⟨rfl, hww⟩; subst hww
  have t1 := BO.c1
  have t2 := BO.c2
  have t3 := BO.c3
  have t4 := BO.c4
  have t5 := BO.f3
  have t6 := BO.f4
  have HB := hid BO.lo
  clear BO
  go_wp2_with fail
  (try simp only [Exit.inBlock, Exit.then])
  refine bodyPost_ret (v := .tuple #[.agg #[.int .i64 m, .slice a L cap], .int .i64 0, .int .i64 51]) ?_ rfl ⟨rfl, below_set (below_set HB.out _ _ _ (Nat.le_succ _)) _ _ _ (Nat.le_succ _)⟩
  rw [results_cell_tmp3 rfl]
  go_simp
/-- The rows, as an argument. -/
abbrev ItD (w : World) (a : Option Addr) (cap : Nat) (d : List Dr) : Prop := ItemsD w (.slice a d.length cap) d
theorem findW {w W : World} {a : Option Addr} {cap : Nat} {d : List Dr} (m : Int) (s : ByteArray) (hi : ItD w a cap d) (hl : d.length ≤ 65536) (h : Below w.heap.size w W) :
    Calls Tryd.prog 35 #[.agg #[.int .i64 m, .slice a d.length cap], .string s] W fun e w' => e = .returned (.int .i64 (findD d s)) ∧ Below W.heap.size W w' :=
  rfindD_any m _ d s W (hi.low h (Nat.le_refl _)) hl
theorem atW {w W : World} {a : Option Addr} {cap : Nat} {d : List Dr} (m i : Int) (hi : ItD w a cap d) (hl : d.length ≤ 65536) (h : Below w.heap.size w W) :
    Calls Tryd.prog 21 #[.agg #[.int .i64 m, .slice a d.length cap], .int .i64 i] W fun e w' => e = .returned (.int .i64 (atD d i)) ∧ Below W.heap.size W w' :=
  rat_any m _ d i W (hi.low h (Nat.le_refl _)) hl
set_option maxHeartbeats 4000000 in
theorem rput_there (m : Int) (a : Option Addr) (cap : Nat) (d : List Dr) (s : ByteArray) (x : Int) (w : World) (hi : ItD w a cap d) (hl : d.length ≤ 65536) (hb : badB s = false) (j : Nat) (hj : findD d s = j) : Calls Tryd.prog 11 #[.agg #[.int .i64 m, .slice a d.length cap], .string s, .int .i64 x] w fun e w' => e = .returned (.tuple #[.agg #[.int .i64 m, .slice a d.length cap], .int .i64 0, .int .i64 52]) ∧ Below w.heap.size w w' := by
  have C := hid (fun W => rbad_any s W (maxLen_of hb))
  rw [hb] at C
  have F := hid (fun W h => findW (w := w) (W := W) m s hi hl h)
  rw [hj] at F
  have BO := Bp.mk2 w m (.slice a d.length cap) 35
  clear hi hb hj
  generalize d.length = L at *
  go_enter Tryd.func11, Tryd.ntmps11
  go_wp2_with fail
  generalize (w.alloc _).alloc _ = W at *
  refine (C.out _).mono ?_
  rintro e w2 ⟨rfl, hww⟩; subst hww
  have t1 := BO.c1
  have t2 := BO.c2
  have BH := hid BO
  clear BO
  go_wp2_with (go_at_call 35; refine (F.out _ BH.out.lo).mono ?_; rintro e w3 ⟨rfl, hb3⟩; have B3 := BH.out.low hb3; clear t1 t2 hb3; have u1 := B3.c1; have u2 := B3.c2; have u3 := B3.c3; have u4 := B3.c4; have u5 := B3.f3; have u6 := B3.f4; have HB := hid B3.lo; clear B3 BH)
  (try simp only [Exit.inBlock, Exit.then])
  refine bodyPost_ret (v := .tuple #[.agg #[.int .i64 m, .slice a L cap], .int .i64 0, .int .i64 52]) ?_ rfl ⟨rfl, below_set (below_set HB.out _ _ _ (Nat.le_succ _)) _ _ _ (Nat.le_succ _)⟩
  rw [results_cell_tmp3 rfl]
  go_simp
set_option maxHeartbeats 4000000 in
theorem rput_full (m : Nat) (a : Option Addr) (cap : Nat) (d : List Dr) (s : ByteArray) (x : Int) (w : World) (hi : ItD w a cap d) (hl : d.length ≤ 65536) (hb : badB s = false) (hj : findD d s = -1) (hm : m ≤ d.length) : Calls Tryd.prog 11 #[.agg #[.int .i64 (m : Int), .slice a d.length cap], .string s, .int .i64 x] w fun e w' => e = .returned (.tuple #[.agg #[.int .i64 (m : Int), .slice a d.length cap], .int .i64 0, .int .i64 53]) ∧ Below w.heap.size w w' := by
  have C := hid (fun W => rbad_any s W (maxLen_of hb))
  rw [hb] at C
  have F := hid (fun W h => findW (w := w) (W := W) m s hi hl h)
  rw [hj] at F
  have BO := Bp.mk2 w m (.slice a d.length cap) 35
  clear hi hb hj
  generalize d.length = L at *
  go_enter Tryd.func11, Tryd.ntmps11
  go_wp2_with fail
  generalize (w.alloc _).alloc _ = W at *
  refine (C.out _).mono ?_
  rintro e w2 ⟨rfl, hww⟩; subst hww
  have t1 := BO.c1
  have t2 := BO.c2
  have BH := hid BO
  clear BO
  go_wp2_with (go_at_call 35; refine (F.out _ BH.out.lo).mono ?_; rintro e w3 ⟨rfl, hb3⟩; have B3 := BH.out.low hb3; clear t1 t2 hb3; have u1 := B3.c1; have u2 := B3.c2; have u3 := B3.c3; have u4 := B3.c4; have u5 := B3.f3; have u6 := B3.f4; have HB := hid B3.lo; clear B3 BH)
  (try simp only [Exit.inBlock, Exit.then])
  refine bodyPost_ret (v := .tuple #[.agg #[.int .i64 m, .slice a L cap], .int .i64 0, .int .i64 53]) ?_ rfl ⟨rfl, below_set (below_set HB.out _ _ _ (Nat.le_succ _)) _ _ _ (Nat.le_succ _)⟩
  rw [results_cell_tmp3 rfl]
  go_simp
end Go.Proofs.YtfkijmmflpnncaaDoor.L
