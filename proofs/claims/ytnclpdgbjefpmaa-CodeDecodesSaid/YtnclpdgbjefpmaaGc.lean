import Derived.Deep.RegionWith
import Derived.Test.YtnclpdgbjefpmaaGa
namespace Go.Proofs.Ytnclpdgbjefpmaa.L
open Go.RowKit
set_option linter.unusedVariables false
set_option linter.unusedSimpArgs false
theorem row_box {W : World} {base n size ob : Nat} {e t : TypeId} {v : Value} {xs : List Value} {cs : Array Value} (h : W.ownsRow base e size v n xs) (hb : W.heap[ob]? = some (.cells cs t (0, 0))) (hne : e ≠ t) : v.ownBlock = none ∨ v.ownBlock ≠ some ob := by
  cases hv : v.ownBlock with
  | none => exact Or.inl rfl
  | some k =>
    refine Or.inr (fun he => ?_)
    injection he with he
    subst he
    obtain ⟨c1, g1⟩ := row_blk h hv
    rw [g1] at hb
    injection hb with hb
    injection hb with _ hb
    exact hne hb
theorem Rws.box {α : Type} {W W' : World} {base ob : Nat} {e t : TypeId} {inj : α → Value} {l : List (List α)} {vs : List Value} {cs : Array Value} (h : Rws W base e inj l vs) (hb : W.heap[ob]? = some (.cells cs t (0, 0))) (hne : e ≠ t) (k : Gb ob W W') : Rws W' base e inj l vs :=
  ⟨h.len, fun j hj => (h.row j hj).kept k (row_box (h.row j hj) hb hne), h.few, h.sep⟩
theorem OwG.box {W W' : World} {base ob : Nat} {v0 v1 v2 v3 v4 : Value} {p : Pg} {cs : Array Value} {t : TypeId} (h : OwG W base v0 v1 v2 v3 v4 p) (hb : W.heap[ob]? = some (.cells cs t (0, 0))) (n0 : 9 ≠ t) (n1 : 3 ≠ t) (n2 : 24 ≠ t) (n3 : 25 ≠ t) (n4 : 68 ≠ t) (k : Gb ob W W') : OwG W' base v0 v1 v2 v3 v4 p := by
  refine ⟨h.tx.kept k (row_box h.tx hb n0), h.nu.kept k (row_box h.nu hb n1), ?_, ?_, h.cd.kept k (row_box h.cd hb n4)⟩
  · obtain ⟨b, h1, h2, vs, h3, h4⟩ := h.st
    exact ⟨b, h1, h2, vs, h3.kept k (row_box h3 hb n2), h4.box hb n0 k⟩
  · obtain ⟨b, h1, h2, vs, h3, h4⟩ := h.ns
    exact ⟨b, h1, h2, vs, h3.kept k (row_box h3 hb n3), h4.box hb n1 k⟩
theorem OwG.gb {W W' : World} {base g : Nat} {v0 v1 v2 v3 v4 : Value} {p : Pg} (h : OwG W base v0 v1 v2 v3 v4 p) (k : Gb g W W') (hb : g < base) : OwG W' base v0 v1 v2 v3 v4 p := by
  refine ⟨row_gb h.tx k hb, row_gb h.nu k hb, ?_, ?_, row_gb h.cd k hb⟩
  · obtain ⟨b, h1, h2, vs, h3, h4⟩ := h.st
    exact ⟨b, h1, h2, vs, row_gb h3 k (by omega), h4.gb k (by omega)⟩
  · obtain ⟨b, h1, h2, vs, h3, h4⟩ := h.ns
    exact ⟨b, h1, h2, vs, row_gb h3 k (by omega), h4.gb k (by omega)⟩
/-- A list of instructions grows. -/
theorem OwG.grow {W W' : World} {base : Nat} {v0 v1 v2 v3 v4 v4' : Value} {p : Pg} {c : List Ins} (h : OwG W base v0 v1 v2 v3 v4 p) (k : W.grownBy W' v4.ownBlock) (hr : W'.ownsRow base 68 4 v4' c.length (insX c)) : OwG W' base v0 v1 v2 v3 v4' ⟨p.tx, p.nu, p.st, p.ns, c, p.dep, p.loc⟩ := by
  refine ⟨h.tx.kept k (row_ne h.tx h.cd (by decide)), h.nu.kept k (row_ne h.nu h.cd (by decide)), ?_, ?_, hr⟩
  · obtain ⟨b, h1, h2, vs, h3, h4⟩ := h.st
    exact ⟨b, h1, h2, vs, h3.kept k (row_ne h3 h.cd (by decide)), h4.grow h.cd (by decide) k⟩
  · obtain ⟨b, h1, h2, vs, h3, h4⟩ := h.ns
    exact ⟨b, h1, h2, vs, h3.kept k (row_ne h3 h.cd (by decide)), h4.grow h.cd (by decide) k⟩
abbrev nl : Value := .slice none 0 0
theorem nil_blk {k b : Nat} (h : (Value.slice none 0 0).ownBlock = some k) : k < b := by simp [Value.ownBlock] at h
theorem rw2_nil {α : Type} (W : World) (b : Nat) (E e : TypeId) (inj : α → Value) : Rw2 W b E e inj nl [] := ⟨[], World.ownsRow_nil _ _ _ _, Rws.nil _ _ _ _⟩
theorem ow_0 (W : World) (b : Nat) (d lo : Int) : OwG W b nl nl nl nl nl ⟨[], [], [], [], [], d, lo⟩ :=
  ⟨World.ownsRow_nil _ _ _ _, World.ownsRow_nil _ _ _ _, ⟨b, Nat.le_refl _, fun k h => nil_blk h, rw2_nil _ _ _ _ _⟩, ⟨b, Nat.le_refl _, fun k h => nil_blk h, rw2_nil _ _ _ _ _⟩, World.ownsRow_nil _ _ _ _⟩
theorem ow_1 {W : World} {b b' : Nat} {d lo : Int} {v0 : Value} {t : List ByteArray} (h : W.ownsRow b' 9 1 v0 t.length (t.map Value.string)) (hb : b ≤ b') : OwG W b v0 nl nl nl nl ⟨t, [], [], [], [], d, lo⟩ :=
  ⟨row_base h hb, World.ownsRow_nil _ _ _ _, ⟨max b W.heap.size, Nat.le_max_left _ _, fun k hk => Nat.lt_of_lt_of_le (h.lt k hk).2 (Nat.le_max_right _ _), rw2_nil _ _ _ _ _⟩, ⟨b, Nat.le_refl _, fun k h => nil_blk h, rw2_nil _ _ _ _ _⟩, World.ownsRow_nil _ _ _ _⟩
theorem ow_2 {W : World} {b b' : Nat} {d lo : Int} {v0 v1 : Value} {t : List ByteArray} {u : List Int} (hw : OwG W b v0 nl nl nl nl ⟨t, [], [], [], [], d, lo⟩) (h : W.ownsRow b' 3 1 v1 u.length (u.map (Value.int .i64))) (hb : b ≤ b') : OwG W b v0 v1 nl nl nl ⟨t, u, [], [], [], d, lo⟩ :=
  ⟨hw.tx, row_base h hb, hw.st, ⟨max b W.heap.size, Nat.le_max_left _ _, fun k hk => Nat.lt_of_lt_of_le (h.lt k hk).2 (Nat.le_max_right _ _), rw2_nil _ _ _ _ _⟩, World.ownsRow_nil _ _ _ _⟩
theorem ow_3 {W : World} {b b' : Nat} {d lo : Int} {v0 v1 v2 : Value} {t : List ByteArray} {u : List Int} {s : List (List ByteArray)} (hw : OwG W b v0 v1 nl nl nl ⟨t, u, [], [], [], d, lo⟩) (h : Rw2 W b' 24 9 Value.string v2 s) (hb : b ≤ b') (h0 : ∀ k, v0.ownBlock = some k → k < b') : OwG W b v0 v1 v2 nl nl ⟨t, u, s, [], [], d, lo⟩ :=
  ⟨hw.tx, hw.nu, ⟨b', hb, h0, h⟩, hw.ns, World.ownsRow_nil _ _ _ _⟩
theorem ow_4 {W : World} {b b' : Nat} {d lo : Int} {v0 v1 v2 v3 : Value} {t : List ByteArray} {u : List Int} {s : List (List ByteArray)} {ns : List (List Int)} (hw : OwG W b v0 v1 v2 nl nl ⟨t, u, s, [], [], d, lo⟩) (h : Rw2 W b' 25 3 (Value.int .i64) v3 ns) (hb : b ≤ b') (h0 : ∀ k, v1.ownBlock = some k → k < b') : OwG W b v0 v1 v2 v3 nl ⟨t, u, s, ns, [], d, lo⟩ :=
  ⟨hw.tx, hw.nu, hw.st, ⟨b', hb, h0, h⟩, World.ownsRow_nil _ _ _ _⟩
/-- The program while it is read. -/
structure Pst (g : Nat) (a : Option Addr) (cap : Nat) (B : List UInt8) (W0 W : World) (rb ob k room : Nat) (v0 v1 v2 v3 v4 : Value) (p : Pg) : Prop where
  rm : Rm g a cap B W k room
  gb : Gb g W0 W
  box : W.heap[ob]? = some (.cells #[v0, v1, v2, v3, v4, .int .i64 p.dep, .int .i64 p.loc] 30 (0, 0))
  res : W.heap[rb]? = some (.cells #[.slice none 0 0, .slice none 0 0, .slice none 0 0, .slice none 0 0, .slice none 0 0, .int .i64 0, .int .i64 0] 30 (0, 0))
  own : OwG W W0.heap.size v0 v1 v2 v3 v4 p
  gl : g < W0.heap.size
  nrb : W0.heap.size ≤ rb
  nob : W0.heap.size ≤ ob
  ne : rb ≠ ob
theorem Pst.call {g : Nat} {a : Option Addr} {cap : Nat} {B : List UInt8} {W0 W W' : World} {rb ob k room k' room' : Nat} {v0 v1 v2 v3 v4 : Value} {p : Pg} (h : Pst g a cap B W0 W rb ob k room v0 v1 v2 v3 v4 p) (hr : Rm g a cap B W' k' room') (hg : Gb g W W') : Pst g a cap B W0 W' rb ob k' room' v0 v1 v2 v3 v4 p :=
  ⟨hr, h.gb.trans hg, hg.at h.box (by have := h.gl; have := h.nob; omega), hg.at h.res (by have := h.gl; have := h.nrb; omega), h.own.gb hg h.gl, h.gl, h.nrb, h.nob, h.ne⟩
theorem Pst.set {g : Nat} {a : Option Addr} {cap : Nat} {B : List UInt8} {W0 W : World} {rb ob k room : Nat} {v0 v1 v2 v3 v4 u0 u1 u2 u3 u4 : Value} {p q : Pg} (h : Pst g a cap B W0 W rb ob k room v0 v1 v2 v3 v4 p) (j : Nat) (x : Value) (ho : OwG W W0.heap.size u0 u1 u2 u3 u4 q)
    (hx : (#[v0, v1, v2, v3, v4, .int .i64 p.dep, .int .i64 p.loc] : Array Value).setIfInBounds j x = #[u0, u1, u2, u3, u4, .int .i64 q.dep, .int .i64 q.loc]) : Pst g a cap B W0 (W.setCell ⟨ob, j, none⟩ x) rb ob k room u0 u1 u2 u3 u4 q := by
  refine ⟨rm_new h.rm h.box (by have := h.gl; have := h.nob; omega), gb_new h.gb h.box h.nob, ?_, ?_, ho.box h.box (by decide) (by decide) (by decide) (by decide) (by decide) (gb_set h.box j x), h.gl, h.nrb, h.nob, h.ne⟩
  · rw [setCell_eq_setRow _ _ _ _ _ _ _ h.box, setRow_heap _ _ _ _ _ _ h.box, ← hx]
  · rw [setCell_eq_setRow _ _ _ _ _ _ _ h.box, setRow_other _ _ _ _ h.ne]
    exact h.res
theorem Pst.new {g : Nat} {a : Option Addr} {cap : Nat} {B : List UInt8} {W : World} {k room : Nat} (h : Rm g a cap B W k room) : Pst g a cap B W ((W.alloc (.cells #[.slice none 0 0, .slice none 0 0, .slice none 0 0, .slice none 0 0, .slice none 0 0, .int .i64 0, .int .i64 0] 30)).alloc (.cells #[.slice none 0 0, .slice none 0 0, .slice none 0 0, .slice none 0 0, .slice none 0 0, .int .i64 0, .int .i64 0] 30)) W.heap.size (W.heap.size + 1) k room nl nl nl nl nl ⟨[], [], [], [], [], 0, 0⟩ := by
  have hb := (belowA W (.cells #[.slice none 0 0, .slice none 0 0, .slice none 0 0, .slice none 0 0, .slice none 0 0, .int .i64 0, .int .i64 0] 30)).trans ((belowA (W.alloc (.cells #[.slice none 0 0, .slice none 0 0, .slice none 0 0, .slice none 0 0, .slice none 0 0, .int .i64 0, .int .i64 0] 30)) (.cells #[.slice none 0 0, .slice none 0 0, .slice none 0 0, .slice none 0 0, .slice none 0 0, .int .i64 0, .int .i64 0] 30)).mono (belowA W _).size)
  have h2 := heap_alloc_new (W.alloc (.cells #[.slice none 0 0, .slice none 0 0, .slice none 0 0, .slice none 0 0, .slice none 0 0, .int .i64 0, .int .i64 0] 30)) (.cells #[.slice none 0 0, .slice none 0 0, .slice none 0 0, .slice none 0 0, .slice none 0 0, .int .i64 0, .int .i64 0] 30)
  rw [World.size_alloc] at h2
  exact ⟨h.low' hb, Gb.of hb, h2, ((belowA (W.alloc (.cells #[.slice none 0 0, .slice none 0 0, .slice none 0 0, .slice none 0 0, .slice none 0 0, .int .i64 0, .int .i64 0] 30)) _).block _ (by simp)).trans (heap_alloc_new W _), ow_0 _ _ _ _, lt_blk h.box, Nat.le_refl _, Nat.le_succ _, by omega⟩
/-- Seven cells written over. -/
theorem set7 {W : World} {rb : Nat} {t : TypeId} {y0 y1 y2 y3 y4 y5 y6 : Value} (h : W.heap[rb]? = some (.cells #[y0, y1, y2, y3, y4, y5, y6] t (0, 0))) (x0 x1 x2 x3 x4 x5 x6 : Value) :
    (((((((W.setCell ⟨rb, 0, none⟩ x0).setCell ⟨rb, 1, none⟩ x1).setCell ⟨rb, 2, none⟩ x2).setCell ⟨rb, 3, none⟩ x3).setCell ⟨rb, 4, none⟩ x4).setCell ⟨rb, 5, none⟩ x5).setCell ⟨rb, 6, none⟩ x6).heap[rb]? = some (.cells #[x0, x1, x2, x3, x4, x5, x6] t (0, 0)) ∧ Gb rb W (((((((W.setCell ⟨rb, 0, none⟩ x0).setCell ⟨rb, 1, none⟩ x1).setCell ⟨rb, 2, none⟩ x2).setCell ⟨rb, 3, none⟩ x3).setCell ⟨rb, 4, none⟩ x4).setCell ⟨rb, 5, none⟩ x5).setCell ⟨rb, 6, none⟩ x6) := by
  have st : ∀ {V : World} {cs : Array Value} (hh : V.heap[rb]? = some (.cells cs t (0, 0))) (j : Nat) (x : Value), (V.setCell ⟨rb, j, none⟩ x).heap[rb]? = some (.cells (cs.setIfInBounds j x) t (0, 0)) := by
    intro V cs hh j x
    rw [setCell_eq_setRow _ _ _ _ _ _ _ hh, setRow_heap _ _ _ _ _ _ hh]
  have s0 : (W.setCell ⟨rb, 0, none⟩ x0).heap[rb]? = some (.cells #[x0, y1, y2, y3, y4, y5, y6] t (0, 0)) := st h 0 x0
  have s1 : ((W.setCell ⟨rb, 0, none⟩ x0).setCell ⟨rb, 1, none⟩ x1).heap[rb]? = some (.cells #[x0, x1, y2, y3, y4, y5, y6] t (0, 0)) := st s0 1 x1
  have s2 : (((W.setCell ⟨rb, 0, none⟩ x0).setCell ⟨rb, 1, none⟩ x1).setCell ⟨rb, 2, none⟩ x2).heap[rb]? = some (.cells #[x0, x1, x2, y3, y4, y5, y6] t (0, 0)) := st s1 2 x2
  have s3 : ((((W.setCell ⟨rb, 0, none⟩ x0).setCell ⟨rb, 1, none⟩ x1).setCell ⟨rb, 2, none⟩ x2).setCell ⟨rb, 3, none⟩ x3).heap[rb]? = some (.cells #[x0, x1, x2, x3, y4, y5, y6] t (0, 0)) := st s2 3 x3
  have s4 : (((((W.setCell ⟨rb, 0, none⟩ x0).setCell ⟨rb, 1, none⟩ x1).setCell ⟨rb, 2, none⟩ x2).setCell ⟨rb, 3, none⟩ x3).setCell ⟨rb, 4, none⟩ x4).heap[rb]? = some (.cells #[x0, x1, x2, x3, x4, y5, y6] t (0, 0)) := st s3 4 x4
  have s5 : ((((((W.setCell ⟨rb, 0, none⟩ x0).setCell ⟨rb, 1, none⟩ x1).setCell ⟨rb, 2, none⟩ x2).setCell ⟨rb, 3, none⟩ x3).setCell ⟨rb, 4, none⟩ x4).setCell ⟨rb, 5, none⟩ x5).heap[rb]? = some (.cells #[x0, x1, x2, x3, x4, x5, y6] t (0, 0)) := st s4 5 x5
  have s6 : (((((((W.setCell ⟨rb, 0, none⟩ x0).setCell ⟨rb, 1, none⟩ x1).setCell ⟨rb, 2, none⟩ x2).setCell ⟨rb, 3, none⟩ x3).setCell ⟨rb, 4, none⟩ x4).setCell ⟨rb, 5, none⟩ x5).setCell ⟨rb, 6, none⟩ x6).heap[rb]? = some (.cells #[x0, x1, x2, x3, x4, x5, x6] t (0, 0)) := st s5 6 x6
  exact ⟨s6, ((((((gb_set h 0 x0).trans (gb_set s0 1 x1)).trans (gb_set s1 2 x2)).trans (gb_set s2 3 x3)).trans (gb_set s3 4 x4)).trans (gb_set s4 5 x5)).trans (gb_set s5 6 x6)⟩
theorem gb_res {g rb : Nat} {W W1 W2 : World} (h : Gb g W W1) (k : Gb rb W1 W2) (hn : W.heap.size ≤ rb) : Gb g W W2 :=
  ⟨k.os.trans h.os, k.tape.trans h.tape, k.output.trans h.output, Nat.le_trans h.size k.size, fun j hj hg => (k.block j (Nat.lt_of_lt_of_le hj h.size) (fun e => by injection e with e; omega)).trans (h.block j hj hg)⟩
/-- What reading a program does. -/
def RoG (g : Nat) (W : World) (r : Except (Nat × Nat) Pg) (e : Ending) (W' : World) : Prop :=
  match r with
  | .ok p => ∃ v0 v1 v2 v3 v4, e = .returned (.agg #[v0, v1, v2, v3, v4, .int .i64 p.dep, .int .i64 p.loc]) ∧ OwG W' W.heap.size v0 v1 v2 v3 v4 p ∧ Gb g W W'
  | .error (c, q) => ∃ N, e = pe N ∧ Fli W' N c q ∧ Gb g W W'
theorem okB_true {α : Type} (p : Option α) (x : α) : okB (fun _ _ => true) p x = true := by cases p <;> rfl
theorem infoPg : (Try.prog.info? 30).map (·.size) = some 7 := by kernel_rfl
end Go.Proofs.Ytnclpdgbjefpmaa.L
