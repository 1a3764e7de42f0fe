import Derived.Test.YtnclpdgbjefpmaaE8
import Derived.Test.YtnclpdgbjefpmaaE9
import Derived.Deep.RegionWith
namespace Go.Proofs.Ytnclpdgbjefpmaa.L
open Go.RowKit
set_option linter.unusedVariables false
set_option linter.unusedSimpArgs false
/-- What the end of the reading makes of it. -/
def fin (B : List UInt8) (r : DR Pg) : Except (Nat × Nat) Pg :=
  match r with
  | .ok (p, k) => if k < B.length then .error (206, k) else .ok p
  | .error e => .error e
theorem dec_fin (B : List UInt8) : dec B = fin B (pgC.P B 0) := by
  unfold dec fin
  cases pgC.P B 0 with
  | error e => rfl
  | ok y => rfl
theorem natC_P (lo hi : Nat) (h : hi < 128 ^ 9) (B : List UInt8) (k : Nat) : (natC lo hi h).P B k = dbnd (cntD B k lo hi 9 0 k 0) fun n k1 => .ok ((n : Int), k1) := rfl
/-- The reading, step by step. -/
def rd9 (B : List UInt8) (d lo : Int) (t : List ByteArray) (u : List Int) (s : List (List ByteArray)) (ns : List (List Int)) (k : Nat) : DR Pg :=
  dbnd (cntD B k 0 32768 9 0 k 0) fun n k => dbnd ((insC.ris (fun _ _ => true) n .none).P B k) fun c k => .ok (⟨t, u, s, ns, c, d, lo⟩, k)
def rd8 (B : List UInt8) (d lo : Int) (t : List ByteArray) (u : List Int) (s : List (List ByteArray)) (r : Nat) (k : Nat) : DR Pg :=
  dbnd (cntD B k 0 r 9 0 k 0) fun n k => dbnd ((nsetC.ris (ltL ltI) n .none).P B k) fun ns k => rd9 B d lo t u s ns k
def rd7 (B : List UInt8) (d lo : Int) (t : List ByteArray) (u : List Int) (r : Nat) (k : Nat) : DR Pg :=
  dbnd (cntD B k 0 r 9 0 k 0) fun n k => dbnd ((setC.ris (ltL ltS) n .none).P B k) fun s k => rd8 B d lo t u s (r - n) k
def rd6 (B : List UInt8) (d lo : Int) (t : List ByteArray) (r : Nat) (k : Nat) : DR Pg :=
  dbnd (cntD B k 0 r 9 0 k 0) fun n k => dbnd ((sgnC.ris ltI n .none).P B k) fun u k => rd7 B d lo t u (r - n) k
def rd5 (B : List UInt8) (d lo : Int) (r : Nat) (k : Nat) : DR Pg :=
  dbnd (cntD B k 0 r 9 0 k 0) fun n k => dbnd ((textC.ris ltS n .none).P B k) fun t k => rd6 B d lo t (r - n) k
def rd4 (B : List UInt8) (d : Int) (k : Nat) : DR Pg := dbnd (cntD B k 0 1024 9 0 k 0) fun n k => rd5 B d (n : Int) 4096 k
def rd3 (B : List UInt8) (k : Nat) : DR Pg := dbnd (cntD B k 0 128 9 0 k 0) fun n k => rd4 B (n : Int) k
def rd2 (B : List UInt8) : DR Pg := dbnd (headC.P B 0) fun _ k => rd3 B k
theorem dbnd_cong {α β : Type} {r : DR α} {f g : α → Nat → DR β} (h : ∀ a k, r = .ok (a, k) → f a k = g a k) : dbnd r f = dbnd r g := by
  match r, h with
  | .ok (a, k), h => exact h a k rfl
  | .error e, _ => rfl
theorem ris_len {α : Type} [Inhabited α] {C : Cod α} {lt : α → α → Bool} {n : Nat} {p : Option α} {B : List UInt8} {k k' : Nat} {l : List α} (hk : k ≤ B.length) (h : (C.ris lt n p).P B k = .ok (l, k')) : l.length = n :=
  ((ris_D C lt n p l).1 ((C.ris lt n p).bwd hk h).1).1
theorem cnt_at {B : List UInt8} {k lo hi n k' : Nat} (hhi : hi < 128 ^ 9) (hk : k ≤ B.length) (h : cntD B k lo hi 9 0 k 0 = .ok (n, k')) : k' ≤ B.length := by
  obtain ⟨_, o, e⟩ := (Cod.cnt lo hi hhi).bwd hk h
  have := o.le
  omega
theorem cod_at {α : Type} {C : Cod α} {B : List UInt8} {k k' : Nat} {x : α} (hk : k ≤ B.length) (h : C.P B k = .ok (x, k')) : k' ≤ B.length := by
  obtain ⟨_, o, e⟩ := C.bwd hk h
  have := o.le
  omega
theorem pg_P (B : List UInt8) : pgC.P B 0 = rd2 B := by
  show dbnd (dbnd (headC.P B 0) fun h k => dbnd (dbnd ((natC 0 128 (by decide)).P B k) fun d k => dbnd (dbnd ((natC 0 1024 (by decide)).P B k) fun l k => dbnd (dbnd (txC.P B k) fun t k => dbnd (dbnd ((nuC t.length).P B k) fun u k => dbnd (dbnd ((stC (t.length + u.length)).P B k) fun s k => dbnd (dbnd ((nsC (t.length + u.length + s.length)).P B k) fun n k => dbnd (cdC.P B k) fun c k => .ok ((n, c), k)) fun x k => .ok ((s, x), k)) fun x k => .ok ((u, x), k)) fun x k => .ok ((t, x), k)) fun x k => .ok ((l, x), k)) fun x k => .ok ((d, x), k)) fun x k => .ok ((h, x), k))
    (fun x k => .ok (⟨x.2.2.2.1, x.2.2.2.2.1, x.2.2.2.2.2.1, x.2.2.2.2.2.2.1, x.2.2.2.2.2.2.2, x.2.1, x.2.2.1⟩, k)) = rd2 B
  simp only [dbnd_asc, dbnd_ok]
  unfold rd2
  refine dbnd_cong fun _ k hk => ?_
  have h0 := cod_at (Nat.zero_le _) hk
  rw [natC_P, dbnd_asc]
  unfold rd3
  refine dbnd_cong fun d k1 hk => ?_
  have h1 := cnt_at (by decide) h0 hk
  simp only [dbnd_ok]
  rw [natC_P, dbnd_asc]
  unfold rd4
  refine dbnd_cong fun lo k2 hk => ?_
  have h2 := cnt_at (by decide) h1 hk
  simp only [dbnd_ok]
  rw [show ∀ k, txC.P B k = _ from lst_P textC ltS 0 4096 (by decide) B, dbnd_asc]
  unfold rd5
  refine dbnd_cong fun n k3 hk => ?_
  have h3 := cnt_at (by decide) h2 hk
  refine dbnd_cong fun t k4 hk => ?_
  have h4 := cod_at h3 hk
  have e4 := ris_len h3 hk
  subst e4
  rw [show ∀ k, (nuC t.length).P B k = _ from lst_P sgnC ltI 0 (4096 - t.length) (pool_lt _) B, dbnd_asc]
  unfold rd6
  refine dbnd_cong fun n k5 hk => ?_
  have h5 := cnt_at (pool_lt _) h4 hk
  refine dbnd_cong fun u k6 hk => ?_
  have h6 := cod_at h5 hk
  have e6 := ris_len h5 hk
  subst e6
  rw [show ∀ k, (stC (t.length + u.length)).P B k = _ from lst_P setC (ltL ltS) 0 (4096 - (t.length + u.length)) (pool_lt _) B, dbnd_asc]
  unfold rd7
  rw [Nat.sub_sub]
  refine dbnd_cong fun n k7 hk => ?_
  have h7 := cnt_at (pool_lt _) h6 hk
  refine dbnd_cong fun s k8 hk => ?_
  have h8 := cod_at h7 hk
  have e8 := ris_len h7 hk
  subst e8
  rw [show ∀ k, (nsC (t.length + u.length + s.length)).P B k = _ from lst_P nsetC (ltL ltI) 0 (4096 - (t.length + u.length + s.length)) (pool_lt _) B, dbnd_asc]
  unfold rd8
  rw [Nat.sub_sub]
  refine dbnd_cong fun n k9 hk => ?_
  refine dbnd_cong fun ns k10 hk => ?_
  rw [show ∀ k, cdC.P B k = _ from lst_P insC (fun _ _ => true) 0 32768 (by decide) B, dbnd_asc]
  rfl
/-- The cells of instructions. -/
def insX (l : List Ins) : List Value := l.flatMap fun i => (insV i).toList
theorem insX_snoc (l : List Ins) (i : Ins) : insX (l ++ [i]) = insX l ++ (insV i).toList := by
  simp [insX]
theorem insX_len (l : List Ins) : (insX l).length = l.length * 4 := by
  induction l with
  | nil => rfl
  | cons i r ih =>
    show ((insV i).toList ++ insX r).length = _
    rw [List.length_append, ih, List.length_cons]
    show 4 + _ = _
    omega
theorem insX_get (l : List Ins) : ∀ (j q : Nat), j < l.length → q < 4 → (insX l)[j * 4 + q]? = (insV (l.getD j default)).toList[q]? := by
  induction l with
  | nil => intro j q h; cases h
  | cons i r ih =>
    intro j q hj hq
    show ((insV i).toList ++ insX r)[j * 4 + q]? = _
    cases j with
    | zero =>
      rw [Nat.zero_mul, Nat.zero_add, List.getElem?_append_left (by show q < 4; exact hq)]
      rfl
    | succ j =>
      rw [List.getElem?_append_right (by show 4 ≤ _; omega), show (j + 1) * 4 + q - (insV i).toList.length = j * 4 + q by show _ - 4 = _; omega, ih j q (by simpa using hj) hq]
      rfl
/-- A program in memory of its own. -/
structure OwG (W : World) (base : Nat) (v0 v1 v2 v3 v4 : Value) (p : Pg) : Prop where
  tx : W.ownsRow base 9 1 v0 p.tx.length (p.tx.map Value.string)
  nu : W.ownsRow base 3 1 v1 p.nu.length (p.nu.map (Value.int .i64))
  st : ∃ b, base ≤ b ∧ (∀ k, v0.ownBlock = some k → k < b) ∧ Rw2 W b 24 9 Value.string v2 p.st
  ns : ∃ b, base ≤ b ∧ (∀ k, v1.ownBlock = some k → k < b) ∧ Rw2 W b 25 3 (Value.int .i64) v3 p.ns
  cd : W.ownsRow base 68 4 v4 p.cd.length (insX p.cd)
/-- The value of a program. -/
def pgV (v0 v1 v2 v3 v4 : Value) (d l : Int) : Array Value := #[v0, v1, v2, v3, v4, .int .i64 d, .int .i64 l]
theorem info_c : (Try.prog.info? 68).map (fun i => (i.zero, i.size, i.bytes)) = some (some (.agg #[.int .i64 0, .int .i64 0, .int .i64 0, .int .i64 0]), 4, 32) := by kernel_rfl
theorem cell_ins_new (w : World) (i : Ins) : ∀ j u, (insV i).toList[j]? = some u → (w.alloc (.cells (insV i) 68)).cell? ((⟨w.heap.size, 0, none⟩ : Addr).add j) = some u := by
  intro j u hu
  rw [Go.WideShapes.add_plain, Nat.zero_add, cell_of_row _ _ j _ _ _ (heap_alloc_new w _)]
  simpa using hu
theorem wpl_c {w : World} {ops : Array Oper} {rest : List Oper} {o : Oper} {a : Act} {Q : Exit → Act → World → Prop} (hgd : o.guard = none) (s x : Operand)
    (ho : o.op = .call { callee := .builtin .append, args := #[s, x], argTypes := #[28, 28] })
    (base : Nat) (v : Value) (n : Nat) (xs : List Value) (i : Ins) (hs : a.eval s = v) (hown : w.ownsRow base 68 4 v n xs) (hx : a.eval x = .slice (some ⟨w.heap.size, 0, none⟩) 1 1) (hm : n ≤ 1000000) (hbase : base ≤ w.heap.size)
    (h : ∀ v' w', w'.ownsRow base 68 4 v' (n + 1) (xs ++ (insV i).toList) → w.grownBy w' v.ownBlock → wpList Try.prog ops Q rest (a.put o.dst v') w') :
    wpList Try.prog ops Q (o :: rest) a (w.alloc (.cells (insV i) 68)) := by
  obtain ⟨i0, hi, hz0, hz1, hz2⟩ := info_parts info_c
  have hown' := World.ownsRow.alloc hown (.cells (insV i) 68)
  refine wpList_append_own _ hgd s x 28 ho base 68 i0 (.agg #[.int .i64 0, .int .i64 0, .int .i64 0, .int .i64 0]) 4 32 Try.underlying28 hi hz0 hz1 hz2 rfl (by decide) v n _ hs hown' ⟨w.heap.size, 0, none⟩ 1 1 (insV i).toList hx rfl (cell_ins_new w i) (fun u hu => by simp [insV] at hu; rcases hu with rfl | rfl | rfl | rfl <;> rfl) (by unfold maxLen; omega) (by omega) (by simp; omega) ?_
  intro v' w' ho' hg _
  exact h v' w' ho' (grow_alloc hg)
end Go.Proofs.Ytnclpdgbjefpmaa.L
namespace Go.Proofs.Ytnclpdgbjefpmaa.L
open Go.RowKit
set_option linter.unusedVariables false
set_option linter.unusedSimpArgs false
theorem row_box {W : World} {base n size ob : Nat} {e t : TypeId} {v : Value} {xs : List Value} {cs : Array Value} (h : W.ownsRow base e size v n xs) (hb : W.heap[ob]? = some (.cells cs t (0, 0))) (hne : e ≠ t) : v.ownBlock = none ∨ v.ownBlock ≠ some ob := by
  cases hv : v.ownBlock with
  | none => exact Or.inl rfl
  | some k =>
    refine Or.inr (fun he => ?_)
    injection he with he
    subst he
    obtain ⟨c1, g1⟩ := row_blk h hv
    rw [g1] at hb
    injection hb with hb
    injection hb with _ hb
    exact hne hb
theorem Rws.box {α : Type} {W W' : World} {base ob : Nat} {e t : TypeId} {inj : α → Value} {l : List (List α)} {vs : List Value} {cs : Array Value} (h : Rws W base e inj l vs) (hb : W.heap[ob]? = some (.cells cs t (0, 0))) (hne : e ≠ t) (k : Gb ob W W') : Rws W' base e inj l vs :=
  ⟨h.len, fun j hj => (h.row j hj).kept k (row_box (h.row j hj) hb hne), h.few, h.sep⟩
theorem OwG.box {W W' : World} {base ob : Nat} {v0 v1 v2 v3 v4 : Value} {p : Pg} {cs : Array Value} {t : TypeId} (h : OwG W base v0 v1 v2 v3 v4 p) (hb : W.heap[ob]? = some (.cells cs t (0, 0))) (n0 : 9 ≠ t) (n1 : 3 ≠ t) (n2 : 24 ≠ t) (n3 : 25 ≠ t) (n4 : 68 ≠ t) (k : Gb ob W W') : OwG W' base v0 v1 v2 v3 v4 p := by
  refine ⟨h.tx.kept k (row_box h.tx hb n0), h.nu.kept k (row_box h.nu hb n1), ?_, ?_, h.cd.kept k (row_box h.cd hb n4)⟩
  · obtain ⟨b, h1, h2, vs, h3, h4⟩ := h.st
    exact ⟨b, h1, h2, vs, h3.kept k (row_box h3 hb n2), h4.box hb n0 k⟩
  · obtain ⟨b, h1, h2, vs, h3, h4⟩ := h.ns
    exact ⟨b, h1, h2, vs, h3.kept k (row_box h3 hb n3), h4.box hb n1 k⟩
theorem OwG.gb {W W' : World} {base g : Nat} {v0 v1 v2 v3 v4 : Value} {p : Pg} (h : OwG W base v0 v1 v2 v3 v4 p) (k : Gb g W W') (hb : g < base) : OwG W' base v0 v1 v2 v3 v4 p := by
  refine ⟨row_gb h.tx k hb, row_gb h.nu k hb, ?_, ?_, row_gb h.cd k hb⟩
  · obtain ⟨b, h1, h2, vs, h3, h4⟩ := h.st
    exact ⟨b, h1, h2, vs, row_gb h3 k (by omega), h4.gb k (by omega)⟩
  · obtain ⟨b, h1, h2, vs, h3, h4⟩ := h.ns
    exact ⟨b, h1, h2, vs, row_gb h3 k (by omega), h4.gb k (by omega)⟩
/-- A list of instructions grows. -/
theorem OwG.grow {W W' : World} {base : Nat} {v0 v1 v2 v3 v4 v4' : Value} {p : Pg} {c : List Ins} (h : OwG W base v0 v1 v2 v3 v4 p) (k : W.grownBy W' v4.ownBlock) (hr : W'.ownsRow base 68 4 v4' c.length (insX c)) : OwG W' base v0 v1 v2 v3 v4' ⟨p.tx, p.nu, p.st, p.ns, c, p.dep, p.loc⟩ := by
  refine ⟨h.tx.kept k (row_ne h.tx h.cd (by decide)), h.nu.kept k (row_ne h.nu h.cd (by decide)), ?_, ?_, hr⟩
  · obtain ⟨b, h1, h2, vs, h3, h4⟩ := h.st
    exact ⟨b, h1, h2, vs, h3.kept k (row_ne h3 h.cd (by decide)), h4.grow h.cd (by decide) k⟩
  · obtain ⟨b, h1, h2, vs, h3, h4⟩ := h.ns
    exact ⟨b, h1, h2, vs, h3.kept k (row_ne h3 h.cd (by decide)), h4.grow h.cd (by decide) k⟩
abbrev nl : Value := .slice none 0 0
theorem nil_blk {k b : Nat} (h : (Value.slice none 0 0).ownBlock = some k) : k < b := by simp [Value.ownBlock] at h
theorem rw2_nil {α : Type} (W : World) (b : Nat) (E e : TypeId) (inj : α → Value) : Rw2 W b E e inj nl [] := ⟨[], World.ownsRow_nil _ _ _ _, Rws.nil _ _ _ _⟩
theorem ow_0 (W : World) (b : Nat) (d lo : Int) : OwG W b nl nl nl nl nl ⟨[], [], [], [], [], d, lo⟩ :=
  ⟨World.ownsRow_nil _ _ _ _, World.ownsRow_nil _ _ _ _, ⟨b, Nat.le_refl _, fun k h => nil_blk h, rw2_nil _ _ _ _ _⟩, ⟨b, Nat.le_refl _, fun k h => nil_blk h, rw2_nil _ _ _ _ _⟩, World.ownsRow_nil _ _ _ _⟩
theorem ow_1 {W : World} {b b' : Nat} {d lo : Int} {v0 : Value} {t : List ByteArray} (h : W.ownsRow b' 9 1 v0 t.length (t.map Value.string)) (hb : b ≤ b') : OwG W b v0 nl nl nl nl ⟨t, [], [], [], [], d, lo⟩ :=
  ⟨row_base h hb, World.ownsRow_nil _ _ _ _, ⟨max b W.heap.size, Nat.le_max_left _ _, fun k hk => Nat.lt_of_lt_of_le (h.lt k hk).2 (Nat.le_max_right _ _), rw2_nil _ _ _ _ _⟩, ⟨b, Nat.le_refl _, fun k h => nil_blk h, rw2_nil _ _ _ _ _⟩, World.ownsRow_nil _ _ _ _⟩
theorem ow_2 {W : World} {b b' : Nat} {d lo : Int} {v0 v1 : Value} {t : List ByteArray} {u : List Int} (hw : OwG W b v0 nl nl nl nl ⟨t, [], [], [], [], d, lo⟩) (h : W.ownsRow b' 3 1 v1 u.length (u.map (Value.int .i64))) (hb : b ≤ b') : OwG W b v0 v1 nl nl nl ⟨t, u, [], [], [], d, lo⟩ :=
  ⟨hw.tx, row_base h hb, hw.st, ⟨max b W.heap.size, Nat.le_max_left _ _, fun k hk => Nat.lt_of_lt_of_le (h.lt k hk).2 (Nat.le_max_right _ _), rw2_nil _ _ _ _ _⟩, World.ownsRow_nil _ _ _ _⟩
theorem ow_3 {W : World} {b b' : Nat} {d lo : Int} {v0 v1 v2 : Value} {t : List ByteArray} {u : List Int} {s : List (List ByteArray)} (hw : OwG W b v0 v1 nl nl nl ⟨t, u, [], [], [], d, lo⟩) (h : Rw2 W b' 24 9 Value.string v2 s) (hb : b ≤ b') (h0 : ∀ k, v0.ownBlock = some k → k < b') : OwG W b v0 v1 v2 nl nl ⟨t, u, s, [], [], d, lo⟩ :=
  ⟨hw.tx, hw.nu, ⟨b', hb, h0, h⟩, hw.ns, World.ownsRow_nil _ _ _ _⟩
theorem ow_4 {W : World} {b b' : Nat} {d lo : Int} {v0 v1 v2 v3 : Value} {t : List ByteArray} {u : List Int} {s : List (List ByteArray)} {ns : List (List Int)} (hw : OwG W b v0 v1 v2 nl nl ⟨t, u, s, [], [], d, lo⟩) (h : Rw2 W b' 25 3 (Value.int .i64) v3 ns) (hb : b ≤ b') (h0 : ∀ k, v1.ownBlock = some k → k < b') : OwG W b v0 v1 v2 v3 nl ⟨t, u, s, ns, [], d, lo⟩ :=
  ⟨hw.tx, hw.nu, hw.st, ⟨b', hb, h0, h⟩, World.ownsRow_nil _ _ _ _⟩
/-- The program while it is read. -/
structure Pst (g : Nat) (a : Option Addr) (cap : Nat) (B : List UInt8) (W0 W : World) (rb ob k room : Nat) (v0 v1 v2 v3 v4 : Value) (p : Pg) : Prop where
  rm : Rm g a cap B W k room
  gb : Gb g W0 W
  box : W.heap[ob]? = some (.cells #[v0, v1, v2, v3, v4, .int .i64 p.dep, .int .i64 p.loc] 30 (0, 0))
  res : W.heap[rb]? = some (.cells #[.slice none 0 0, .slice none 0 0, .slice none 0 0, .slice none 0 0, .slice none 0 0, .int .i64 0, .int .i64 0] 30 (0, 0))
  own : OwG W W0.heap.size v0 v1 v2 v3 v4 p
  gl : g < W0.heap.size
  nrb : W0.heap.size ≤ rb
  nob : W0.heap.size ≤ ob
  ne : rb ≠ ob
theorem Pst.call {g : Nat} {a : Option Addr} {cap : Nat} {B : List UInt8} {W0 W W' : World} {rb ob k room k' room' : Nat} {v0 v1 v2 v3 v4 : Value} {p : Pg} (h : Pst g a cap B W0 W rb ob k room v0 v1 v2 v3 v4 p) (hr : Rm g a cap B W' k' room') (hg : Gb g W W') : Pst g a cap B W0 W' rb ob k' room' v0 v1 v2 v3 v4 p :=
  ⟨hr, h.gb.trans hg, hg.at h.box (by have := h.gl; have := h.nob; omega), hg.at h.res (by have := h.gl; have := h.nrb; omega), h.own.gb hg h.gl, h.gl, h.nrb, h.nob, h.ne⟩
theorem Pst.set {g : Nat} {a : Option Addr} {cap : Nat} {B : List UInt8} {W0 W : World} {rb ob k room : Nat} {v0 v1 v2 v3 v4 u0 u1 u2 u3 u4 : Value} {p q : Pg} (h : Pst g a cap B W0 W rb ob k room v0 v1 v2 v3 v4 p) (j : Nat) (x : Value) (ho : OwG W W0.heap.size u0 u1 u2 u3 u4 q)
    (hx : (#[v0, v1, v2, v3, v4, .int .i64 p.dep, .int .i64 p.loc] : Array Value).setIfInBounds j x = #[u0, u1, u2, u3, u4, .int .i64 q.dep, .int .i64 q.loc]) : Pst g a cap B W0 (W.setCell ⟨ob, j, none⟩ x) rb ob k room u0 u1 u2 u3 u4 q := by
  refine ⟨rm_new h.rm h.box (by have := h.gl; have := h.nob; omega), gb_new h.gb h.box h.nob, ?_, ?_, ho.box h.box (by decide) (by decide) (by decide) (by decide) (by decide) (gb_set h.box j x), h.gl, h.nrb, h.nob, h.ne⟩
  · rw [setCell_eq_setRow _ _ _ _ _ _ _ h.box, setRow_heap _ _ _ _ _ _ h.box, ← hx]
  · rw [setCell_eq_setRow _ _ _ _ _ _ _ h.box, setRow_other _ _ _ _ h.ne]
    exact h.res
theorem Pst.new {g : Nat} {a : Option Addr} {cap : Nat} {B : List UInt8} {W : World} {k room : Nat} (h : Rm g a cap B W k room) : Pst g a cap B W ((W.alloc (.cells #[.slice none 0 0, .slice none 0 0, .slice none 0 0, .slice none 0 0, .slice none 0 0, .int .i64 0, .int .i64 0] 30)).alloc (.cells #[.slice none 0 0, .slice none 0 0, .slice none 0 0, .slice none 0 0, .slice none 0 0, .int .i64 0, .int .i64 0] 30)) W.heap.size (W.heap.size + 1) k room nl nl nl nl nl ⟨[], [], [], [], [], 0, 0⟩ := by
  have hb := (belowA W (.cells #[.slice none 0 0, .slice none 0 0, .slice none 0 0, .slice none 0 0, .slice none 0 0, .int .i64 0, .int .i64 0] 30)).trans ((belowA (W.alloc (.cells #[.slice none 0 0, .slice none 0 0, .slice none 0 0, .slice none 0 0, .slice none 0 0, .int .i64 0, .int .i64 0] 30)) (.cells #[.slice none 0 0, .slice none 0 0, .slice none 0 0, .slice none 0 0, .slice none 0 0, .int .i64 0, .int .i64 0] 30)).mono (belowA W _).size)
  have h2 := heap_alloc_new (W.alloc (.cells #[.slice none 0 0, .slice none 0 0, .slice none 0 0, .slice none 0 0, .slice none 0 0, .int .i64 0, .int .i64 0] 30)) (.cells #[.slice none 0 0, .slice none 0 0, .slice none 0 0, .slice none 0 0, .slice none 0 0, .int .i64 0, .int .i64 0] 30)
  rw [World.size_alloc] at h2
  exact ⟨h.low' hb, Gb.of hb, h2, ((belowA (W.alloc (.cells #[.slice none 0 0, .slice none 0 0, .slice none 0 0, .slice none 0 0, .slice none 0 0, .int .i64 0, .int .i64 0] 30)) _).block _ (by simp)).trans (heap_alloc_new W _), ow_0 _ _ _ _, lt_blk h.box, Nat.le_refl _, Nat.le_succ _, by omega⟩
/-- Seven cells written over. -/
theorem set7 {W : World} {rb : Nat} {t : TypeId} {y0 y1 y2 y3 y4 y5 y6 : Value} (h : W.heap[rb]? = some (.cells #[y0, y1, y2, y3, y4, y5, y6] t (0, 0))) (x0 x1 x2 x3 x4 x5 x6 : Value) :
    (((((((W.setCell ⟨rb, 0, none⟩ x0).setCell ⟨rb, 1, none⟩ x1).setCell ⟨rb, 2, none⟩ x2).setCell ⟨rb, 3, none⟩ x3).setCell ⟨rb, 4, none⟩ x4).setCell ⟨rb, 5, none⟩ x5).setCell ⟨rb, 6, none⟩ x6).heap[rb]? = some (.cells #[x0, x1, x2, x3, x4, x5, x6] t (0, 0)) ∧ Gb rb W (((((((W.setCell ⟨rb, 0, none⟩ x0).setCell ⟨rb, 1, none⟩ x1).setCell ⟨rb, 2, none⟩ x2).setCell ⟨rb, 3, none⟩ x3).setCell ⟨rb, 4, none⟩ x4).setCell ⟨rb, 5, none⟩ x5).setCell ⟨rb, 6, none⟩ x6) := by
  have st : ∀ {V : World} {cs : Array Value} (hh : V.heap[rb]? = some (.cells cs t (0, 0))) (j : Nat) (x : Value), (V.setCell ⟨rb, j, none⟩ x).heap[rb]? = some (.cells (cs.setIfInBounds j x) t (0, 0)) := by
    intro V cs hh j x
    rw [setCell_eq_setRow _ _ _ _ _ _ _ hh, setRow_heap _ _ _ _ _ _ hh]
  have s0 : (W.setCell ⟨rb, 0, none⟩ x0).heap[rb]? = some (.cells #[x0, y1, y2, y3, y4, y5, y6] t (0, 0)) := st h 0 x0
  have s1 : ((W.setCell ⟨rb, 0, none⟩ x0).setCell ⟨rb, 1, none⟩ x1).heap[rb]? = some (.cells #[x0, x1, y2, y3, y4, y5, y6] t (0, 0)) := st s0 1 x1
  have s2 : (((W.setCell ⟨rb, 0, none⟩ x0).setCell ⟨rb, 1, none⟩ x1).setCell ⟨rb, 2, none⟩ x2).heap[rb]? = some (.cells #[x0, x1, x2, y3, y4, y5, y6] t (0, 0)) := st s1 2 x2
  have s3 : ((((W.setCell ⟨rb, 0, none⟩ x0).setCell ⟨rb, 1, none⟩ x1).setCell ⟨rb, 2, none⟩ x2).setCell ⟨rb, 3, none⟩ x3).heap[rb]? = some (.cells #[x0, x1, x2, x3, y4, y5, y6] t (0, 0)) := st s2 3 x3
  have s4 : (((((W.setCell ⟨rb, 0, none⟩ x0).setCell ⟨rb, 1, none⟩ x1).setCell ⟨rb, 2, none⟩ x2).setCell ⟨rb, 3, none⟩ x3).setCell ⟨rb, 4, none⟩ x4).heap[rb]? = some (.cells #[x0, x1, x2, x3, x4, y5, y6] t (0, 0)) := st s3 4 x4
  have s5 : ((((((W.setCell ⟨rb, 0, none⟩ x0).setCell ⟨rb, 1, none⟩ x1).setCell ⟨rb, 2, none⟩ x2).setCell ⟨rb, 3, none⟩ x3).setCell ⟨rb, 4, none⟩ x4).setCell ⟨rb, 5, none⟩ x5).heap[rb]? = some (.cells #[x0, x1, x2, x3, x4, x5, y6] t (0, 0)) := st s4 5 x5
  have s6 : (((((((W.setCell ⟨rb, 0, none⟩ x0).setCell ⟨rb, 1, none⟩ x1).setCell ⟨rb, 2, none⟩ x2).setCell ⟨rb, 3, none⟩ x3).setCell ⟨rb, 4, none⟩ x4).setCell ⟨rb, 5, none⟩ x5).setCell ⟨rb, 6, none⟩ x6).heap[rb]? = some (.cells #[x0, x1, x2, x3, x4, x5, x6] t (0, 0)) := st s5 6 x6
  exact ⟨s6, ((((((gb_set h 0 x0).trans (gb_set s0 1 x1)).trans (gb_set s1 2 x2)).trans (gb_set s2 3 x3)).trans (gb_set s3 4 x4)).trans (gb_set s4 5 x5)).trans (gb_set s5 6 x6)⟩
theorem gb_res {g rb : Nat} {W W1 W2 : World} (h : Gb g W W1) (k : Gb rb W1 W2) (hn : W.heap.size ≤ rb) : Gb g W W2 :=
  ⟨k.os.trans h.os, k.tape.trans h.tape, k.output.trans h.output, Nat.le_trans h.size k.size, fun j hj hg => (k.block j (Nat.lt_of_lt_of_le hj h.size) (fun e => by injection e with e; omega)).trans (h.block j hj hg)⟩
/-- What reading a program does. -/
def RoG (g : Nat) (W : World) (r : Except (Nat × Nat) Pg) (e : Ending) (W' : World) : Prop :=
  match r with
  | .ok p => ∃ v0 v1 v2 v3 v4, e = .returned (.agg #[v0, v1, v2, v3, v4, .int .i64 p.dep, .int .i64 p.loc]) ∧ OwG W' W.heap.size v0 v1 v2 v3 v4 p ∧ Gb g W W'
  | .error (c, q) => ∃ N, e = pe N ∧ Fli W' N c q ∧ Gb g W W'
theorem okB_true {α : Type} (p : Option α) (x : α) : okB (fun _ _ => true) p x = true := by cases p <;> rfl
theorem infoPg : (Try.prog.info? 30).map (·.size) = some 7 := by kernel_rfl
end Go.Proofs.Ytnclpdgbjefpmaa.L
