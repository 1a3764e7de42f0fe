import Derived.Test.YtnclpdgbjefpmaaE8
import Derived.Test.YtnclpdgbjefpmaaE9
namespace Go.Proofs.Ytnclpdgbjefpmaa.L
open Go.RowKit
set_option linter.unusedVariables false
set_option linter.unusedSimpArgs false
/-- What the end of the reading makes of it. -/
def fin (B : List UInt8) (r : DR Pg) : Except (Nat × Nat) Pg :=
  match r with
  | .ok (p, k) => if k < B.length then .error (206, k) else .ok p
  | .error e => .error e
theorem dec_fin (B : List UInt8) : dec B = fin B (pgC.P B 0) := by
  unfold dec fin
  cases pgC.P B 0 with
  | error e => rfl
  | ok y => rfl
theorem natC_P (lo hi : Nat) (h : hi < 128 ^ 9) (B : List UInt8) (k : Nat) : (natC lo hi h).P B k = dbnd (cntD B k lo hi 9 0 k 0) fun n k1 => .ok ((n : Int), k1) := rfl
/-- The reading, step by step. -/
def rd9 (B : List UInt8) (d lo : Int) (t : List ByteArray) (u : List Int) (s : List (List ByteArray)) (ns : List (List Int)) (k : Nat) : DR Pg :=
  dbnd (cntD B k 0 32768 9 0 k 0) fun n k => dbnd ((insC.ris (fun _ _ => true) n .none).P B k) fun c k => .ok (⟨t, u, s, ns, c, d, lo⟩, k)
def rd8 (B : List UInt8) (d lo : Int) (t : List ByteArray) (u : List Int) (s : List (List ByteArray)) (r : Nat) (k : Nat) : DR Pg :=
  dbnd (cntD B k 0 r 9 0 k 0) fun n k => dbnd ((nsetC.ris (ltL ltI) n .none).P B k) fun ns k => rd9 B d lo t u s ns k
def rd7 (B : List UInt8) (d lo : Int) (t : List ByteArray) (u : List Int) (r : Nat) (k : Nat) : DR Pg :=
  dbnd (cntD B k 0 r 9 0 k 0) fun n k => dbnd ((setC.ris (ltL ltS) n .none).P B k) fun s k => rd8 B d lo t u s (r - n) k
def rd6 (B : List UInt8) (d lo : Int) (t : List ByteArray) (r : Nat) (k : Nat) : DR Pg :=
  dbnd (cntD B k 0 r 9 0 k 0) fun n k => dbnd ((sgnC.ris ltI n .none).P B k) fun u k => rd7 B d lo t u (r - n) k
def rd5 (B : List UInt8) (d lo : Int) (r : Nat) (k : Nat) : DR Pg :=
  dbnd (cntD B k 0 r 9 0 k 0) fun n k => dbnd ((textC.ris ltS n .none).P B k) fun t k => rd6 B d lo t (r - n) k
def rd4 (B : List UInt8) (d : Int) (k : Nat) : DR Pg := dbnd (cntD B k 0 1024 9 0 k 0) fun n k => rd5 B d (n : Int) 4096 k
def rd3 (B : List UInt8) (k : Nat) : DR Pg := dbnd (cntD B k 0 128 9 0 k 0) fun n k => rd4 B (n : Int) k
def rd2 (B : List UInt8) : DR Pg := dbnd (headC.P B 0) fun _ k => rd3 B k
theorem dbnd_cong {α β : Type} {r : DR α} {f g : α → Nat → DR β} (h : ∀ a k, r = .ok (a, k) → f a k = g a k) : dbnd r f = dbnd r g := by
  match r, h with
  | .ok (a, k), h => exact h a k rfl
  | .error e, _ => rfl
theorem ris_len {α : Type} [Inhabited α] {C : Cod α} {lt : α → α → Bool} {n : Nat} {p : Option α} {B : List UInt8} {k k' : Nat} {l : List α} (hk : k ≤ B.length) (h : (C.ris lt n p).P B k = .ok (l, k')) : l.length = n :=
  ((ris_D C lt n p l).1 ((C.ris lt n p).bwd hk h).1).1
theorem cnt_at {B : List UInt8} {k lo hi n k' : Nat} (hhi : hi < 128 ^ 9) (hk : k ≤ B.length) (h : cntD B k lo hi 9 0 k 0 = .ok (n, k')) : k' ≤ B.length := by
  obtain ⟨_, o, e⟩ := (Cod.cnt lo hi hhi).bwd hk h
  have := o.le
  omega
theorem cod_at {α : Type} {C : Cod α} {B : List UInt8} {k k' : Nat} {x : α} (hk : k ≤ B.length) (h : C.P B k = .ok (x, k')) : k' ≤ B.length := by
  obtain ⟨_, o, e⟩ := C.bwd hk h
  have := o.le
  omega
theorem pg_P (B : List UInt8) : pgC.P B 0 = rd2 B := by
  show dbnd (dbnd (headC.P B 0) fun h k => dbnd (dbnd ((natC 0 128 (by decide)).P B k) fun d k => dbnd (dbnd ((natC 0 1024 (by decide)).P B k) fun l k => dbnd (dbnd (txC.P B k) fun t k => dbnd (dbnd ((nuC t.length).P B k) fun u k => dbnd (dbnd ((stC (t.length + u.length)).P B k) fun s k => dbnd (dbnd ((nsC (t.length + u.length + s.length)).P B k) fun n k => dbnd (cdC.P B k) fun c k => .ok ((n, c), k)) fun x k => .ok ((s, x), k)) fun x k => .ok ((u, x), k)) fun x k => .ok ((t, x), k)) fun x k => .ok ((l, x), k)) fun x k => .ok ((d, x), k)) fun x k => .ok ((h, x), k))
    (fun x k => .ok (⟨x.2.2.2.1, x.2.2.2.2.1, x.2.2.2.2.2.1, x.2.2.2.2.2.2.1, x.2.2.2.2.2.2.2, x.2.1, x.2.2.1⟩, k)) = rd2 B
  simp only [dbnd_asc, dbnd_ok]
  unfold rd2
  refine dbnd_cong fun _ k hk => ?_
  have h0 := cod_at (Nat.zero_le _) hk
  rw [natC_P, dbnd_asc]
  unfold rd3
  refine dbnd_cong fun d k1 hk => ?_
  have h1 := cnt_at (by decide) h0 hk
  simp only [dbnd_ok]
  rw [natC_P, dbnd_asc]
  unfold rd4
  refine dbnd_cong fun lo k2 hk => ?_
  have h2 := cnt_at (by decide) h1 hk
  simp only [dbnd_ok]
  rw [show ∀ k, txC.P B k = _ from lst_P textC ltS 0 4096 (by decide) B, dbnd_asc]
  unfold rd5
  refine dbnd_cong fun n k3 hk => ?_
  have h3 := cnt_at (by decide) h2 hk
  refine dbnd_cong fun t k4 hk => ?_
  have h4 := cod_at h3 hk
  have e4 := ris_len h3 hk
  subst e4
  rw [show ∀ k, (nuC t.length).P B k = _ from lst_P sgnC ltI 0 (4096 - t.length) (pool_lt _) B, dbnd_asc]
  unfold rd6
  refine dbnd_cong fun n k5 hk => ?_
  have h5 := cnt_at (pool_lt _) h4 hk
  refine dbnd_cong fun u k6 hk => ?_
  have h6 := cod_at h5 hk
  have e6 := ris_len h5 hk
  subst e6
  rw [show ∀ k, (stC (t.length + u.length)).P B k = _ from lst_P setC (ltL ltS) 0 (4096 - (t.length + u.length)) (pool_lt _) B, dbnd_asc]
  unfold rd7
  rw [Nat.sub_sub]
  refine dbnd_cong fun n k7 hk => ?_
  have h7 := cnt_at (pool_lt _) h6 hk
  refine dbnd_cong fun s k8 hk => ?_
  have h8 := cod_at h7 hk
  have e8 := ris_len h7 hk
  subst e8
  rw [show ∀ k, (nsC (t.length + u.length + s.length)).P B k = _ from lst_P nsetC (ltL ltI) 0 (4096 - (t.length + u.length + s.length)) (pool_lt _) B, dbnd_asc]
  unfold rd8
  rw [Nat.sub_sub]
  refine dbnd_cong fun n k9 hk => ?_
  refine dbnd_cong fun ns k10 hk => ?_
  rw [show ∀ k, cdC.P B k = _ from lst_P insC (fun _ _ => true) 0 32768 (by decide) B, dbnd_asc]
  rfl
/-- The cells of instructions. -/
def insX (l : List Ins) : List Value := l.flatMap fun i => (insV i).toList
theorem insX_snoc (l : List Ins) (i : Ins) : insX (l ++ [i]) = insX l ++ (insV i).toList := by
  simp [insX]
theorem insX_len (l : List Ins) : (insX l).length = l.length * 4 := by
  induction l with
  | nil => rfl
  | cons i r ih =>
    show ((insV i).toList ++ insX r).length = _
    rw [List.length_append, ih, List.length_cons]
    show 4 + _ = _
    omega
theorem insX_get (l : List Ins) : ∀ (j q : Nat), j < l.length → q < 4 → (insX l)[j * 4 + q]? = (insV (l.getD j default)).toList[q]? := by
  induction l with
  | nil => intro j q h; cases h
  | cons i r ih =>
    intro j q hj hq
    show ((insV i).toList ++ insX r)[j * 4 + q]? = _
    cases j with
    | zero =>
      rw [Nat.zero_mul, Nat.zero_add, List.getElem?_append_left (by show q < 4; exact hq)]
      rfl
    | succ j =>
      rw [List.getElem?_append_right (by show 4 ≤ _; omega), show (j + 1) * 4 + q - (insV i).toList.length = j * 4 + q by show _ - 4 = _; omega, ih j q (by simpa using hj) hq]
      rfl
/-- A program in memory of its own. -/
structure OwG (W : World) (base : Nat) (v0 v1 v2 v3 v4 : Value) (p : Pg) : Prop where
  tx : W.ownsRow base 9 1 v0 p.tx.length (p.tx.map Value.string)
  nu : W.ownsRow base 3 1 v1 p.nu.length (p.nu.map (Value.int .i64))
  st : ∃ b, base ≤ b ∧ (∀ k, v0.ownBlock = some k → k < b) ∧ Rw2 W b 24 9 Value.string v2 p.st
  ns : ∃ b, base ≤ b ∧ (∀ k, v1.ownBlock = some k → k < b) ∧ Rw2 W b 25 3 (Value.int .i64) v3 p.ns
  cd : W.ownsRow base 68 4 v4 p.cd.length (insX p.cd)
/-- The value of a program. -/
def pgV (v0 v1 v2 v3 v4 : Value) (d l : Int) : Array Value := #[v0, v1, v2, v3, v4, .int .i64 d, .int .i64 l]
theorem info_c : (Try.prog.info? 68).map (fun i => (i.zero, i.size, i.bytes)) = some (some (.agg #[.int .i64 0, .int .i64 0, .int .i64 0, .int .i64 0]), 4, 32) := by kernel_rfl
theorem cell_ins_new (w : World) (i : Ins) : ∀ j u, (insV i).toList[j]? = some u → (w.alloc (.cells (insV i) 68)).cell? ((⟨w.heap.size, 0, none⟩ : Addr).add j) = some u := by
  intro j u hu
  rw [Go.WideShapes.add_plain, Nat.zero_add, cell_of_row _ _ j _ _ _ (heap_alloc_new w _)]
  simpa using hu
theorem wpl_c {w : World} {ops : Array Oper} {rest : List Oper} {o : Oper} {a : Act} {Q : Exit → Act → World → Prop} (hgd : o.guard = none) (s x : Operand)
    (ho : o.op = .call { callee := .builtin .append, args := #[s, x], argTypes := #[28, 28] })
    (base : Nat) (v : Value) (n : Nat) (xs : List Value) (i : Ins) (hs : a.eval s = v) (hown : w.ownsRow base 68 4 v n xs) (hx : a.eval x = .slice (some ⟨w.heap.size, 0, none⟩) 1 1) (hm : n ≤ 1000000) (hbase : base ≤ w.heap.size)
    (h : ∀ v' w', w'.ownsRow base 68 4 v' (n + 1) (xs ++ (insV i).toList) → w.grownBy w' v.ownBlock → wpList Try.prog ops Q rest (a.put o.dst v') w') :
    wpList Try.prog ops Q (o :: rest) a (w.alloc (.cells (insV i) 68)) := by
  obtain ⟨i0, hi, hz0, hz1, hz2⟩ := info_parts info_c
  have hown' := World.ownsRow.alloc hown (.cells (insV i) 68)
  refine wpList_append_own _ hgd s x 28 ho base 68 i0 (.agg #[.int .i64 0, .int .i64 0, .int .i64 0, .int .i64 0]) 4 32 Try.underlying28 hi hz0 hz1 hz2 rfl (by decide) v n _ hs hown' ⟨w.heap.size, 0, none⟩ 1 1 (insV i).toList hx rfl (cell_ins_new w i) (fun u hu => by simp [insV] at hu; rcases hu with rfl | rfl | rfl | rfl <;> rfl) (by unfold maxLen; omega) (by omega) (by simp; omega) ?_
  intro v' w' ho' hg _
  exact h v' w' ho' (grow_alloc hg)
end Go.Proofs.Ytnclpdgbjefpmaa.L
