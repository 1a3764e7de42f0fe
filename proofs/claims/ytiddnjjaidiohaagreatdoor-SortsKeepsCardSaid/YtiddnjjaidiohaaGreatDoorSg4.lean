import Derived.Test.YtiddnjjaidiohaaGreatDoorMgAP
import Derived.Test.YtiddnjjaidiohaaGreatDoorMgAM
namespace Go.Proofs.YtiddnjjaidiohaaGreatDoor.L
open Go.RowKit
set_option linter.unusedVariables false
theorem alloc3 (w : World) (A B C : Obj) : (((w.alloc A).alloc B).alloc C).heap[w.heap.size]? = some A ∧ (((w.alloc A).alloc B).alloc C).heap[w.heap.size + 1]? = some B ∧ (((w.alloc A).alloc B).alloc C).heap[w.heap.size + 1 + 1]? = some C ∧ Below w.heap.size w (((w.alloc A).alloc B).alloc C) := by
  have b1 := belowA w A
  have b2 := belowA (w.alloc A) B
  have b3 := belowA ((w.alloc A).alloc B) C
  have n1 := heap_alloc_new w A
  have n2 := heap_alloc_new (w.alloc A) B
  have n3 := heap_alloc_new ((w.alloc A).alloc B) C
  have s1 : (w.alloc A).heap.size = w.heap.size + 1 := by simp
  have s2 : ((w.alloc A).alloc B).heap.size = w.heap.size + 1 + 1 := by simp
  rw [s1] at n2
  rw [s2] at n3
  exact ⟨(b3.block _ (by rw [s2]; omega)).trans ((b2.block _ (by rw [s1]; omega)).trans n1), (b3.block _ (by rw [s2]; omega)).trans n2, n3, bchS (bchS b1 b2) b3⟩
/-- The blocks of the results: a type and a fault. -/
structure Tfr (w W : World) (r q : Nat) : Prop where
  ty : W.heap[r]? = some (.cells #[.int .i64 0, .int .i64 0] 47 (0, 0))
  fa : W.heap[q]? = some (.cells #[.int .i64 0, .int .i64 0, .int .i64 0] 33 (0, 0))
  low : Below w.heap.size w W
  lr : w.heap.size ≤ r
  lq : w.heap.size ≤ q
  ne : r ≠ q
theorem Tfr.below {w W W' : World} {r q : Nat} (h : Tfr w W r q) (hb : Below W.heap.size W W') : Tfr w W' r q :=
  ⟨(hb.block _ (lt_blk h.ty)).trans h.ty, (hb.block _ (lt_blk h.fa)).trans h.fa, bchS h.low hb, h.lr, h.lq, h.ne⟩
def tfW (W : World) (r q : Nat) (a b c d e : Value) : World := ((((W.setCell ⟨r, 0, none⟩ a).setCell ⟨r, 1, none⟩ b).setCell ⟨q, 0, none⟩ c).setCell ⟨q, 1, none⟩ d).setCell ⟨q, 2, none⟩ e
theorem Tfr.facts {w W : World} {r q : Nat} (h : Tfr w W r q) : ((W.cell? ⟨r, 0, none⟩ = some (.int .i64 0) ∧ W.cell? ⟨r, 1, none⟩ = some (.int .i64 0)) ∧ (W.frozen? ⟨r, 0, none⟩ = false ∧ W.frozen? ⟨r, 1, none⟩ = false)) ∧
    ((W.cell? ⟨q, 0, none⟩ = some (.int .i64 0) ∧ W.cell? ⟨q, 1, none⟩ = some (.int .i64 0) ∧ W.cell? ⟨q, 2, none⟩ = some (.int .i64 0)) ∧ (W.frozen? ⟨q, 0, none⟩ = false ∧ W.frozen? ⟨q, 1, none⟩ = false ∧ W.frozen? ⟨q, 2, none⟩ = false)) := ⟨rc2 h.ty, rc3 h.fa⟩
theorem Tfr.fin {w W : World} {r q : Nat} (h : Tfr w W r q) (a b c d e : Value) : (tfW W r q a b c d e).heap[r]? = some (.cells #[a, b] 47 (0, 0)) ∧ (tfW W r q a b c d e).heap[q]? = some (.cells #[c, d, e] 33 (0, 0)) ∧ Below w.heap.size w (tfW W r q a b c d e) := by
  have h1 := heap_set2 h.ty a b
  have k0 : ∀ (V : World) (x : Addr) (v : Value), x.block ≠ q → (V.setCell x v).heap[q]? = V.heap[q]? := fun V x v hx => Below.heap_setCell V x v q (fun e => hx e.symm)
  have k1 : ∀ (V : World) (x : Addr) (v : Value), x.block ≠ r → (V.setCell x v).heap[r]? = V.heap[r]? := fun V x v hx => Below.heap_setCell V x v r (fun e => hx e.symm)
  have hq : ((W.setCell ⟨r, 0, none⟩ a).setCell ⟨r, 1, none⟩ b).heap[q]? = some (.cells #[.int .i64 0, .int .i64 0, .int .i64 0] 33 (0, 0)) := by
    rw [k0 _ ⟨r, 1, none⟩ b h.ne, k0 _ ⟨r, 0, none⟩ a h.ne]
    exact h.fa
  refine ⟨?_, heap_set3 hq c d e, ?_⟩
  · unfold tfW
    rw [k1 _ ⟨q, 2, none⟩ e (Ne.symm h.ne), k1 _ ⟨q, 1, none⟩ d (Ne.symm h.ne), k1 _ ⟨q, 0, none⟩ c (Ne.symm h.ne)]
    exact h1
  · exact ((((h.low.setCell (p := ⟨r, 0, none⟩) h.lr a).setCell (p := ⟨r, 1, none⟩) h.lr b).setCell (p := ⟨q, 0, none⟩) h.lq c).setCell (p := ⟨q, 1, none⟩) h.lq d).setCell (p := ⟨q, 2, none⟩) h.lq e
/-- What TypeOf and speaks answer. -/
def TyE (o : Option (Nat × Int)) (ty : Int × Int) (e : Ending) : Prop := ∃ so si : Int, e = .returned (.tuple #[.agg #[.int .i64 so, .int .i64 si], fa o]) ∧ (o = none → (so, si) = ty)
set_option maxHeartbeats 4000000 in
set_option maxRecDepth 100000 in
theorem sp_14a (tx : ByteArray) (nu t sc : Int) (kv : Value) (hk : rknB nu sc = false) (w : World) :
    Calls Tryz.prog 37 #[.agg #[.int .i64 14, .string tx, .int .i64 nu, kv], .int .i64 t, .int .i64 sc] w fun e w' => TyE (some (142, t)) (0, 0) e ∧ Below w.heap.size w w' := by
  have ⟨hp, hr, hq, hb⟩ := alloc3 w (.cells #[.int .i64 14, .string tx, .int .i64 nu, kv] 60) (.cells #[.int .i64 0, .int .i64 0] 47) (.cells #[.int .i64 0, .int .i64 0, .int .i64 0] 33)
  have C := hid (show Tfr w _ (w.heap.size + 1) (w.heap.size + 1 + 1) from ⟨hr, hq, hb, by omega, by omega, by omega⟩)
  have HP := hid hp
  have HTY := hid rtyp_any
  clear hp hr hq hb
  have HK := hid (fun W => rkn_any nu sc W)
  rw [hk] at HK
  clear hk
  go_enter Tryz.func37, Tryz.ntmps37
  go_upto_region 1 with (fail)
  generalize ((w.alloc (.cells #[.int .i64 14, .string tx, .int .i64 nu, kv] 60)).alloc (.cells #[.int .i64 0, .int .i64 0] 47)).alloc (.cells #[.int .i64 0, .int .i64 0, .int .i64 0] 33) = X at *
  generalize w.heap.size + 1 + 1 = qb at *
  generalize w.heap.size + 1 = rb at *
  have hrq := C.out.ne
  have hqr := Ne.symm hrq
  have ⟨p0, p1, p2, p3⟩ := cells4 HP.out
  have ⟨⟨⟨r0, r1⟩, ⟨f0, f1⟩⟩, ⟨⟨q0, q1, q2⟩, ⟨h0, h1, h2⟩⟩⟩ := C.out.facts
  have hcase : (nu == 2) = false ∨ ((nu == 2) = true ∧ (sc == 2) = false) ∨ ((nu == 2) = true ∧ (sc == 2) = true) := by cases (nu == 2) <;> cases (sc == 2) <;> simp
  rcases hcase with hn | ⟨hn, hm⟩ | ⟨hn, hm⟩
  all_goals
    go_wp2_with (go_at_call 57; refine (HK.out _).mono ?_; rintro e w1 ⟨rfl, hww⟩; have hw2 := hww.symm; clear hww; subst hw2)
    (try simp only [Exit.inBlock, Exit.then])
    have FI := C.out.fin (.int .i64 0) (.int .i64 0) (.int .i64 142) (.int .i64 t) (.int .i64 0)
    exact bodyPost_ret (res_tf rfl _ _ rb qb _ _ _ _ _ rfl rfl FI.1 FI.2.1) rfl ⟨⟨_, _, rfl, fun h => by cases h⟩, FI.2.2⟩
set_option maxHeartbeats 4000000 in
set_option maxRecDepth 100000 in
theorem sp_14b (tx : ByteArray) (nu t sc : Int) (kv : Value) (hs : tx.size ≤ maxLen) (hk : rknB nu sc = true) (hky : keyB tx = false) (w : World) :
    Calls Tryz.prog 37 #[.agg #[.int .i64 14, .string tx, .int .i64 nu, kv], .int .i64 t, .int .i64 sc] w fun e w' => TyE (some (147, t)) (0, 0) e ∧ Below w.heap.size w w' := by
  have ⟨hp, hr, hq, hb⟩ := alloc3 w (.cells #[.int .i64 14, .string tx, .int .i64 nu, kv] 60) (.cells #[.int .i64 0, .int .i64 0] 47) (.cells #[.int .i64 0, .int .i64 0, .int .i64 0] 33)
  have C := hid (show Tfr w _ (w.heap.size + 1) (w.heap.size + 1 + 1) from ⟨hr, hq, hb, by omega, by omega, by omega⟩)
  have HP := hid hp
  have HTY := hid rtyp_any
  clear hp hr hq hb
  have HK := hid (fun W => rkn_any nu sc W)
  rw [hk] at HK
  clear hk
  have HKEY := hid (fun W => rkey_any tx W hs)
  rw [hky] at HKEY
  clear hky
  go_enter Tryz.func37, Tryz.ntmps37
  go_upto_region 1 with (fail)
  generalize ((w.alloc (.cells #[.int .i64 14, .string tx, .int .i64 nu, kv] 60)).alloc (.cells #[.int .i64 0, .int .i64 0] 47)).alloc (.cells #[.int .i64 0, .int .i64 0, .int .i64 0] 33) = X at *
  generalize w.heap.size + 1 + 1 = qb at *
  generalize w.heap.size + 1 = rb at *
  have hrq := C.out.ne
  have hqr := Ne.symm hrq
  have ⟨p0, p1, p2, p3⟩ := cells4 HP.out
  have ⟨⟨⟨r0, r1⟩, ⟨f0, f1⟩⟩, ⟨⟨q0, q1, q2⟩, ⟨h0, h1, h2⟩⟩⟩ := C.out.facts
  have hcase : (nu == 2) = false ∨ ((nu == 2) = true ∧ (sc == 2) = false) ∨ ((nu == 2) = true ∧ (sc == 2) = true) := by cases (nu == 2) <;> cases (sc == 2) <;> simp
  rcases hcase with hn | ⟨hn, hm⟩ | ⟨hn, hm⟩
  all_goals
    go_wp2_with (first | (go_at_call 57; refine (HK.out _).mono ?_; rintro e w1 ⟨rfl, hww⟩; have hw2 := hww.symm; clear hww; subst hw2) | (go_at_call 34; refine (HKEY.out _).mono ?_; rintro e w2 ⟨rfl, l2⟩; have L2 := hid l2; clear l2; have C2 := hid (C.out.below L2.out); have ⟨⟨⟨r0, r1⟩, ⟨f0, f1⟩⟩, ⟨⟨q0, q1, q2⟩, ⟨h0, h1, h2⟩⟩⟩ := C2.out.facts; have ⟨p0, p1, p2, p3⟩ := cells4 ((L2.out.block _ (lt_blk HP.out)).trans HP.out)))
    (try simp only [Exit.inBlock, Exit.then])
    have FI := C2.out.fin (.int .i64 0) (.int .i64 0) (.int .i64 147) (.int .i64 t) (.int .i64 0)
    exact bodyPost_ret (res_tf rfl _ _ rb qb _ _ _ _ _ rfl rfl FI.1 FI.2.1) rfl ⟨⟨_, _, rfl, fun h => by cases h⟩, FI.2.2⟩
set_option maxHeartbeats 4000000 in
set_option maxRecDepth 100000 in
theorem sp_14c (tx : ByteArray) (nu t sc : Int) (kv : Value) (hs : tx.size ≤ maxLen) (hk : rknB nu sc = true) (hky : keyB tx = true) (w : World) :
    Calls Tryz.prog 37 #[.agg #[.int .i64 14, .string tx, .int .i64 nu, kv], .int .i64 t, .int .i64 sc] w fun e w' => TyE (none) (2, nu) e ∧ Below w.heap.size w w' := by
  have ⟨hp, hr, hq, hb⟩ := alloc3 w (.cells #[.int .i64 14, .string tx, .int .i64 nu, kv] 60) (.cells #[.int .i64 0, .int .i64 0] 47) (.cells #[.int .i64 0, .int .i64 0, .int .i64 0] 33)
  have C := hid (show Tfr w _ (w.heap.size + 1) (w.heap.size + 1 + 1) from ⟨hr, hq, hb, by omega, by omega, by omega⟩)
  have HP := hid hp
  have HTY := hid rtyp_any
  clear hp hr hq hb
  have HK := hid (fun W => rkn_any nu sc W)
  rw [hk] at HK
  clear hk
  have HKEY := hid (fun W => rkey_any tx W hs)
  rw [hky] at HKEY
  clear hky
  go_enter Tryz.func37, Tryz.ntmps37
  go_upto_region 1 with (fail)
  generalize ((w.alloc (.cells #[.int .i64 14, .string tx, .int .i64 nu, kv] 60)).alloc (.cells #[.int .i64 0, .int .i64 0] 47)).alloc (.cells #[.int .i64 0, .int .i64 0, .int .i64 0] 33) = X at *
  generalize w.heap.size + 1 + 1 = qb at *
  generalize w.heap.size + 1 = rb at *
  have hrq := C.out.ne
  have hqr := Ne.symm hrq
  have ⟨p0, p1, p2, p3⟩ := cells4 HP.out
  have ⟨⟨⟨r0, r1⟩, ⟨f0, f1⟩⟩, ⟨⟨q0, q1, q2⟩, ⟨h0, h1, h2⟩⟩⟩ := C.out.facts
  have hcase : (nu == 2) = false ∨ ((nu == 2) = true ∧ (sc == 2) = false) ∨ ((nu == 2) = true ∧ (sc == 2) = true) := by cases (nu == 2) <;> cases (sc == 2) <;> simp
  rcases hcase with hn | ⟨hn, hm⟩ | ⟨hn, hm⟩
  all_goals
    go_wp2_with (first | (go_at_call 57; refine (HK.out _).mono ?_; rintro e w1 ⟨rfl, hww⟩; have hw2 := hww.symm; clear hww; subst hw2) | (go_at_call 34; refine (HKEY.out _).mono ?_; rintro e w2 ⟨rfl, l2⟩; have L2 := hid l2; clear l2; have C2 := hid (C.out.below L2.out); have ⟨⟨⟨r0, r1⟩, ⟨f0, f1⟩⟩, ⟨⟨q0, q1, q2⟩, ⟨h0, h1, h2⟩⟩⟩ := C2.out.facts; have ⟨p0, p1, p2, p3⟩ := cells4 ((L2.out.block _ (lt_blk HP.out)).trans HP.out)) | (go_at_call 31; refine (HTY.out _ _ _).mono ?_; rintro e w9 ⟨rfl, l9⟩; have L9 := hid l9; clear l9; have C9 := hid (C2.out.below L9.out); have ⟨⟨⟨r0, r1⟩, ⟨f0, f1⟩⟩, ⟨⟨q0, q1, q2⟩, ⟨h0, h1, h2⟩⟩⟩ := C9.out.facts))
    (try simp only [Exit.inBlock, Exit.then])
    have FI := C9.out.fin (.int .i64 2) (.int .i64 nu) (.int .i64 0) (.int .i64 0) (.int .i64 0)
    exact bodyPost_ret (res_tf rfl _ _ rb qb _ _ _ _ _ rfl rfl FI.1 FI.2.1) rfl ⟨⟨_, _, rfl, fun _ => rfl⟩, FI.2.2⟩
set_option maxHeartbeats 4000000 in
set_option maxRecDepth 100000 in
theorem sp_15a (tx : ByteArray) (nu t sc : Int) (kv : Value) (hk : rknB nu sc = false) (w : World) :
    Calls Tryz.prog 37 #[.agg #[.int .i64 15, .string tx, .int .i64 nu, kv], .int .i64 t, .int .i64 sc] w fun e w' => TyE (some (142, t)) (0, 0) e ∧ Below w.heap.size w w' := by
  have ⟨hp, hr, hq, hb⟩ := alloc3 w (.cells #[.int .i64 15, .string tx, .int .i64 nu, kv] 60) (.cells #[.int .i64 0, .int .i64 0] 47) (.cells #[.int .i64 0, .int .i64 0, .int .i64 0] 33)
  have C := hid (show Tfr w _ (w.heap.size + 1) (w.heap.size + 1 + 1) from ⟨hr, hq, hb, by omega, by omega, by omega⟩)
  have HP := hid hp
  have HTY := hid rtyp_any
  clear hp hr hq hb
  have HK := hid (fun W => rkn_any nu sc W)
  rw [hk] at HK
  clear hk
  go_enter Tryz.func37, Tryz.ntmps37
  go_upto_region 1 with (fail)
  generalize ((w.alloc (.cells #[.int .i64 15, .string tx, .int .i64 nu, kv] 60)).alloc (.cells #[.int .i64 0, .int .i64 0] 47)).alloc (.cells #[.int .i64 0, .int .i64 0, .int .i64 0] 33) = X at *
  generalize w.heap.size + 1 + 1 = qb at *
  generalize w.heap.size + 1 = rb at *
  have hrq := C.out.ne
  have hqr := Ne.symm hrq
  have ⟨p0, p1, p2, p3⟩ := cells4 HP.out
  have ⟨⟨⟨r0, r1⟩, ⟨f0, f1⟩⟩, ⟨⟨q0, q1, q2⟩, ⟨h0, h1, h2⟩⟩⟩ := C.out.facts
  have hcase : (nu == 2) = false ∨ ((nu == 2) = true ∧ (sc == 2) = false) ∨ ((nu == 2) = true ∧ (sc == 2) = true) := by cases (nu == 2) <;> cases (sc == 2) <;> simp
  rcases hcase with hn | ⟨hn, hm⟩ | ⟨hn, hm⟩
  all_goals
    go_wp2_with (go_at_call 57; refine (HK.out _).mono ?_; rintro e w1 ⟨rfl, hww⟩; have hw2 := hww.symm; clear hww; subst hw2)
    (try simp only [Exit.inBlock, Exit.then])
    have FI := C.out.fin (.int .i64 0) (.int .i64 0) (.int .i64 142) (.int .i64 t) (.int .i64 0)
    exact bodyPost_ret (res_tf rfl _ _ rb qb _ _ _ _ _ rfl rfl FI.1 FI.2.1) rfl ⟨⟨_, _, rfl, fun h => by cases h⟩, FI.2.2⟩
set_option maxHeartbeats 4000000 in
set_option maxRecDepth 100000 in
theorem sp_15b (tx : ByteArray) (nu t sc : Int) (kv : Value) (hk : rknB nu sc = true) (w : World) :
    Calls Tryz.prog 37 #[.agg #[.int .i64 15, .string tx, .int .i64 nu, kv], .int .i64 t, .int .i64 sc] w fun e w' => TyE (none) (2, nu) e ∧ Below w.heap.size w w' := by
  have ⟨hp, hr, hq, hb⟩ := alloc3 w (.cells #[.int .i64 15, .string tx, .int .i64 nu, kv] 60) (.cells #[.int .i64 0, .int .i64 0] 47) (.cells #[.int .i64 0, .int .i64 0, .int .i64 0] 33)
  have C := hid (show Tfr w _ (w.heap.size + 1) (w.heap.size + 1 + 1) from ⟨hr, hq, hb, by omega, by omega, by omega⟩)
  have HP := hid hp
  have HTY := hid rtyp_any
  clear hp hr hq hb
  have HK := hid (fun W => rkn_any nu sc W)
  rw [hk] at HK
  clear hk
  go_enter Tryz.func37, Tryz.ntmps37
  go_upto_region 1 with (fail)
  generalize ((w.alloc (.cells #[.int .i64 15, .string tx, .int .i64 nu, kv] 60)).alloc (.cells #[.int .i64 0, .int .i64 0] 47)).alloc (.cells #[.int .i64 0, .int .i64 0, .int .i64 0] 33) = X at *
  generalize w.heap.size + 1 + 1 = qb at *
  generalize w.heap.size + 1 = rb at *
  have hrq := C.out.ne
  have hqr := Ne.symm hrq
  have ⟨p0, p1, p2, p3⟩ := cells4 HP.out
  have ⟨⟨⟨r0, r1⟩, ⟨f0, f1⟩⟩, ⟨⟨q0, q1, q2⟩, ⟨h0, h1, h2⟩⟩⟩ := C.out.facts
  have hcase : (nu == 2) = false ∨ ((nu == 2) = true ∧ (sc == 2) = false) ∨ ((nu == 2) = true ∧ (sc == 2) = true) := by cases (nu == 2) <;> cases (sc == 2) <;> simp
  rcases hcase with hn | ⟨hn, hm⟩ | ⟨hn, hm⟩
  all_goals
    go_wp2_with (first | (go_at_call 57; refine (HK.out _).mono ?_; rintro e w1 ⟨rfl, hww⟩; have hw2 := hww.symm; clear hww; subst hw2) | (go_at_call 31; refine (HTY.out _ _ _).mono ?_; rintro e w9 ⟨rfl, l9⟩; have L9 := hid l9; clear l9; have C9 := hid (C.out.below L9.out); have ⟨⟨⟨r0, r1⟩, ⟨f0, f1⟩⟩, ⟨⟨q0, q1, q2⟩, ⟨h0, h1, h2⟩⟩⟩ := C9.out.facts))
    (try simp only [Exit.inBlock, Exit.then])
    have FI := C9.out.fin (.int .i64 2) (.int .i64 nu) (.int .i64 0) (.int .i64 0) (.int .i64 0)
    exact bodyPost_ret (res_tf rfl _ _ rb qb _ _ _ _ _ rfl rfl FI.1 FI.2.1) rfl ⟨⟨_, _, rfl, fun _ => rfl⟩, FI.2.2⟩
set_option maxHeartbeats 4000000 in
set_option maxRecDepth 100000 in
theorem sp_16a (tx : ByteArray) (nu t sc : Int) (kv : Value) (hk : rknB nu sc = false) (w : World) :
    Calls Tryz.prog 37 #[.agg #[.int .i64 16, .string tx, .int .i64 nu, kv], .int .i64 t, .int .i64 sc] w fun e w' => TyE (some (142, t)) (0, 0) e ∧ Below w.heap.size w w' := by
  have ⟨hp, hr, hq, hb⟩ := alloc3 w (.cells #[.int .i64 16, .string tx, .int .i64 nu, kv] 60) (.cells #[.int .i64 0, .int .i64 0] 47) (.cells #[.int .i64 0, .int .i64 0, .int .i64 0] 33)
  have C := hid (show Tfr w _ (w.heap.size + 1) (w.heap.size + 1 + 1) from ⟨hr, hq, hb, by omega, by omega, by omega⟩)
  have HP := hid hp
  have HTY := hid rtyp_any
  clear hp hr hq hb
  have HK := hid (fun W => rkn_any nu sc W)
  rw [hk] at HK
  clear hk
  go_enter Tryz.func37, Tryz.ntmps37
  go_upto_region 1 with (fail)
  generalize ((w.alloc (.cells #[.int .i64 16, .string tx, .int .i64 nu, kv] 60)).alloc (.cells #[.int .i64 0, .int .i64 0] 47)).alloc (.cells #[.int .i64 0, .int .i64 0, .int .i64 0] 33) = X at *
  generalize w.heap.size + 1 + 1 = qb at *
  generalize w.heap.size + 1 = rb at *
  have hrq := C.out.ne
  have hqr := Ne.symm hrq
  have ⟨p0, p1, p2, p3⟩ := cells4 HP.out
  have ⟨⟨⟨r0, r1⟩, ⟨f0, f1⟩⟩, ⟨⟨q0, q1, q2⟩, ⟨h0, h1, h2⟩⟩⟩ := C.out.facts
  have hcase : (nu == 2) = false ∨ ((nu == 2) = true ∧ (sc == 2) = false) ∨ ((nu == 2) = true ∧ (sc == 2) = true) := by cases (nu == 2) <;> cases (sc == 2) <;> simp
  rcases hcase with hn | ⟨hn, hm⟩ | ⟨hn, hm⟩
  all_goals
    go_wp2_with (go_at_call 57; refine (HK.out _).mono ?_; rintro e w1 ⟨rfl, hww⟩; have hw2 := hww.symm; clear hww; subst hw2)
    (try simp only [Exit.inBlock, Exit.then])
    have FI := C.out.fin (.int .i64 0) (.int .i64 0) (.int .i64 142) (.int .i64 t) (.int .i64 0)
    exact bodyPost_ret (res_tf rfl _ _ rb qb _ _ _ _ _ rfl rfl FI.1 FI.2.1) rfl ⟨⟨_, _, rfl, fun h => by cases h⟩, FI.2.2⟩
set_option maxHeartbeats 4000000 in
set_option maxRecDepth 100000 in
theorem sp_16b (tx : ByteArray) (nu t sc : Int) (kv : Value) (hk : rknB nu sc = true) (w : World) :
    Calls Tryz.prog 37 #[.agg #[.int .i64 16, .string tx, .int .i64 nu, kv], .int .i64 t, .int .i64 sc] w fun e w' => TyE (none) (4, nu) e ∧ Below w.heap.size w w' := by
  have ⟨hp, hr, hq, hb⟩ := alloc3 w (.cells #[.int .i64 16, .string tx, .int .i64 nu, kv] 60) (.cells #[.int .i64 0, .int .i64 0] 47) (.cells #[.int .i64 0, .int .i64 0, .int .i64 0] 33)
  have C := hid (show Tfr w _ (w.heap.size + 1) (w.heap.size + 1 + 1) from ⟨hr, hq, hb, by omega, by omega, by omega⟩)
  have HP := hid hp
  have HTY := hid rtyp_any
  clear hp hr hq hb
  have HK := hid (fun W => rkn_any nu sc W)
  rw [hk] at HK
  clear hk
  go_enter Tryz.func37, Tryz.ntmps37
  go_upto_region 1 with (fail)
  generalize ((w.alloc (.cells #[.int .i64 16, .string tx, .int .i64 nu, kv] 60)).alloc (.cells #[.int .i64 0, .int .i64 0] 47)).alloc (.cells #[.int .i64 0, .int .i64 0, .int .i64 0] 33) = X at *
  generalize w.heap.size + 1 + 1 = qb at *
  generalize w.heap.size + 1 = rb at *
  have hrq := C.out.ne
  have hqr := Ne.symm hrq
  have ⟨p0, p1, p2, p3⟩ := cells4 HP.out
  have ⟨⟨⟨r0, r1⟩, ⟨f0, f1⟩⟩, ⟨⟨q0, q1, q2⟩, ⟨h0, h1, h2⟩⟩⟩ := C.out.facts
  have hcase : (nu == 2) = false ∨ ((nu == 2) = true ∧ (sc == 2) = false) ∨ ((nu == 2) = true ∧ (sc == 2) = true) := by cases (nu == 2) <;> cases (sc == 2) <;> simp
  rcases hcase with hn | ⟨hn, hm⟩ | ⟨hn, hm⟩
  all_goals
    go_wp2_with (first | (go_at_call 57; refine (HK.out _).mono ?_; rintro e w1 ⟨rfl, hww⟩; have hw2 := hww.symm; clear hww; subst hw2) | (go_at_call 31; refine (HTY.out _ _ _).mono ?_; rintro e w9 ⟨rfl, l9⟩; have L9 := hid l9; clear l9; have C9 := hid (C.out.below L9.out); have ⟨⟨⟨r0, r1⟩, ⟨f0, f1⟩⟩, ⟨⟨q0, q1, q2⟩, ⟨h0, h1, h2⟩⟩⟩ := C9.out.facts))
    (try simp only [Exit.inBlock, Exit.then])
    have FI := C9.out.fin (.int .i64 4) (.int .i64 nu) (.int .i64 0) (.int .i64 0) (.int .i64 0)
    exact bodyPost_ret (res_tf rfl _ _ rb qb _ _ _ _ _ rfl rfl FI.1 FI.2.1) rfl ⟨⟨_, _, rfl, fun _ => rfl⟩, FI.2.2⟩
set_option maxHeartbeats 4000000 in
set_option maxRecDepth 100000 in
theorem sp_17a (tx : ByteArray) (nu t sc : Int) (kv : Value) (hk : nu ≠ 2) (w : World) :
    Calls Tryz.prog 37 #[.agg #[.int .i64 17, .string tx, .int .i64 nu, kv], .int .i64 t, .int .i64 sc] w fun e w' => TyE (some (142, t)) (0, 0) e ∧ Below w.heap.size w w' := by
  have ⟨hp, hr, hq, hb⟩ := alloc3 w (.cells #[.int .i64 17, .string tx, .int .i64 nu, kv] 60) (.cells #[.int .i64 0, .int .i64 0] 47) (.cells #[.int .i64 0, .int .i64 0, .int .i64 0] 33)
  have C := hid (show Tfr w _ (w.heap.size + 1) (w.heap.size + 1 + 1) from ⟨hr, hq, hb, by omega, by omega, by omega⟩)
  have HP := hid hp
  have HTY := hid rtyp_any
  clear hp hr hq hb
  have hn1 : (nu == 2) = false := by simpa using hk
  clear hk
  go_enter Tryz.func37, Tryz.ntmps37
  go_upto_region 1 with (fail)
  generalize ((w.alloc (.cells #[.int .i64 17, .string tx, .int .i64 nu, kv] 60)).alloc (.cells #[.int .i64 0, .int .i64 0] 47)).alloc (.cells #[.int .i64 0, .int .i64 0, .int .i64 0] 33) = X at *
  generalize w.heap.size + 1 + 1 = qb at *
  generalize w.heap.size + 1 = rb at *
  have hrq := C.out.ne
  have hqr := Ne.symm hrq
  have ⟨p0, p1, p2, p3⟩ := cells4 HP.out
  have ⟨⟨⟨r0, r1⟩, ⟨f0, f1⟩⟩, ⟨⟨q0, q1, q2⟩, ⟨h0, h1, h2⟩⟩⟩ := C.out.facts
  skip
  all_goals
    go_wp2_with fail
    (try simp only [Exit.inBlock, Exit.then])
    have FI := C.out.fin (.int .i64 0) (.int .i64 0) (.int .i64 142) (.int .i64 t) (.int .i64 0)
    exact bodyPost_ret (res_tf rfl _ _ rb qb _ _ _ _ _ rfl rfl FI.1 FI.2.1) rfl ⟨⟨_, _, rfl, fun h => by cases h⟩, FI.2.2⟩
set_option maxHeartbeats 4000000 in
set_option maxRecDepth 100000 in
theorem sp_17b (tx : ByteArray) (nu t sc : Int) (kv : Value) (hk : nu = 2) (hc : sc ≠ 2) (w : World) :
    Calls Tryz.prog 37 #[.agg #[.int .i64 17, .string tx, .int .i64 nu, kv], .int .i64 t, .int .i64 sc] w fun e w' => TyE (some (142, t)) (0, 0) e ∧ Below w.heap.size w w' := by
  subst hk
  have hn1 : (sc == 2) = false := by simpa using hc
  clear hc
  have ⟨hp, hr, hq, hb⟩ := alloc3 w (.cells #[.int .i64 17, .string tx, .int .i64 2, kv] 60) (.cells #[.int .i64 0, .int .i64 0] 47) (.cells #[.int .i64 0, .int .i64 0, .int .i64 0] 33)
  have C := hid (show Tfr w _ (w.heap.size + 1) (w.heap.size + 1 + 1) from ⟨hr, hq, hb, by omega, by omega, by omega⟩)
  have HP := hid hp
  have HTY := hid rtyp_any
  clear hp hr hq hb
  go_enter Tryz.func37, Tryz.ntmps37
  go_upto_region 1 with (fail)
  generalize ((w.alloc (.cells #[.int .i64 17, .string tx, .int .i64 2, kv] 60)).alloc (.cells #[.int .i64 0, .int .i64 0] 47)).alloc (.cells #[.int .i64 0, .int .i64 0, .int .i64 0] 33) = X at *
  generalize w.heap.size + 1 + 1 = qb at *
  generalize w.heap.size + 1 = rb at *
  have hrq := C.out.ne
  have hqr := Ne.symm hrq
  have ⟨p0, p1, p2, p3⟩ := cells4 HP.out
  have ⟨⟨⟨r0, r1⟩, ⟨f0, f1⟩⟩, ⟨⟨q0, q1, q2⟩, ⟨h0, h1, h2⟩⟩⟩ := C.out.facts
  skip
  all_goals
    go_wp2_with fail
    (try simp only [Exit.inBlock, Exit.then])
    have FI := C.out.fin (.int .i64 0) (.int .i64 0) (.int .i64 142) (.int .i64 t) (.int .i64 0)
    exact bodyPost_ret (res_tf rfl _ _ rb qb _ _ _ _ _ rfl rfl FI.1 FI.2.1) rfl ⟨⟨_, _, rfl, fun h => by cases h⟩, FI.2.2⟩
set_option maxHeartbeats 4000000 in
set_option maxRecDepth 100000 in
theorem sp_18a (tx : ByteArray) (nu t sc : Int) (kv : Value) (hk : nu ≠ 2) (w : World) :
    Calls Tryz.prog 37 #[.agg #[.int .i64 18, .string tx, .int .i64 nu, kv], .int .i64 t, .int .i64 sc] w fun e w' => TyE (some (142, t)) (0, 0) e ∧ Below w.heap.size w w' := by
  have ⟨hp, hr, hq, hb⟩ := alloc3 w (.cells #[.int .i64 18, .string tx, .int .i64 nu, kv] 60) (.cells #[.int .i64 0, .int .i64 0] 47) (.cells #[.int .i64 0, .int .i64 0, .int .i64 0] 33)
  have C := hid (show Tfr w _ (w.heap.size + 1) (w.heap.size + 1 + 1) from ⟨hr, hq, hb, by omega, by omega, by omega⟩)
  have HP := hid hp
  have HTY := hid rtyp_any
  clear hp hr hq hb
  have hn1 : (nu == 2) = false := by simpa using hk
  clear hk
  go_enter Tryz.func37, Tryz.ntmps37
  go_upto_region 1 with (fail)
  generalize ((w.alloc (.cells #[.int .i64 18, .string tx, .int .i64 nu, kv] 60)).alloc (.cells #[.int .i64 0, .int .i64 0] 47)).alloc (.cells #[.int .i64 0, .int .i64 0, .int .i64 0] 33) = X at *
  generalize w.heap.size + 1 + 1 = qb at *
  generalize w.heap.size + 1 = rb at *
  have hrq := C.out.ne
  have hqr := Ne.symm hrq
  have ⟨p0, p1, p2, p3⟩ := cells4 HP.out
  have ⟨⟨⟨r0, r1⟩, ⟨f0, f1⟩⟩, ⟨⟨q0, q1, q2⟩, ⟨h0, h1, h2⟩⟩⟩ := C.out.facts
  skip
  all_goals
    go_wp2_with fail
    (try simp only [Exit.inBlock, Exit.then])
    have FI := C.out.fin (.int .i64 0) (.int .i64 0) (.int .i64 142) (.int .i64 t) (.int .i64 0)
    exact bodyPost_ret (res_tf rfl _ _ rb qb _ _ _ _ _ rfl rfl FI.1 FI.2.1) rfl ⟨⟨_, _, rfl, fun h => by cases h⟩, FI.2.2⟩
set_option maxHeartbeats 4000000 in
set_option maxRecDepth 100000 in
theorem sp_18b (tx : ByteArray) (nu t sc : Int) (kv : Value) (hk : nu = 2) (hc : sc ≠ 2) (w : World) :
    Calls Tryz.prog 37 #[.agg #[.int .i64 18, .string tx, .int .i64 nu, kv], .int .i64 t, .int .i64 sc] w fun e w' => TyE (some (142, t)) (0, 0) e ∧ Below w.heap.size w w' := by
  subst hk
  have hn1 : (sc == 2) = false := by simpa using hc
  clear hc
  have ⟨hp, hr, hq, hb⟩ := alloc3 w (.cells #[.int .i64 18, .string tx, .int .i64 2, kv] 60) (.cells #[.int .i64 0, .int .i64 0] 47) (.cells #[.int .i64 0, .int .i64 0, .int .i64 0] 33)
  have C := hid (show Tfr w _ (w.heap.size + 1) (w.heap.size + 1 + 1) from ⟨hr, hq, hb, by omega, by omega, by omega⟩)
  have HP := hid hp
  have HTY := hid rtyp_any
  clear hp hr hq hb
  go_enter Tryz.func37, Tryz.ntmps37
  go_upto_region 1 with (fail)
  generalize ((w.alloc (.cells #[.int .i64 18, .string tx, .int .i64 2, kv] 60)).alloc (.cells #[.int .i64 0, .int .i64 0] 47)).alloc (.cells #[.int .i64 0, .int .i64 0, .int .i64 0] 33) = X at *
  generalize w.heap.size + 1 + 1 = qb at *
  generalize w.heap.size + 1 = rb at *
  have hrq := C.out.ne
  have hqr := Ne.symm hrq
  have ⟨p0, p1, p2, p3⟩ := cells4 HP.out
  have ⟨⟨⟨r0, r1⟩, ⟨f0, f1⟩⟩, ⟨⟨q0, q1, q2⟩, ⟨h0, h1, h2⟩⟩⟩ := C.out.facts
  skip
  all_goals
    go_wp2_with fail
    (try simp only [Exit.inBlock, Exit.then])
    have FI := C.out.fin (.int .i64 0) (.int .i64 0) (.int .i64 142) (.int .i64 t) (.int .i64 0)
    exact bodyPost_ret (res_tf rfl _ _ rb qb _ _ _ _ _ rfl rfl FI.1 FI.2.1) rfl ⟨⟨_, _, rfl, fun h => by cases h⟩, FI.2.2⟩
set_option maxHeartbeats 4000000 in
set_option maxRecDepth 100000 in
theorem sp_17c (tx : ByteArray) (nu t sc : Int) (kv : Value) (hk : nu = 2) (hc : sc = 2) (w : World) :
    Calls Tryz.prog 37 #[.agg #[.int .i64 17, .string tx, .int .i64 nu, kv], .int .i64 t, .int .i64 sc] w fun e w' => TyE (none) (4, 2) e ∧ Below w.heap.size w w' := by
  subst hk hc
  have ⟨hp, hr, hq, hb⟩ := alloc3 w (.cells #[.int .i64 17, .string tx, .int .i64 2, kv] 60) (.cells #[.int .i64 0, .int .i64 0] 47) (.cells #[.int .i64 0, .int .i64 0, .int .i64 0] 33)
  have C := hid (show Tfr w _ (w.heap.size + 1) (w.heap.size + 1 + 1) from ⟨hr, hq, hb, by omega, by omega, by omega⟩)
  have HP := hid hp
  have HTY := hid rtyp_any
  clear hp hr hq hb
  go_enter Tryz.func37, Tryz.ntmps37
  go_upto_region 1 with (fail)
  generalize ((w.alloc (.cells #[.int .i64 17, .string tx, .int .i64 2, kv] 60)).alloc (.cells #[.int .i64 0, .int .i64 0] 47)).alloc (.cells #[.int .i64 0, .int .i64 0, .int .i64 0] 33) = X at *
  generalize w.heap.size + 1 + 1 = qb at *
  generalize w.heap.size + 1 = rb at *
  have hrq := C.out.ne
  have hqr := Ne.symm hrq
  have ⟨p0, p1, p2, p3⟩ := cells4 HP.out
  have ⟨⟨⟨r0, r1⟩, ⟨f0, f1⟩⟩, ⟨⟨q0, q1, q2⟩, ⟨h0, h1, h2⟩⟩⟩ := C.out.facts
  skip
  all_goals
    go_wp2_with (go_at_call 31; refine (HTY.out _ _ _).mono ?_; rintro e w9 ⟨rfl, l9⟩; have L9 := hid l9; clear l9; have C9 := hid (C.out.below L9.out); have ⟨⟨⟨r0, r1⟩, ⟨f0, f1⟩⟩, ⟨⟨q0, q1, q2⟩, ⟨h0, h1, h2⟩⟩⟩ := C9.out.facts)
    (try simp only [Exit.inBlock, Exit.then])
    have FI := C9.out.fin (.int .i64 4) (.int .i64 2) (.int .i64 0) (.int .i64 0) (.int .i64 0)
    exact bodyPost_ret (res_tf rfl _ _ rb qb _ _ _ _ _ rfl rfl FI.1 FI.2.1) rfl ⟨⟨_, _, rfl, fun _ => rfl⟩, FI.2.2⟩
set_option maxHeartbeats 4000000 in
set_option maxRecDepth 100000 in
theorem sp_18c (tx : ByteArray) (nu t sc : Int) (kv : Value) (hs : tx.size ≤ maxLen) (hk : nu = 2) (hc : sc = 2) (hky : Qn.nameB tx = false) (w : World) :
    Calls Tryz.prog 37 #[.agg #[.int .i64 18, .string tx, .int .i64 nu, kv], .int .i64 t, .int .i64 sc] w fun e w' => TyE (some (147, t)) (0, 0) e ∧ Below w.heap.size w w' := by
  subst hk hc
  have ⟨hp, hr, hq, hb⟩ := alloc3 w (.cells #[.int .i64 18, .string tx, .int .i64 2, kv] 60) (.cells #[.int .i64 0, .int .i64 0] 47) (.cells #[.int .i64 0, .int .i64 0, .int .i64 0] 33)
  have C := hid (show Tfr w _ (w.heap.size + 1) (w.heap.size + 1 + 1) from ⟨hr, hq, hb, by omega, by omega, by omega⟩)
  have HP := hid hp
  have HTY := hid rtyp_any
  clear hp hr hq hb
  have HNAM := hid (fun W => Qn.rname_any tx W hs)
  rw [hky] at HNAM
  clear hky
  go_enter Tryz.func37, Tryz.ntmps37
  go_upto_region 1 with (fail)
  generalize ((w.alloc (.cells #[.int .i64 18, .string tx, .int .i64 2, kv] 60)).alloc (.cells #[.int .i64 0, .int .i64 0] 47)).alloc (.cells #[.int .i64 0, .int .i64 0, .int .i64 0] 33) = X at *
  generalize w.heap.size + 1 + 1 = qb at *
  generalize w.heap.size + 1 = rb at *
  have hrq := C.out.ne
  have hqr := Ne.symm hrq
  have ⟨p0, p1, p2, p3⟩ := cells4 HP.out
  have ⟨⟨⟨r0, r1⟩, ⟨f0, f1⟩⟩, ⟨⟨q0, q1, q2⟩, ⟨h0, h1, h2⟩⟩⟩ := C.out.facts
  skip
  all_goals
    go_wp2_with (go_at_call 58; refine (HNAM.out _).mono ?_; rintro e w1 ⟨rfl, hww⟩; have hw2 := hww.symm; clear hww; subst hw2)
    (try simp only [Exit.inBlock, Exit.then])
    have FI := C.out.fin (.int .i64 0) (.int .i64 0) (.int .i64 147) (.int .i64 t) (.int .i64 0)
    exact bodyPost_ret (res_tf rfl _ _ rb qb _ _ _ _ _ rfl rfl FI.1 FI.2.1) rfl ⟨⟨_, _, rfl, fun h => by cases h⟩, FI.2.2⟩
set_option maxHeartbeats 4000000 in
set_option maxRecDepth 100000 in
theorem sp_18d (tx : ByteArray) (nu t sc : Int) (kv : Value) (hs : tx.size ≤ maxLen) (hk : nu = 2) (hc : sc = 2) (hky : Qn.nameB tx = true) (w : World) :
    Calls Tryz.prog 37 #[.agg #[.int .i64 18, .string tx, .int .i64 nu, kv], .int .i64 t, .int .i64 sc] w fun e w' => TyE (none) (3, 2) e ∧ Below w.heap.size w w' := by
  subst hk hc
  have ⟨hp, hr, hq, hb⟩ := alloc3 w (.cells #[.int .i64 18, .string tx, .int .i64 2, kv] 60) (.cells #[.int .i64 0, .int .i64 0] 47) (.cells #[.int .i64 0, .int .i64 0, .int .i64 0] 33)
  have C := hid (show Tfr w _ (w.heap.size + 1) (w.heap.size + 1 + 1) from ⟨hr, hq, hb, by omega, by omega, by omega⟩)
  have HP := hid hp
  have HTY := hid rtyp_any
  clear hp hr hq hb
  have HNAM := hid (fun W => Qn.rname_any tx W hs)
  rw [hky] at HNAM
  clear hky
  go_enter Tryz.func37, Tryz.ntmps37
  go_upto_region 1 with (fail)
  generalize ((w.alloc (.cells #[.int .i64 18, .string tx, .int .i64 2, kv] 60)).alloc (.cells #[.int .i64 0, .int .i64 0] 47)).alloc (.cells #[.int .i64 0, .int .i64 0, .int .i64 0] 33) = X at *
  generalize w.heap.size + 1 + 1 = qb at *
  generalize w.heap.size + 1 = rb at *
  have hrq := C.out.ne
  have hqr := Ne.symm hrq
  have ⟨p0, p1, p2, p3⟩ := cells4 HP.out
  have ⟨⟨⟨r0, r1⟩, ⟨f0, f1⟩⟩, ⟨⟨q0, q1, q2⟩, ⟨h0, h1, h2⟩⟩⟩ := C.out.facts
  skip
  all_goals
    go_wp2_with (first | (go_at_call 58; refine (HNAM.out _).mono ?_; rintro e w1 ⟨rfl, hww⟩; have hw2 := hww.symm; clear hww; subst hw2) | (go_at_call 31; refine (HTY.out _ _ _).mono ?_; rintro e w9 ⟨rfl, l9⟩; have L9 := hid l9; clear l9; have C9 := hid (C.out.below L9.out); have ⟨⟨⟨r0, r1⟩, ⟨f0, f1⟩⟩, ⟨⟨q0, q1, q2⟩, ⟨h0, h1, h2⟩⟩⟩ := C9.out.facts))
    (try simp only [Exit.inBlock, Exit.then])
    have FI := C9.out.fin (.int .i64 3) (.int .i64 2) (.int .i64 0) (.int .i64 0) (.int .i64 0)
    exact bodyPost_ret (res_tf rfl _ _ rb qb _ _ _ _ _ rfl rfl FI.1 FI.2.1) rfl ⟨⟨_, _, rfl, fun _ => rfl⟩, FI.2.2⟩
theorem rkn_is {nu sc : Int} (hs : sc = 2 ∨ sc = 3) : rknB nu sc = (nu == 1 || nu == sc) := by
  unfold rknB
  cases h1 : (nu == 1)
  · cases h2 : (nu == sc)
    · rfl
    · have : nu = sc := by simpa using h2
      have h0 : (nu == 0) = false := by rcases hs with rfl | rfl <;> (subst this; decide)
      rw [h0]
      rfl
  · rfl
theorem TyE.to {o o' : Option (Nat × Int)} {ty ty' : Int × Int} {e : Ending} (h : TyE o ty e) (ho : o = o') (ht : o' = none → ty = ty') : TyE o' ty' e := by
  subst ho
  obtain ⟨so, si, h1, h2⟩ := h
  exact ⟨so, si, h1, fun hn => (h2 hn).trans (ht hn)⟩
theorem speak_any (k : Int) (tx : ByteArray) (nu t sc : Int) (kv : Value) (w : World) (hs : tx.size ≤ maxLen) (hc : sc = 2 ∨ sc = 3) (hk : k = 14 ∨ k = 15 ∨ k = 16 ∨ k = 17 ∨ k = 18) :
    Calls Tryz.prog 37 #[.agg #[.int .i64 k, .string tx, .int .i64 nu, kv], .int .i64 t, .int .i64 sc] w fun e w' => TyE (asO k nu sc tx t) (srO k 0 0, siO k nu 0) e ∧ Below w.heap.size w w' := by
  have fin : ∀ {o : Option (Nat × Int)} {ty : Int × Int}, o = asO k nu sc tx t → (asO k nu sc tx t = none → ty = (srO k 0 0, siO k nu 0)) → Calls Tryz.prog 37 #[.agg #[.int .i64 k, .string tx, .int .i64 nu, kv], .int .i64 t, .int .i64 sc] w (fun e w' => TyE o ty e ∧ Below w.heap.size w w') → Calls Tryz.prog 37 #[.agg #[.int .i64 k, .string tx, .int .i64 nu, kv], .int .i64 t, .int .i64 sc] w fun e w' => TyE (asO k nu sc tx t) (srO k 0 0, siO k nu 0) e ∧ Below w.heap.size w w' :=
    fun ho ht hcl => hcl.mono fun e w' h => ⟨h.1.to ho ht, h.2⟩
  have hkn := rkn_is (nu := nu) hc
  rcases hk with rfl | rfl | rfl | rfl | rfl
  · have e1 : knB 14 nu sc = rknB nu sc := by rw [hkn]; simp [knB]
    have e2 : nmB 14 tx = keyB tx := by simp [nmB]
    cases h1 : rknB nu sc
    · exact fin (by unfold asO; rw [e1, h1]; rfl) (fun h => by unfold asO at h; rw [e1, h1] at h; cases h) (sp_14a tx nu t sc kv h1 w)
    · cases h2 : keyB tx
      · exact fin (by unfold asO; rw [e1, h1, e2, h2]; rfl) (fun h => by unfold asO at h; rw [e1, h1, e2, h2] at h; cases h) (sp_14b tx nu t sc kv hs h1 h2 w)
      · exact fin (by unfold asO; rw [e1, h1, e2, h2]; rfl) (fun _ => rfl) (sp_14c tx nu t sc kv hs h1 h2 w)
  · have e1 : knB 15 nu sc = rknB nu sc := by rw [hkn]; simp [knB]
    have e2 : nmB 15 tx = true := by simp [nmB]
    cases h1 : rknB nu sc
    · exact fin (by unfold asO; rw [e1, h1]; rfl) (fun h => by unfold asO at h; rw [e1, h1] at h; cases h) (sp_15a tx nu t sc kv h1 w)
    · exact fin (by unfold asO; rw [e1, h1, e2]; rfl) (fun _ => rfl) (sp_15b tx nu t sc kv h1 w)
  · have e1 : knB 16 nu sc = rknB nu sc := by rw [hkn]; simp [knB]
    have e2 : nmB 16 tx = true := by simp [nmB]
    cases h1 : rknB nu sc
    · exact fin (by unfold asO; rw [e1, h1]; rfl) (fun h => by unfold asO at h; rw [e1, h1] at h; cases h) (sp_16a tx nu t sc kv h1 w)
    · exact fin (by unfold asO; rw [e1, h1, e2]; rfl) (fun _ => rfl) (sp_16b tx nu t sc kv h1 w)
  · have e1 : knB 17 nu sc = (nu == 2 && sc == 2) := by simp [knB]
    have e2 : nmB 17 tx = true := by simp [nmB]
    by_cases h1 : nu = 2
    · by_cases h2 : sc = 2
      · exact fin (by unfold asO; rw [e1, e2, h1, h2]; rfl) (fun _ => by rw [h1]; rfl) (sp_17c tx nu t sc kv h1 h2 w)
      · have h3 : knB 17 nu sc = false := by rw [e1]; simp [h2]
        exact fin (by unfold asO; rw [h3]; rfl) (fun h => by unfold asO at h; rw [h3] at h; cases h) (sp_17b tx nu t sc kv h1 h2 w)
    · have h3 : knB 17 nu sc = false := by rw [e1]; simp [h1]
      exact fin (by unfold asO; rw [h3]; rfl) (fun h => by unfold asO at h; rw [h3] at h; cases h) (sp_17a tx nu t sc kv h1 w)
  · have e1 : knB 18 nu sc = (nu == 2 && sc == 2) := by simp [knB]
    have e2 : nmB 18 tx = Qn.nameB tx := by simp [nmB]
    by_cases h1 : nu = 2
    · by_cases h2 : sc = 2
      · cases h4 : Qn.nameB tx
        · exact fin (by unfold asO; rw [e1, e2, h1, h2, h4]; rfl) (fun h => by unfold asO at h; rw [e1, e2, h1, h2, h4] at h; cases h) (sp_18c tx nu t sc kv hs h1 h2 h4 w)
        · exact fin (by unfold asO; rw [e1, e2, h1, h2, h4]; rfl) (fun _ => by rw [h1]; rfl) (sp_18d tx nu t sc kv hs h1 h2 h4 w)
      · have h3 : knB 18 nu sc = false := by rw [e1]; simp [h2]
        exact fin (by unfold asO; rw [h3]; rfl) (fun h => by unfold asO at h; rw [h3] at h; cases h) (sp_18b tx nu t sc kv h1 h2 w)
    · have h3 : knB 18 nu sc = false := by rw [e1]; simp [h1]
      exact fin (by unfold asO; rw [h3]; rfl) (fun h => by unfold asO at h; rw [h3] at h; cases h) (sp_18a tx nu t sc kv h1 w)
end Go.Proofs.YtiddnjjaidiohaaGreatDoor.L
