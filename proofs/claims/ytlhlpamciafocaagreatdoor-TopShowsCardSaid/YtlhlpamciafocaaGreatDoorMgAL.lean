import Derived.Test.YtlhlpamciafocaaGreatDoorMgAJ
import Derived.Test.YtlhlpamciafocaaGreatDoorMgAK
import Derived.Laws.OwnMore
import Derived.Deep.LoopGhost
namespace Go.Proofs.YtlhlpamciafocaaGreatDoor.L
open Go.RowKit
set_option linter.unusedVariables false
set_option linter.unusedSimpArgs false
/-- A row of kids is not the parser's own yet. -/
def XA (Nb : Nat → Prop) (kv : Value) : Nat → Prop := fun k => Nb k ∨ kv.ownBlock = some k
theorem PM.less {pb B : Nat} {Nb : Nat → Prop} {tv : Value} {T : List Tok} {W : World} {s : PS} {v o : Value} {ks : Nat → Value} {kv : Value} (h : PM pb B (XA Nb kv) tv T W s v o ks) : PM pb B Nb tv T W s v o ks :=
  ⟨h.box, h.tok, h.tlt, h.parts, h.offs, h.pbB, h.nx, h.ns, h.tl, h.fin, h.apart, ⟨fun j hj k hk hn => h.apx.kx j hj k hk (Or.inl hn), fun k hk hn => h.apx.ox k hk (Or.inl hn), fun k hk => h.apx.xl k (Or.inl hk), h.apx.two⟩⟩
theorem PM.more {pb B : Nat} {Nb : Nat → Prop} {tv : Value} {T : List Tok} {W : World} {s : PS} {v o : Value} {ks : Nat → Value} {kv : Value} (h : PM pb B Nb tv T W s v o ks) (h1 : ∀ k, kv.ownBlock = some k → k < W.heap.size) (h2 : ∀ k, kv.ownBlock = some k → o.ownBlock ≠ some k) (h3 : ∀ j, j < s.ps.length → ∀ k, kv.ownBlock = some k → (ks j).ownBlock ≠ some k) : PM pb B (XA Nb kv) tv T W s v o ks :=
  ⟨h.box, h.tok, h.tlt, h.parts, h.offs, h.pbB, h.nx, h.ns, h.tl, h.fin, h.apart, ⟨fun j hj k hk hn => hn.elim (h.apx.kx j hj k hk) (fun e => h3 j hj k e hk), fun k hk hn => hn.elim (h.apx.ox k hk) (fun e => h2 k e hk), fun k hk => hk.elim (h.apx.xl k) (h1 k), h.apx.two⟩⟩
theorem PM.xa {pb B : Nat} {Nb : Nat → Prop} {tv : Value} {T : List Tok} {W : World} {s : PS} {v o : Value} {ks : Nat → Value} {kv : Value} (h : PM pb B (XA Nb kv) tv T W s v o ks) {k : Nat} (hk : kv.ownBlock = some k) : k < W.heap.size ∧ o.ownBlock ≠ some k ∧ ∀ j, j < s.ps.length → (ks j).ownBlock ≠ some k :=
  ⟨h.apx.xl k (Or.inr hk), fun e => h.apx.ox k e (Or.inr hk), fun j hj e => h.apx.kx j hj k e (Or.inr hk)⟩
/-- A row that was laid just now. -/
theorem PM.fresh {pb B : Nat} {Nb : Nat → Prop} {tv : Value} {T : List Tok} {W : World} {s : PS} {v o : Value} {ks : Nat → Value} (h : PM pb B Nb tv T W s v o ks) (ob : Obj) (n c : Nat) : PM pb B (XA Nb (.slice (some ⟨W.heap.size, 0, none⟩) n c)) tv T (W.alloc ob) s v o ks := by
  have hb : Below W.heap.size W (W.alloc ob) := belowA W ob
  refine (h.low hb).more (fun k hk => ?_) (fun k hk e => ?_) (fun j hj k hk e => ?_)
  · injection hk with hk
    subst hk
    simp
  · injection hk with hk
    subst hk
    exact Nat.lt_irrefl _ (row_at h.offs e).2.1
  · injection hk with hk
    subst hk
    exact Nat.lt_irrefl _ (row_at (h.parts.kids j hj) e).2.1
theorem put1_any {pb B : Nat} {Nb : Nat → Prop} {tv : Value} {T : List Tok} {W : World} {s : PS} {v o : Value} {ks : Nat → Value} {kv : Value} (h : PM pb B (XA Nb kv) tv T W s v o ks) (p : Pt) (hkv : OwnI W B kv p.kids) (hkx : ∀ k, kv.ownBlock = some k → ¬ Nb k) (off : Int) (hl : s.ps.length ≤ 100000) (hlo : s.os.length ≤ 100000) :
    Calls Tryz.prog 73 #[.pointer (some ⟨pb, 0, none⟩), .agg #[.int .i64 p.kind, .string p.text, .int .i64 p.num, kv], .int .i64 off] W fun e W' => Po pb B Nb tv T (fun k => .int .i64 k) (putP s p off) W v o e W' :=
  put_any h.less p kv hkv (fun k hk => (h.xa hk).2.1) hkx (fun j hj k hk => (h.xa hk).2.2 j hj) off hl hlo
/-- A kid alone, in a row that was laid just now. -/
theorem putk_any {pb B : Nat} {Nb : Nat → Prop} {tv : Value} {T : List Tok} {W : World} {s : PS} {v o : Value} {ks : Nat → Value} (h : PM pb B Nb tv T W s v o ks) (kd : Int) (t : ByteArray) (nu : Int) (k : Int) (off : Int) (hl : s.ps.length ≤ 100000) (hlo : s.os.length ≤ 100000) :
    Calls Tryz.prog 73 #[.pointer (some ⟨pb, 0, none⟩), .agg #[.int .i64 kd, .string t, .int .i64 nu, .slice (some ⟨W.heap.size, 0, none⟩) 1 1], .int .i64 off] (W.alloc (.cells #[.int .i64 k] 3)) fun e W' => Po pb B Nb tv T (fun k => .int .i64 k) (putP s ⟨kd, t, nu, [k]⟩ off) (W.alloc (.cells #[.int .i64 k] 3)) v o e W' :=
  put1_any (h.fresh _ 1 1) ⟨kd, t, nu, [k]⟩ (World.ownsRow_lit W #[.int .i64 k] 1 (Nat.le_trans h.pbB (Nat.le_of_lt (lt_blk h.box))) (by decide) rfl) (fun j hj hn => (by injection hj with hj; subst hj; have := h.apx.xl _ hn; simp at this)) off hl hlo
/-- What a state of the parser keeps. -/
def Inv (s : PS) : Prop := s.ps.length ≤ s.nx ∧ s.os.length = s.ps.length
theorem Inv.gn {d j k : Nat} {a b : PS} (h : Inv a) (g : Gn d j k a b) : Inv b := ⟨by have := h.1; have := g.ps; have := g.nx; omega, by have := h.2; have := g.os; omega⟩
theorem Inv.l {pb B : Nat} {Nb : Nat → Prop} {tv : Value} {T : List Tok} {W : World} {s : PS} {v o : Value} {ks : Nat → Value} (h : Inv s) (p : PM pb B Nb tv T W s v o ks) : s.ps.length ≤ 100000 ∧ s.os.length ≤ 100000 := ⟨by have := h.1; have := p.nx; have := p.tl; omega, by have := h.1; have := h.2; have := p.nx; have := p.tl; omega⟩
/-- A function of the parser gives r, from the place lo on. -/
def Ct (pb B : Nat) (tv : Value) (T : List Tok) (f : Nat) (r : PS → PRes Int) (lo : Nat) : Prop :=
  ∀ (Nb : Nat → Prop) (W : World) (s : PS) (v o : Value) (ks : Nat → Value), PM pb B Nb tv T W s v o ks → Inv s → lo ≤ s.nx → Calls Tryz.prog f #[.pointer (some ⟨pb, 0, none⟩)] W fun e W' => Po pb B Nb tv T (fun k => .int .i64 k) (r s) W v o e W'
theorem Ct.up {pb B : Nat} {tv : Value} {T : List Tok} {f : Nat} {r : PS → PRes Int} {lo hi : Nat} (h : Ct pb B tv T f r lo) (hl : lo ≤ hi) : Ct pb B tv T f r hi := fun Nb W s v o ks hp hi2 h2 => h Nb W s v o ks hp hi2 (Nat.le_trans hl h2)
/-- A row of kids that grows: only its own block and new ones. -/
theorem PM.grown {pb B : Nat} {Nb : Nat → Prop} {tv : Value} {T : List Tok} {W W' : World} {s : PS} {v o : Value} {ks : Nat → Value} {kv kv' : Value} {kl : List Int} (h : PM pb B (XA Nb kv) tv T W s v o ks) (hkv : OwnI W B kv kl) (hg : W.grownBy W' kv.ownBlock) (hw : kv'.ownBlock = kv.ownBlock ∨ kv'.ownBlock = some W.heap.size) (hn : ∀ k, kv'.ownBlock = some k → k < W'.heap.size) : PM pb B (XA Nb kv') tv T W' s v o ks := by
  have key : ∀ {e : TypeId} {base size n : Nat} {u : Value} {xs : List Value}, (∀ k, u.ownBlock = some k → kv.ownBlock ≠ some k) → W.ownsRow base e size u n xs → W'.ownsRow base e size u n xs := by
    intro e base size n u xs he hr
    refine row_kept hr (fun k hkk => hg.block k (row_at hr hkk).2.1 (fun e2 => he k hkk e2.symm))
  have l1 : ∀ k, kv.ownBlock = some k → o.ownBlock ≠ some k := fun k hk => (h.xa hk).2.1
  have l2 : ∀ j, j < s.ps.length → ∀ k, kv.ownBlock = some k → (ks j).ownBlock ≠ some k := fun j hj k hk => (h.xa hk).2.2 j hj
  have hP : PM pb B Nb tv T W' s v o ks := by
    refine ⟨(hg.block pb (lt_blk h.box) (fun e => type_box hkv h.box (by decide) e.symm rfl)).trans h.box, key (fun k hk e => type_ne hkv h.tok (by decide) e hk) h.tok, h.tlt, ⟨key (fun k hk e => type_ne hkv h.parts.row (by decide) e hk) h.parts.row, fun j hj => key (fun k hk e => l2 j hj k e hk) (h.parts.kids j hj)⟩, key (fun k hk e => l1 k e hk) h.offs, h.pbB, h.nx, h.ns, h.tl, h.fin, h.apart, h.less.apx.size (fun k hk => Nat.lt_of_lt_of_le hk hg.size)⟩
  refine hP.more hn (fun k hk e => ?_) (fun j hj k hk e => ?_)
  · rcases hw with h5 | h5
    · exact l1 k (h5 ▸ hk) e
    · have := (row_at h.offs e).2.1
      have h6 : some k = some W.heap.size := hk.symm.trans h5
      injection h6 with h6
      omega
  · rcases hw with h5 | h5
    · exact l2 j hj k (h5 ▸ hk) e
    · have := (row_at (h.parts.kids j hj) e).2.1
      have h6 : some k = some W.heap.size := hk.symm.trans h5
      injection h6 with h6
      omega
end Go.Proofs.YtlhlpamciafocaaGreatDoor.L
namespace Go.Proofs.YtlhlpamciafocaaGreatDoor.L
open Go.RowKit
set_option linter.unusedVariables false
set_option linter.unusedSimpArgs false
/-- One kid is put behind a row of kids. -/
theorem app_kid {ops : Array Oper} {rest : List Oper} {o : Oper} {a : Act} {Q : Exit → Act → World → Prop} {W : World} {B : Nat} {kv : Value} {kl : List Int} (hgd : o.guard = none) (s x : Operand)
    (ho : o.op = .call { callee := .builtin .append, args := #[s, x], argTypes := #[34, 34] }) (k : Int) (hs : a.eval s = kv) (hx : a.eval x = .slice (some ⟨W.heap.size, 0, none⟩) 1 1) (hown : OwnI W B kv kl) (hl : kl.length ≤ 100000) (hB : B ≤ W.heap.size)
    (h : ∀ kv' W', OwnI W' B kv' (kl ++ [k]) → (W.alloc (.cells #[.int .i64 k] 3)).grownBy W' kv.ownBlock → (kv'.ownBlock = kv.ownBlock ∨ kv'.ownBlock = some (W.alloc (.cells #[.int .i64 k] 3)).heap.size) → wpList Tryz.prog ops Q rest (a.put o.dst kv') W') : wpList Tryz.prog ops Q (o :: rest) a (W.alloc (.cells #[.int .i64 k] 3)) := by
  obtain ⟨i3, hi3, hz03, hz13, hz23⟩ := info_parts info3
  refine Ap.wpList_append_stays _ hgd s x 34 ho B 3 i3 (.int .i64 0) 1 8 Tryz.underlying34 hi3 hz03 hz13 hz23 rfl (by decide) kv kl.length (kl.map (Value.int .i64)) hs (row_kept hown (fun k hk => (belowA W _).block k (row_at hown hk).2.1)) ⟨W.heap.size, 0, none⟩ 1 1 [.int .i64 k] hx rfl ?_ ?_ (by unfold maxLen; omega) (by omega) (Nat.le_trans hB (belowA W _).size) (by decide) ?_
  · intro j u hu
    rw [Go.WideShapes.add_plain]
    show (W.alloc (.cells #[.int .i64 k] 3)).cell? ⟨W.heap.size, 0 + j, none⟩ = _
    rw [Nat.zero_add, cell_of_row _ _ j _ _ _ (heap_alloc_new W (.cells #[.int .i64 k] 3)), List.getElem?_toArray]
    exact hu
  · intro u hu
    simp only [List.mem_cons, List.not_mem_nil, or_false] at hu
    subst hu
    rfl
  · intro v' w' h1 h2 _ h4
    refine h v' w' ?_ h2 h4
    unfold OwnI
    rw [List.length_append, List.map_append]
    exact h1
theorem own_lt {W : World} {B : Nat} {kv : Value} {kl : List Int} (h : OwnI W B kv kl) : ∀ k, kv.ownBlock = some k → k < W.heap.size := fun k hk => (row_at h hk).2.1
/-- The row of kids has grown, seen from the parser. -/
theorem PM.kid {pb B : Nat} {Nb : Nat → Prop} {tv : Value} {T : List Tok} {W : World} {s : PS} {v o : Value} {ks : Nat → Value} {W' : World} {kv kv' : Value} {kl kl' : List Int} {k : Int} (h : PM pb B (XA Nb kv) tv T W s v o ks) (hkv : OwnI W B kv kl) (hg : (W.alloc (.cells #[.int .i64 k] 3)).grownBy W' kv.ownBlock) (hw : kv'.ownBlock = kv.ownBlock ∨ kv'.ownBlock = some (W.alloc (.cells #[.int .i64 k] 3)).heap.size) (hn : OwnI W' B kv' kl') : PM pb B (XA Nb kv') tv T W' s v o ks :=
  (h.low (belowA W _)).grown (row_kept hkv (fun k hk => (belowA W _).block k (row_at hkv hk).2.1)) hg hw (own_lt hn)
theorem Fp.kid {pb : Nat} {W0 W W' : World} {v0 o0 v o : Value} {kv : Value} {k : Int} (h : Fp pb W0 v0 o0 W v o) (hk : ∀ k, kv.ownBlock = some k → W0.heap.size ≤ k) (hg : (W.alloc (.cells #[.int .i64 k] 3)).grownBy W' kv.ownBlock) : Fp pb W0 v0 o0 W' v o := by
  have h1 := h.below (belowA W (.cells #[.int .i64 k] 3))
  exact ⟨hg.os.trans h1.os, hg.tape.trans h1.tape, hg.output.trans h1.output, Nat.le_trans h1.size hg.size, fun j hj h2 h3 h4 => (hg.block j (Nat.lt_of_lt_of_le hj h1.size) (fun e => (by have := hk j e.symm; omega))).trans (h1.block j hj h2 h3 h4), h1.vb, h1.ob⟩
theorem kb_kid {W0 W : World} {kv kv' : Value} {k : Int} (hs : W0.heap.size ≤ W.heap.size) (hk : ∀ k, kv.ownBlock = some k → W0.heap.size ≤ k) (hw : kv'.ownBlock = kv.ownBlock ∨ kv'.ownBlock = some (W.alloc (.cells #[.int .i64 k] 3)).heap.size) : ∀ k, kv'.ownBlock = some k → W0.heap.size ≤ k := by
  intro j hj
  rcases hw with e | e
  · exact hk j (e ▸ hj)
  · rw [e] at hj
    injection hj with hj
    have := (belowA W (.cells #[.int .i64 k] 3)).size
    omega
theorem kb_new {W0 W : World} (n c : Nat) (hs : W0.heap.size ≤ W.heap.size) : ∀ k, (Value.slice (some ⟨W.heap.size, 0, none⟩) n c).ownBlock = some k → W0.heap.size ≤ k := by
  intro j hj
  injection hj with hj
  subst hj
  exact hs
/-- A row while it is read: what is left to be done gives R. -/
structure RI (pb B : Nat) (Nb : Nat → Prop) (tv : Value) (T : List Tok) (L : Nat → List Int → PS → PRes (List Int)) (F : List Int → PS → PRes Int) (R : PRes Int) (lo : Nat) (k0 : Int) (W : World) (v o : Value) (n : Nat) (w : World) (s' : PS) (v' o' : Value) (ks' : Nat → Value) (kv : Value) (kl : List Int) : Prop where
  pm : PM pb B (XA Nb kv) tv T w s' v' o' ks'
  inv : Inv s'
  lo : lo ≤ s'.nx
  own : OwnI w B kv kl
  fp : Fp pb W v o w v' o'
  kb : ∀ k, kv.ownBlock = some k → W.heap.size ≤ k
  eq : bnd (L n kl s') F = R
  fu : T.length - s'.nx ≤ n
  len : kl.length ≤ s'.nx
  hd : kl.head? = some k0
theorem isM_kind {T : List Tok} {s : PS} {m : List UInt8} (h : isM T s m = true) : (tk T s.nx).kind ≠ 0 := by
  unfold isM at h
  simp at h
  omega
theorem kid0 {W : World} {B : Nat} {kv : Value} {kl : List Int} {k0 : Int} (h : OwnI W B kv kl) (h0 : kl.head? = some k0) (h1 : kl.length = 1) : ∃ g c, kv = .slice (some ⟨g, 0, none⟩) 1 c ∧ W.cell? ⟨g, 0, none⟩ = some (.int .i64 k0) ∧ kl = [k0] := by
  match kl, h1, h0 with
  | [x], _, h0 =>
    obtain rfl : x = k0 := by simpa using h0
    rcases h.2 with ⟨_, hn⟩ | ⟨g, cap, cur, e, _⟩
    · simp at hn
    · refine ⟨g, cap, e, ?_, rfl⟩
      subst e
      exact World.ownsRow.cellAt h 0 (by simp)
end Go.Proofs.YtlhlpamciafocaaGreatDoor.L
namespace Go.Proofs.YtlhlpamciafocaaGreatDoor.L
open Go.RowKit
set_option linter.unusedVariables false
set_option linter.unusedSimpArgs false
set_option maxHeartbeats 4000000 in
set_option maxRecDepth 100000 in
theorem row_conj {pb B : Nat} {Nb : Nat → Prop} {tv : Value} {T : List Tok} {W : World} {s : PS} {v o : Value} {ks : Nat → Value} {r : PS → PRes Int} (ho : Ct pb B tv T 54 r s.nx) (hg : Gone r) (h : PM pb B Nb tv T W s v o ks) (hi : Inv s) (kd : Int) (m : ByteArray) :
    Calls Tryz.prog 53 #[.pointer (some ⟨pb, 0, none⟩), .int .i64 kd, .string m, .func (.func 54) #[.pointer (some ⟨pb, 0, none⟩)] #[]] W fun e W' => Po pb B Nb tv T (fun k => .int .i64 k) (rowP T r kd m.toList s) W v o e W' := by
  unfold rowP
  have HP := hid h
  have HI := hid hi
  have HC := hid ho
  have HG := hid hg
  clear h hi ho hg
  cases h1 : r s with
  | error q =>
    obtain ⟨c, x⟩ := q
    have HR := hid h1
    rw [bnd_bad]
    clear h1
    go_enter Tryz.func53, Tryz.ntmps53
    go_wp2_with fail
    refine (HC.out Nb _ _ _ _ _ HP.out HI.out (Nat.le_refl _)).mono ?_
    intro e W1 hpo
    rw [HR.out] at hpo
    obtain ⟨N, rfl, hf, hb⟩ := po_bad hpo
    have HF := hid hf
    have HBD := hid hb
    clear hf hb hpo
    go_wp2_with fail
    exact ⟨rfl, N, rfl, HF.out, HBD.out⟩
  | ok q =>
    obtain ⟨k0, s1⟩ := q
    have HR := hid h1
    have HG1 := hid (HG.out _ _ _ h1)
    rw [bnd_ok]
    clear h1
    obtain ⟨R, hR⟩ : ∃ R, R = bnd (rowsP T r m.toList 4097 [k0] s1) (fun ks s2 => if ks.length = 1 then .ok (k0, s2) else putP s2 ⟨kd, ⟨#[]⟩, 0, ks⟩ ((tk T s1.nx).a : Int)) := ⟨_, rfl⟩
    have HRR := hid hR.symm
    rw [← hR]
    clear hR
    obtain ⟨t, ht⟩ : ∃ t, t = tk T s1.nx := ⟨_, rfl⟩
    have HT := hid ht
    rw [← ht] at HRR
    clear ht
    go_enter Tryz.func53, Tryz.ntmps53
    go_wp2_with fail
    refine (HC.out Nb _ _ _ _ _ HP.out HI.out (Nat.le_refl _)).mono ?_
    intro e W1 hpo
    rw [HR.out] at hpo
    obtain ⟨rfl, v1, o1, ks1, hp, hf⟩ := po_ok hpo
    have HP1 := hid (hp.fresh (.cells #[.int .i64 k0] 3) 1 1)
    have HK1 := hid (show OwnI (W1.alloc (.cells #[.int .i64 k0] 3)) B (.slice (some ⟨W1.heap.size, 0, none⟩) 1 1) [k0] from World.ownsRow_lit W1 #[.int .i64 k0] 1 (Nat.le_trans hp.pbB (Nat.le_of_lt (lt_blk hp.box))) (by decide) rfl)
    have HB1 := hid (kb_new (W0 := W) (W := W1) 1 1 hf.size)
    have HF1 := hid (hf.below (belowA W1 (.cells #[.int .i64 k0] 3)))
    clear hp hf hpo
    have HTK := hid (fun (Z : World) (hz : PM pb B (XA Nb (.slice (some ⟨W1.heap.size, 0, none⟩) 1 1)) tv T Z s1 v1 o1 ks1) => token_any hz)
    rw [← HT.out] at HTK
    unfold L.tv at HTK
    have rf3 := run_f3
    go_wp2_with fail
    refine (HTK.out _ HP1.out).mono ?_
    rintro e W2 ⟨rfl, l⟩
    have HP2 := hid (HP1.out.low l)
    have HK2 := hid (show OwnI W2 B (.slice (some ⟨W1.heap.size, 0, none⟩) 1 1) [k0] from row_kept HK1.out (fun k hk => l.block k (row_at HK1.out hk).2.1))
    have HF2 := hid (HF1.out.below l)
    clear l HP1 HK1 HF1 HTK
    generalize W1.heap.size = b1 at *
    go_wp2_with fail
    clear rf3
    go_loopg [9] 4097 (fun n kv wr => ∃ s' v' o' ks' kl, Hid (RI pb B Nb tv T (rowsP T r m.toList) (fun ks s2 => if ks.length = 1 then .ok (k0, s2) else putP s2 ⟨kd, ⟨#[]⟩, 0, ks⟩ (t.a : Int)) R s.nx k0 W v o n wr s' v' o' ks' kv kl))
    case atStart => exact ⟨s1, v1, o1, ks1, [k0], hid ⟨HP2.out, HI.out.gn HG1.out, by have := HG1.out.nx; omega, HK2.out, HF2.out, HB1.out, HRR.out, by have := HP2.out.tl; omega, by have := HG1.out.nx; simp; omega, rfl⟩⟩
    case round =>
      obtain ⟨s', v', o', ks', kl, HI2⟩ := hrel
      have hgk : gk ≠ 0 := by have h1 := HI2.out.fu; have h2 := HI2.out.pm.nx; omega
      obtain ⟨n, rfl⟩ := Nat.exists_eq_succ_of_ne_zero hgk
      clear hgk
      cases hM : isM T s' m.toList
      · have HM := hid hM
        have HEQ := hid HI2.out.eq
        unfold rowsP at HEQ
        rw [hM, if_neg (by decide), bnd_ok] at HEQ
        clear hM
        obtain ⟨ka, kc, hkf⟩ := own_form HI2.out.own
        obtain ⟨L, hL⟩ : ∃ L, L = kl.length := ⟨_, rfl⟩
        rw [← hL] at hkf HEQ
        have HL := hid hL
        subst hkf
        have hLm : L ≤ maxLen := by have h1 := HI2.out.len; have h2 := HI2.out.pm.nx; have h3 := HI2.out.pm.tl; unfold maxLen; omega
        clear hL
        by_cases h1 : L = 1
        · rw [if_pos h1] at HEQ
          obtain ⟨g, c, e1, e2, e3⟩ := kid0 HI2.out.own HI2.out.hd (HL.out.symm.trans h1)
          have HC0 := hid e2
          injection e1 with e4 e5 e6
          subst e4 e6
          have d1 : ((L : Int) == 1) = true := by simp [h1]
          have hlp : (0 : Int) < (L : Int) := by omega
          clear h1 e2 e3 e5
          go_wp2_with fail
          refine (at_any HI2.out.pm m).mono ?_
          rintro e W3 ⟨rfl, l⟩
          rw [HM.out]
          have HP3 := hid (HI2.out.pm.less.low l)
          have HF3 := hid (HI2.out.fp.below l)
          have hc0 : W3.cell? ⟨g, 0, none⟩ = some (.int .i64 k0) := (l.cell (p := ⟨g, 0, none⟩) (own_lt HI2.out.own g rfl)).trans HC0.out
          clear l
          go_wp2_with fail
          go_ret
          rw [← HEQ.out]
          exact ⟨rfl, v', o', ks', HP3.out, HF3.out⟩
        · rw [if_neg h1] at HEQ
          have d1 : ((L : Int) == 1) = false := by simp; omega
          clear h1
          go_wp2_with fail
          refine (at_any HI2.out.pm m).mono ?_
          rintro e W3 ⟨rfl, l⟩
          rw [HM.out]
          have HP3 := hid (HI2.out.pm.low l)
          have HF3 := hid (HI2.out.fp.below l)
          have HK3 := hid (show OwnI W3 B (.slice ka L kc) kl from row_kept HI2.out.own (fun k hk => l.block k (row_at HI2.out.own hk).2.1))
          clear l
          have HLL := hid (HI2.out.inv.l HP3.out)
          have HNB := hid (show ∀ k, (Value.slice ka L kc).ownBlock = some k → ¬ Nb k from fun k hk hn => (by have h1 := HI2.out.kb k hk; have h2 := HP.out.apx.xl k hn; omega))
          go_wp2_with fail
          refine (put1_any HP3.out ⟨kd, ⟨#[]⟩, 0, kl⟩ HK3.out HNB.out _ HLL.out.1 HLL.out.2).mono ?_
          intro e U hpo
          have HPO := hid hpo
          rw [HEQ.out] at HPO
          clear hpo
          cases R with
          | error q =>
            obtain ⟨c, x⟩ := q
            obtain ⟨N, rfl, hf, hb⟩ := po_bad HPO.out
            have HFL := hid hf
            have HBD := hid ((HP.out.below HF3.out).trans hb)
            clear hf hb HPO
            go_wp2_with fail
            exact ⟨rfl, N, rfl, HFL.out, HBD.out⟩
          | ok q =>
            obtain ⟨z, s9⟩ := q
            obtain ⟨rfl, v9, o9, ks9, hp, hf⟩ := po_ok HPO.out
            have HPU := hid hp
            have HFU := hid (HF3.out.trans hf)
            clear hp hf HPO
            go_wp2_with fail
            go_ret
            exact ⟨rfl, v9, o9, ks9, HPU.out, HFU.out⟩
      · have HM := hid hM
        have HEQ := hid HI2.out.eq
        unfold rowsP at HEQ
        rw [hM, if_pos rfl] at HEQ
        have HKD := hid (isM_kind hM)
        clear hM
        cases h2 : r (adv s') with
        | error q =>
          obtain ⟨c, x⟩ := q
          have HR2 := hid h2
          rw [h2, bnd_bad, bnd_bad] at HEQ
          clear h2
          go_wp2_with fail
          refine (at_any HI2.out.pm m).mono ?_
          rintro e W3 ⟨rfl, l⟩
          rw [HM.out]
          have HP3 := hid (HI2.out.pm.low l)
          have HF3 := hid (HI2.out.fp.below l)
          clear l
          go_wp2_with fail
          refine (take_any HP3.out HKD.out).mono ?_
          rintro e W4 ⟨rfl, hp, hf⟩
          have HP4 := hid hp
          have HF4 := hid (HF3.out.trans hf)
          clear hp hf
          go_wp2_with fail
          refine (HC.out (XA Nb u9) _ _ _ _ _ HP4.out (HI2.out.inv.gn (gn_adv s')) (Nat.le_trans HI2.out.lo (Nat.le_succ _))).mono ?_
          intro e W5 hpo
          rw [HR2.out] at hpo
          obtain ⟨N, rfl, hf, hb⟩ := po_bad hpo
          have HFL := hid hf
          have HBD := hid ((HP.out.below HF4.out).trans hb)
          clear hf hb hpo
          go_wp2_with fail
          rw [← HEQ.out]
          exact ⟨rfl, N, rfl, HFL.out, HBD.out⟩
        | ok q =>
          obtain ⟨k5, s5⟩ := q
          have HR2 := hid h2
          have HG5 := hid (HG.out _ _ _ h2)
          rw [h2, bnd_ok] at HEQ
          clear h2
          go_wp2_with fail
          refine (at_any HI2.out.pm m).mono ?_
          rintro e W3 ⟨rfl, l⟩
          rw [HM.out]
          have HP3 := hid (HI2.out.pm.low l)
          have HF3 := hid (HI2.out.fp.below l)
          have HK3 := hid (show OwnI W3 B u9 kl from row_kept HI2.out.own (fun k hk => l.block k (row_at HI2.out.own hk).2.1))
          clear l
          go_wp2_with fail
          refine (take_any HP3.out HKD.out).mono ?_
          rintro e W4 ⟨rfl, hp, hf⟩
          have HP4 := hid hp
          have HK4 := hid (show OwnI W4 B u9 kl from row_kept HK3.out (fun k hk => hf.block k (own_lt HK3.out k hk) (type_box HK3.out HP3.out.box (by decide) hk) (type_ne HK3.out HP3.out.parts.row (by decide) hk) (HP3.out.xa hk).2.1))
          have HF4 := hid (HF3.out.trans hf)
          clear hp hf
          go_wp2_with fail
          refine (HC.out (XA Nb u9) _ _ _ _ _ HP4.out (HI2.out.inv.gn (gn_adv s')) (Nat.le_trans HI2.out.lo (Nat.le_succ _))).mono ?_
          intro e W5 hpo
          rw [HR2.out] at hpo
          obtain ⟨rfl, v5, o5, ks5, hp, hf⟩ := po_ok hpo
          have HP5 := hid hp
          have HK5 := hid (show OwnI W5 B u9 kl from row_kept HK4.out (fun k hk => hf.block k (own_lt HK4.out k hk) (type_box HK4.out HP4.out.box (by decide) hk) (type_ne HK4.out HP4.out.parts.row (by decide) hk) (HP4.out.xa hk).2.1))
          have HF5 := hid (HF4.out.trans hf)
          clear hp hf hpo
          have HLN := hid (show kl.length ≤ 100000 by have h1 := HI2.out.len; have h2 := HI2.out.pm.nx; have h3 := HI2.out.pm.tl; omega)
          have HBS := hid (show B ≤ W5.heap.size from Nat.le_trans HP5.out.pbB (Nat.le_of_lt (lt_blk HP5.out.box)))
          go_wp2_with (at_builtin; refine app_kid rfl _ _ rfl k5 rfl rfl HK5.out HLN.out HBS.out ?_; intro kv6 W6 ho hg hw; have HK6 := hid ho; have HP6 := hid (HP5.out.kid HK5.out hg hw ho); have HF6 := hid (HF5.out.kid HI2.out.kb hg); have HB6 := hid (kb_kid HF5.out.size HI2.out.kb hw); clear ho hg hw)
          go_roundg n
          case measure => omega
          case rel => exact ⟨s5, v5, o5, ks5, kl ++ [k5], hid ⟨HP6.out, HI2.out.inv.gn ((gn_adv s').trans HG5.out), by have h1 := HI2.out.lo; have h2 := HG5.out.nx; simp only [adv] at h2; omega, HK6.out, HF6.out, HB6.out, HEQ.out, by have h1 := HI2.out.fu; have h2 := HG5.out.nx; simp only [adv] at h2; omega, by have h1 := HI2.out.len; have h2 := HG5.out.nx; simp only [adv] at h2; simp; omega, by have h1 := HI2.out.hd; cases kl; (cases h1); exact h1⟩⟩
end Go.Proofs.YtlhlpamciafocaaGreatDoor.L
namespace Go.Proofs.YtlhlpamciafocaaGreatDoor.L
open Go.RowKit
set_option linter.unusedVariables false
set_option linter.unusedSimpArgs false
set_option maxHeartbeats 4000000 in
set_option maxRecDepth 100000 in
theorem row_unit {pb B : Nat} {Nb : Nat → Prop} {tv : Value} {T : List Tok} {W : World} {s : PS} {v o : Value} {ks : Nat → Value} {r : PS → PRes Int} (ho : Ct pb B tv T 74 r s.nx) (hg : Gone r) (h : PM pb B Nb tv T W s v o ks) (hi : Inv s) (kd : Int) (m : ByteArray) :
    Calls Tryz.prog 53 #[.pointer (some ⟨pb, 0, none⟩), .int .i64 kd, .string m, .func (.func 74) #[.pointer (some ⟨pb, 0, none⟩)] #[]] W fun e W' => Po pb B Nb tv T (fun k => .int .i64 k) (rowP T r kd m.toList s) W v o e W' := by
  unfold rowP
  have HP := hid h
  have HI := hid hi
  have HC := hid ho
  have HG := hid hg
  clear h hi ho hg
  cases h1 : r s with
  | error q =>
    obtain ⟨c, x⟩ := q
    have HR := hid h1
    rw [bnd_bad]
    clear h1
    go_enter Tryz.func53, Tryz.ntmps53
    go_wp2_with fail
    refine (HC.out Nb _ _ _ _ _ HP.out HI.out (Nat.le_refl _)).mono ?_
    intro e W1 hpo
    rw [HR.out] at hpo
    obtain ⟨N, rfl, hf, hb⟩ := po_bad hpo
    have HF := hid hf
    have HBD := hid hb
    clear hf hb hpo
    go_wp2_with fail
    exact ⟨rfl, N, rfl, HF.out, HBD.out⟩
  | ok q =>
    obtain ⟨k0, s1⟩ := q
    have HR := hid h1
    have HG1 := hid (HG.out _ _ _ h1)
    rw [bnd_ok]
    clear h1
    obtain ⟨R, hR⟩ : ∃ R, R = bnd (rowsP T r m.toList 4097 [k0] s1) (fun ks s2 => if ks.length = 1 then .ok (k0, s2) else putP s2 ⟨kd, ⟨#[]⟩, 0, ks⟩ ((tk T s1.nx).a : Int)) := ⟨_, rfl⟩
    have HRR := hid hR.symm
    rw [← hR]
    clear hR
    obtain ⟨t, ht⟩ : ∃ t, t = tk T s1.nx := ⟨_, rfl⟩
    have HT := hid ht
    rw [← ht] at HRR
    clear ht
    go_enter Tryz.func53, Tryz.ntmps53
    go_wp2_with fail
    refine (HC.out Nb _ _ _ _ _ HP.out HI.out (Nat.le_refl _)).mono ?_
    intro e W1 hpo
    rw [HR.out] at hpo
    obtain ⟨rfl, v1, o1, ks1, hp, hf⟩ := po_ok hpo
    have HP1 := hid (hp.fresh (.cells #[.int .i64 k0] 3) 1 1)
    have HK1 := hid (show OwnI (W1.alloc (.cells #[.int .i64 k0] 3)) B (.slice (some ⟨W1.heap.size, 0, none⟩) 1 1) [k0] from World.ownsRow_lit W1 #[.int .i64 k0] 1 (Nat.le_trans hp.pbB (Nat.le_of_lt (lt_blk hp.box))) (by decide) rfl)
    have HB1 := hid (kb_new (W0 := W) (W := W1) 1 1 hf.size)
    have HF1 := hid (hf.below (belowA W1 (.cells #[.int .i64 k0] 3)))
    clear hp hf hpo
    have HTK := hid (fun (Z : World) (hz : PM pb B (XA Nb (.slice (some ⟨W1.heap.size, 0, none⟩) 1 1)) tv T Z s1 v1 o1 ks1) => token_any hz)
    rw [← HT.out] at HTK
    unfold L.tv at HTK
    have rf3 := run_f3
    go_wp2_with fail
    refine (HTK.out _ HP1.out).mono ?_
    rintro e W2 ⟨rfl, l⟩
    have HP2 := hid (HP1.out.low l)
    have HK2 := hid (show OwnI W2 B (.slice (some ⟨W1.heap.size, 0, none⟩) 1 1) [k0] from row_kept HK1.out (fun k hk => l.block k (row_at HK1.out hk).2.1))
    have HF2 := hid (HF1.out.below l)
    clear l HP1 HK1 HF1 HTK
    generalize W1.heap.size = b1 at *
    go_wp2_with fail
    clear rf3
    go_loopg [9] 4097 (fun n kv wr => ∃ s' v' o' ks' kl, Hid (RI pb B Nb tv T (rowsP T r m.toList) (fun ks s2 => if ks.length = 1 then .ok (k0, s2) else putP s2 ⟨kd, ⟨#[]⟩, 0, ks⟩ (t.a : Int)) R s.nx k0 W v o n wr s' v' o' ks' kv kl))
    case atStart => exact ⟨s1, v1, o1, ks1, [k0], hid ⟨HP2.out, HI.out.gn HG1.out, by have := HG1.out.nx; omega, HK2.out, HF2.out, HB1.out, HRR.out, by have := HP2.out.tl; omega, by have := HG1.out.nx; simp; omega, rfl⟩⟩
    case round =>
      obtain ⟨s', v', o', ks', kl, HI2⟩ := hrel
      have hgk : gk ≠ 0 := by have h1 := HI2.out.fu; have h2 := HI2.out.pm.nx; omega
      obtain ⟨n, rfl⟩ := Nat.exists_eq_succ_of_ne_zero hgk
      clear hgk
      cases hM : isM T s' m.toList
      · have HM := hid hM
        have HEQ := hid HI2.out.eq
        unfold rowsP at HEQ
        rw [hM, if_neg (by decide), bnd_ok] at HEQ
        clear hM
        obtain ⟨ka, kc, hkf⟩ := own_form HI2.out.own
        obtain ⟨L, hL⟩ : ∃ L, L = kl.length := ⟨_, rfl⟩
        rw [← hL] at hkf HEQ
        have HL := hid hL
        subst hkf
        have hLm : L ≤ maxLen := by have h1 := HI2.out.len; have h2 := HI2.out.pm.nx; have h3 := HI2.out.pm.tl; unfold maxLen; omega
        clear hL
        by_cases h1 : L = 1
        · rw [if_pos h1] at HEQ
          obtain ⟨g, c, e1, e2, e3⟩ := kid0 HI2.out.own HI2.out.hd (HL.out.symm.trans h1)
          have HC0 := hid e2
          injection e1 with e4 e5 e6
          subst e4 e6
          have d1 : ((L : Int) == 1) = true := by simp [h1]
          have hlp : (0 : Int) < (L : Int) := by omega
          clear h1 e2 e3 e5
          go_wp2_with fail
          refine (at_any HI2.out.pm m).mono ?_
          rintro e W3 ⟨rfl, l⟩
          rw [HM.out]
          have HP3 := hid (HI2.out.pm.less.low l)
          have HF3 := hid (HI2.out.fp.below l)
          have hc0 : W3.cell? ⟨g, 0, none⟩ = some (.int .i64 k0) := (l.cell (p := ⟨g, 0, none⟩) (own_lt HI2.out.own g rfl)).trans HC0.out
          clear l
          go_wp2_with fail
          go_ret
          rw [← HEQ.out]
          exact ⟨rfl, v', o', ks', HP3.out, HF3.out⟩
        · rw [if_neg h1] at HEQ
          have d1 : ((L : Int) == 1) = false := by simp; omega
          clear h1
          go_wp2_with fail
          refine (at_any HI2.out.pm m).mono ?_
          rintro e W3 ⟨rfl, l⟩
          rw [HM.out]
          have HP3 := hid (HI2.out.pm.low l)
          have HF3 := hid (HI2.out.fp.below l)
          have HK3 := hid (show OwnI W3 B (.slice ka L kc) kl from row_kept HI2.out.own (fun k hk => l.block k (row_at HI2.out.own hk).2.1))
          clear l
          have HLL := hid (HI2.out.inv.l HP3.out)
          have HNB := hid (show ∀ k, (Value.slice ka L kc).ownBlock = some k → ¬ Nb k from fun k hk hn => (by have h1 := HI2.out.kb k hk; have h2 := HP.out.apx.xl k hn; omega))
          go_wp2_with fail
          refine (put1_any HP3.out ⟨kd, ⟨#[]⟩, 0, kl⟩ HK3.out HNB.out _ HLL.out.1 HLL.out.2).mono ?_
          intro e U hpo
          have HPO := hid hpo
          rw [HEQ.out] at HPO
          clear hpo
          cases R with
          | error q =>
            obtain ⟨c, x⟩ := q
            obtain ⟨N, rfl, hf, hb⟩ := po_bad HPO.out
            have HFL := hid hf
            have HBD := hid ((HP.out.below HF3.out).trans hb)
            clear hf hb HPO
            go_wp2_with fail
            exact ⟨rfl, N, rfl, HFL.out, HBD.out⟩
          | ok q =>
            obtain ⟨z, s9⟩ := q
            obtain ⟨rfl, v9, o9, ks9, hp, hf⟩ := po_ok HPO.out
            have HPU := hid hp
            have HFU := hid (HF3.out.trans hf)
            clear hp hf HPO
            go_wp2_with fail
            go_ret
            exact ⟨rfl, v9, o9, ks9, HPU.out, HFU.out⟩
      · have HM := hid hM
        have HEQ := hid HI2.out.eq
        unfold rowsP at HEQ
        rw [hM, if_pos rfl] at HEQ
        have HKD := hid (isM_kind hM)
        clear hM
        cases h2 : r (adv s') with
        | error q =>
          obtain ⟨c, x⟩ := q
          have HR2 := hid h2
          rw [h2, bnd_bad, bnd_bad] at HEQ
          clear h2
          go_wp2_with fail
          refine (at_any HI2.out.pm m).mono ?_
          rintro e W3 ⟨rfl, l⟩
          rw [HM.out]
          have HP3 := hid (HI2.out.pm.low l)
          have HF3 := hid (HI2.out.fp.below l)
          clear l
          go_wp2_with fail
          refine (take_any HP3.out HKD.out).mono ?_
          rintro e W4 ⟨rfl, hp, hf⟩
          have HP4 := hid hp
          have HF4 := hid (HF3.out.trans hf)
          clear hp hf
          go_wp2_with fail
          refine (HC.out (XA Nb u9) _ _ _ _ _ HP4.out (HI2.out.inv.gn (gn_adv s')) (Nat.le_trans HI2.out.lo (Nat.le_succ _))).mono ?_
          intro e W5 hpo
          rw [HR2.out] at hpo
          obtain ⟨N, rfl, hf, hb⟩ := po_bad hpo
          have HFL := hid hf
          have HBD := hid ((HP.out.below HF4.out).trans hb)
          clear hf hb hpo
          go_wp2_with fail
          rw [← HEQ.out]
          exact ⟨rfl, N, rfl, HFL.out, HBD.out⟩
        | ok q =>
          obtain ⟨k5, s5⟩ := q
          have HR2 := hid h2
          have HG5 := hid (HG.out _ _ _ h2)
          rw [h2, bnd_ok] at HEQ
          clear h2
          go_wp2_with fail
          refine (at_any HI2.out.pm m).mono ?_
          rintro e W3 ⟨rfl, l⟩
          rw [HM.out]
          have HP3 := hid (HI2.out.pm.low l)
          have HF3 := hid (HI2.out.fp.below l)
          have HK3 := hid (show OwnI W3 B u9 kl from row_kept HI2.out.own (fun k hk => l.block k (row_at HI2.out.own hk).2.1))
          clear l
          go_wp2_with fail
          refine (take_any HP3.out HKD.out).mono ?_
          rintro e W4 ⟨rfl, hp, hf⟩
          have HP4 := hid hp
          have HK4 := hid (show OwnI W4 B u9 kl from row_kept HK3.out (fun k hk => hf.block k (own_lt HK3.out k hk) (type_box HK3.out HP3.out.box (by decide) hk) (type_ne HK3.out HP3.out.parts.row (by decide) hk) (HP3.out.xa hk).2.1))
          have HF4 := hid (HF3.out.trans hf)
          clear hp hf
          go_wp2_with fail
          refine (HC.out (XA Nb u9) _ _ _ _ _ HP4.out (HI2.out.inv.gn (gn_adv s')) (Nat.le_trans HI2.out.lo (Nat.le_succ _))).mono ?_
          intro e W5 hpo
          rw [HR2.out] at hpo
          obtain ⟨rfl, v5, o5, ks5, hp, hf⟩ := po_ok hpo
          have HP5 := hid hp
          have HK5 := hid (show OwnI W5 B u9 kl from row_kept HK4.out (fun k hk => hf.block k (own_lt HK4.out k hk) (type_box HK4.out HP4.out.box (by decide) hk) (type_ne HK4.out HP4.out.parts.row (by decide) hk) (HP4.out.xa hk).2.1))
          have HF5 := hid (HF4.out.trans hf)
          clear hp hf hpo
          have HLN := hid (show kl.length ≤ 100000 by have h1 := HI2.out.len; have h2 := HI2.out.pm.nx; have h3 := HI2.out.pm.tl; omega)
          have HBS := hid (show B ≤ W5.heap.size from Nat.le_trans HP5.out.pbB (Nat.le_of_lt (lt_blk HP5.out.box)))
          go_wp2_with (at_builtin; refine app_kid rfl _ _ rfl k5 rfl rfl HK5.out HLN.out HBS.out ?_; intro kv6 W6 ho hg hw; have HK6 := hid ho; have HP6 := hid (HP5.out.kid HK5.out hg hw ho); have HF6 := hid (HF5.out.kid HI2.out.kb hg); have HB6 := hid (kb_kid HF5.out.size HI2.out.kb hw); clear ho hg hw)
          go_roundg n
          case measure => omega
          case rel => exact ⟨s5, v5, o5, ks5, kl ++ [k5], hid ⟨HP6.out, HI2.out.inv.gn ((gn_adv s').trans HG5.out), by have h1 := HI2.out.lo; have h2 := HG5.out.nx; simp only [adv] at h2; omega, HK6.out, HF6.out, HB6.out, HEQ.out, by have h1 := HI2.out.fu; have h2 := HG5.out.nx; simp only [adv] at h2; omega, by have h1 := HI2.out.len; have h2 := HG5.out.nx; simp only [adv] at h2; simp; omega, by have h1 := HI2.out.hd; cases kl; (cases h1); exact h1⟩⟩
end Go.Proofs.YtlhlpamciafocaaGreatDoor.L
