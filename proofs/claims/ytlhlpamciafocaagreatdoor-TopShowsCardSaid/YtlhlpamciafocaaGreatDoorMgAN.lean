import Derived.Test.YtlhlpamciafocaaGreatDoorMgAM
namespace Go.Proofs.YtlhlpamciafocaaGreatDoor.L
open Go.RowKit
set_option linter.unusedVariables false
set_option linter.unusedSimpArgs false
/-- The parser's pointer in a box. -/
def Bq (pb q : Nat) (W : World) : Prop := W.heap[q]? = some (.cells #[.pointer (some ⟨pb, 0, none⟩)] 61 (0, 0))
theorem Bq.cell {pb q : Nat} {W : World} (h : Bq pb q W) : W.cell? ⟨q, 0, none⟩ = some (.pointer (some ⟨pb, 0, none⟩)) := cell_of_row _ _ 0 _ _ _ h
theorem Bq.low {pb q : Nat} {W W' : World} (h : Bq pb q W) (hb : Below W.heap.size W W') : Bq pb q W' := (hb.block _ (lt_blk h)).trans h
theorem Bq.ne {pb B : Nat} {Nb : Nat → Prop} {tv : Value} {T : List Tok} {W : World} {s : PS} {v o : Value} {ks : Nat → Value} {q : Nat} (h : Bq pb q W) (hp : PM pb B Nb tv T W s v o ks) : q ≠ pb ∧ v.ownBlock ≠ some q ∧ o.ownBlock ≠ some q := by
  refine ⟨fun e => ?_, fun e => type_box hp.parts.row h (by decide) e rfl, fun e => type_box hp.offs h (by decide) e rfl⟩
  have h2 : W.heap[q]? = _ := h
  rw [e, hp.box] at h2
  cases h2
theorem Bq.fp {pb B : Nat} {Nb : Nat → Prop} {tv : Value} {T : List Tok} {W W' : World} {s : PS} {v o v' o' : Value} {ks : Nat → Value} {q : Nat} (h : Bq pb q W) (hp : PM pb B Nb tv T W s v o ks) (hf : Fp pb W v o W' v' o') : Bq pb q W' := by
  have ⟨h1, h2, h3⟩ := h.ne hp
  exact (hf.block q (lt_blk h) h1 h2 h3).trans h
theorem Bq.set {pb q g : Nat} {W : World} {v a b c d : Value} (h : Bq pb q W) (hg : Bx g W v a b c d) (j : Nat) (x : Value) : Bq pb q (W.setCell ⟨g, j, none⟩ x) := by
  refine (set_oth hg.hg j x (fun e => ?_)).trans h
  have h2 : W.heap[q]? = _ := h
  rw [e, hg.hg] at h2
  cases h2
/-- The parser's blocks and one box have changed. -/
structure FpG (pb g : Nat) (W : World) (v o : Value) (W' : World) (v' o' : Value) : Prop where
  os : W'.os = W.os
  tape : W'.tape = W.tape
  output : W'.output = W.output
  size : W.heap.size ≤ W'.heap.size
  block : ∀ k, k < W.heap.size → k ≠ pb → k ≠ g → v.ownBlock ≠ some k → o.ownBlock ≠ some k → W'.heap[k]? = W.heap[k]?
  vb : ∀ k, v'.ownBlock = some k → v.ownBlock = some k ∨ W.heap.size ≤ k
  ob : ∀ k, o'.ownBlock = some k → o.ownBlock = some k ∨ W.heap.size ≤ k
theorem Fp.g {pb : Nat} {W W' : World} {v o v' o' : Value} (h : Fp pb W v o W' v' o') (g : Nat) : FpG pb g W v o W' v' o' := ⟨h.os, h.tape, h.output, h.size, fun k h1 h2 _ h3 h4 => h.block k h1 h2 h3 h4, h.vb, h.ob⟩
theorem FpG.trans {pb g : Nat} {W W1 W2 : World} {v o v1 o1 v2 o2 : Value} (h : FpG pb g W v o W1 v1 o1) (k : FpG pb g W1 v1 o1 W2 v2 o2) : FpG pb g W v o W2 v2 o2 := by
  refine ⟨k.os.trans h.os, k.tape.trans h.tape, k.output.trans h.output, Nat.le_trans h.size k.size, fun j hj h1 h0 h2 h3 => ?_, fun j hj => ?_, fun j hj => ?_⟩
  · refine (k.block j (Nat.lt_of_lt_of_le hj h.size) h1 h0 (fun e => ?_) (fun e => ?_)).trans (h.block j hj h1 h0 h2 h3)
    · rcases h.vb j e with e | e
      · exact h2 e
      · omega
    · rcases h.ob j e with e | e
      · exact h3 e
      · omega
  · rcases k.vb j hj with e | e
    · exact h.vb j e
    · exact Or.inr (Nat.le_trans h.size e)
  · rcases k.ob j hj with e | e
    · exact h.ob j e
    · exact Or.inr (Nat.le_trans h.size e)
theorem FpG.set {pb g : Nat} {W0 W : World} {v0 o0 v o : Value} {a b c d : Value} (h : FpG pb g W0 v0 o0 W v o) (hg : Bx g W v a b c d) (j : Nat) (x : Value) : FpG pb g W0 v0 o0 (W.setCell ⟨g, j, none⟩ x) v o :=
  ⟨h.os, h.tape, h.output, by simpa using h.size, fun k hk h1 h0 h2 h3 => (set_oth hg.hg j x h0).trans (h.block k hk h1 h0 h2 h3), h.vb, h.ob⟩
theorem FpG.fp {pb g : Nat} {W W1 W2 : World} {v o v1 o1 v2 o2 : Value} (h : Fp pb W v o W1 v1 o1) (k : FpG pb g W1 v1 o1 W2 v2 o2) (hg : W.heap.size ≤ g) : Fp pb W v o W2 v2 o2 := by
  have h2 := (h.g g).trans k
  exact ⟨h2.os, h2.tape, h2.output, h2.size, fun j hj h1 h3 h4 => h2.block j hj h1 (by omega) h3 h4, h2.vb, h2.ob⟩
theorem PM.belowG {pb B : Nat} {Nb : Nat → Prop} {tv : Value} {T : List Tok} {W W' : World} {s : PS} {v o v' o' : Value} {ks : Nat → Value} {g : Nat} (h : PM pb B Nb tv T W s v o ks) (hf : FpG pb g W v o W' v' o') (hg : B ≤ g) : Below B W W' := by
  refine ⟨hf.os, hf.tape, hf.output, hf.size, fun k hk => ?_⟩
  by_cases hs : k < W.heap.size
  · refine hf.block k hs (by have := h.pbB; omega) (by omega) (fun e => ?_) (fun e => ?_)
    · have := (row_at h.parts.row e).1; omega
    · have := (row_at h.offs e).1; omega
  · have := h.pbB; have := lt_blk h.box; omega
/-- What the inner part of a selection gives. -/
def PoS (pb B : Nat) (Nb : Nat → Prop) (tv : Value) (T : List Tok) (g : Nat) (kd : Int) (r : PRes (ByteArray × Int)) (W : World) (v o : Value) (e : Ending) (W' : World) : Prop :=
  match r with
  | .ok ((t, k), s') => e = .returned (.int .i64 k) ∧ ∃ v' o' ks', PM pb B Nb tv T W' s' v' o' ks' ∧ FpG pb g W v o W' v' o' ∧ Bx g W' v' (.int .i64 kd) (.string t) (.int .i64 0) (.slice none 0 0)
  | .error (c, x) => ∃ N, e = pe N ∧ Fli W' N c x ∧ Below B W W'
theorem pos_ok {pb B : Nat} {Nb : Nat → Prop} {tv : Value} {T : List Tok} {g : Nat} {kd : Int} {W : World} {v o : Value} {t : ByteArray} {k : Int} {s' : PS} {e : Ending} {W' : World} (h : PoS pb B Nb tv T g kd (.ok ((t, k), s')) W v o e W') : e = .returned (.int .i64 k) ∧ ∃ v' o' ks', PM pb B Nb tv T W' s' v' o' ks' ∧ FpG pb g W v o W' v' o' ∧ Bx g W' v' (.int .i64 kd) (.string t) (.int .i64 0) (.slice none 0 0) := h
theorem pos_bad {pb B : Nat} {Nb : Nat → Prop} {tv : Value} {T : List Tok} {g : Nat} {kd : Int} {W : World} {v o : Value} {c : Nat} {x : Int} {e : Ending} {W' : World} (h : PoS pb B Nb tv T g kd (.error (c, x)) W v o e W') : ∃ N, e = pe N ∧ Fli W' N c x ∧ Below B W W' := h
/-- The pure inner part. -/
def selI (T : List Tok) (r : PS → PRes Int) (s1 : PS) : PRes (ByteArray × Int) := bnd (textP T s1) fun t s2 => bnd (markP T s2 [44]) fun _ s3 => bnd (r s3) fun k s4 => .ok ((t, k), s4)
theorem gn_selI {T : List Tok} {r : PS → PRes Int} {s s' : PS} {q : ByteArray × Int} (h1 : Gone r) (h : selI T r s = .ok (q, s')) : Gn 0 1 0 s s' := by
  unfold selI at h
  obtain ⟨t, s2, i1, h⟩ := bnd_inv h
  obtain ⟨u, s3, i2, h⟩ := bnd_inv h
  obtain ⟨r, s4, i3, h⟩ := bnd_inv h
  injection h with h; injection h with _ h; subst h
  exact (((gn_text i1).trans (gn_mark i2)).trans (h1 _ _ _ i3)).weak (by omega) (by omega)
set_option maxHeartbeats 4000000 in
set_option maxRecDepth 100000 in
theorem sel1_any {pb B : Nat} {Nb : Nat → Prop} {tv : Value} {T : List Tok} {W : World} {s : PS} {v o : Value} {ks : Nat → Value} {r : PS → PRes Int} (ho : Ct pb B tv T 33 r (s.nx + 1)) (gho : Gone r) (h : PM pb B Nb tv T W s v o ks) (hi : Inv s) {g q : Nat} {kd : Int} {t0 : ByteArray} (hbx : Bx g W v (.int .i64 kd) (.string t0) (.int .i64 0) (.slice none 0 0)) (hbg : B ≤ g) (hq : Bq pb q W) :
    Calls Tryz.prog 114 #[.pointer (some ⟨q, 0, none⟩), .pointer (some ⟨g, 0, none⟩)] W fun e W' => PoS pb B Nb tv T g kd (selI T r s) W v o e W' := by
  have HP := hid h
  have HF0 := hid ((Fp.refl pb W v o).g g)
  have HP0 := hid h
  have HI := hid hi
  have HBX0 := hid hbx
  have HBG := hid hbg
  have HBQ0 := hid hq
  clear h hi hbx hbg hq
  have HC := hid ho
  have HG := hid gho
  clear ho gho
  obtain ⟨R, hR⟩ : ∃ R, R = selI T r s := ⟨_, rfl⟩
  have HR := hid hR.symm
  rw [← hR]
  clear hR
  unfold selI at HR
  have cq := HBQ0.out.cell
  go_enter Tryz.func114, Tryz.ntmps114
  go_wp2_with fail
  refine (text_any HP0.out).mono ?_
  intro e W1 hpo
  cases hq : textP T s with
  | error q =>
    obtain ⟨c, x⟩ := q
    rw [hq] at hpo HR
    rw [bnd_bad] at HR
    obtain ⟨N, rfl, hf, hb⟩ := po_bad hpo
    have HFL := hid hf
    have HBD := hid ((HP.out.belowG HF0.out HBG.out).trans hb)
    clear hf hb hpo hq
    go_wp2_with fail
    rw [← HR.out]
    exact ⟨rfl, N, rfl, HFL.out, HBD.out⟩
  | ok q =>
    obtain ⟨t1, s1⟩ := q
    have HQ1 := hid hq
    rw [hq] at hpo HR
    rw [bnd_ok] at HR
    obtain ⟨rfl, v1, o1, ks1, hp, hf⟩ := po_ok hpo
    have HP1 := hid hp
    have HF1 := hid (HF0.out.trans (hf.g g))
    have HBX1 := hid (HBX0.out.fp HP0.out hf)
    have HBQ1 := hid (HBQ0.out.fp HP0.out hf)
    clear hp hf hpo hq
    clear cq
    have HI1 := hid (HI.out.gn (gn_text HQ1.out))
    have fz : W1.frozen? ⟨g, 1, none⟩ = false := frz_row HBX1.out.hg 1
    have cc := HBX1.out.cells.2.1
    go_upto_region 2 with fail
    have HP2 := hid (HP1.out.prt HBX1.out 1 (.string t1))
    have HF2 := hid (HF1.out.set HBX1.out 1 (.string t1))
    have HBX2 := hid (HBX1.out.set.2.1 (.string t1))
    have HBQ2 := hid (HBQ1.out.set HBX1.out 1 (.string t1))
    clear fz cc
    generalize W1.setCell ⟨g, 1, none⟩ (.string t1) = W2 at *
    have cq := HBQ2.out.cell
    go_wp2_with fail
    refine (mark_any HP2.out ⟨#[44]⟩).mono ?_
    intro e W3 hpo
    rw [ml44] at hpo
    cases hq : markP T s1 [44] with
    | error q =>
      obtain ⟨c, x⟩ := q
      rw [hq] at hpo HR
      rw [bnd_bad] at HR
      obtain ⟨N, rfl, hf, hb⟩ := po_bad hpo
      have HFL := hid hf
      have HBD := hid ((HP.out.belowG HF2.out HBG.out).trans hb)
      clear hf hb hpo hq
      go_wp2_with fail
      rw [← HR.out]
      exact ⟨rfl, N, rfl, HFL.out, HBD.out⟩
    | ok q =>
      obtain ⟨u3, s3⟩ := q
      have HQ3 := hid hq
      rw [hq] at hpo HR
      rw [bnd_ok] at HR
      obtain ⟨rfl, v3, o3, ks3, hp, hf⟩ := po_ok hpo
      have HP3 := hid hp
      have HF3 := hid (HF2.out.trans (hf.g g))
      have HBX3 := hid (HBX2.out.fp HP2.out hf)
      have HBQ3 := hid (HBQ2.out.fp HP2.out hf)
      clear hp hf hpo hq
      clear cq
      have cq := HBQ3.out.cell
      have HI3 := hid (HI1.out.gn (gn_mark HQ3.out))
      go_wp2_with fail
      refine (HC.out Nb _ _ _ _ _ HP3.out HI3.out (by have h1 := (gn_text HQ1.out).nx; have h2 := (gn_mark HQ3.out).nx; omega)).mono ?_
      intro e W4 hpo
      cases hq : r s3 with
      | error q =>
        obtain ⟨c, x⟩ := q
        rw [hq] at hpo HR
        rw [bnd_bad] at HR
        obtain ⟨N, rfl, hf, hb⟩ := po_bad hpo
        have HFL := hid hf
        have HBD := hid ((HP.out.belowG HF3.out HBG.out).trans hb)
        clear hf hb hpo hq
        go_wp2_with fail
        rw [← HR.out]
        exact ⟨rfl, N, rfl, HFL.out, HBD.out⟩
      | ok q =>
        obtain ⟨k4, s4⟩ := q
        have HQ4 := hid hq
        rw [hq] at hpo HR
        rw [bnd_ok] at HR
        obtain ⟨rfl, v4, o4, ks4, hp, hf⟩ := po_ok hpo
        have HP4 := hid hp
        have HF4 := hid (HF3.out.trans (hf.g g))
        have HBX4 := hid (HBX3.out.fp HP3.out hf)
        clear hp hf hpo hq
        go_wp2_with fail
        go_ret
        rw [← HR.out]
        exact ⟨rfl, v4, o4, ks4, HP4.out, HF4.out, HBX4.out⟩
set_option maxHeartbeats 4000000 in
set_option maxRecDepth 100000 in
theorem within_sel {pb B : Nat} {Nb : Nat → Prop} {tv : Value} {T : List Tok} {W : World} {s : PS} {v o : Value} {ks : Nat → Value} {r : PS → PRes Int} (ho : Ct pb B tv T 33 r (s.nx + 2)) (gho : Gone r) (h : PM pb B Nb tv T W s v o ks) (hi : Inv s) {g q : Nat} {kd : Int} {t0 : ByteArray} (hbx : Bx g W v (.int .i64 kd) (.string t0) (.int .i64 0) (.slice none 0 0)) (hbg : B ≤ g) (hq : Bq pb q W) :
    Calls Tryz.prog 87 #[.pointer (some ⟨pb, 0, none⟩), .func (.func 114) #[] #[.pointer (some ⟨q, 0, none⟩), .pointer (some ⟨g, 0, none⟩)]] W fun e W' => PoS pb B Nb tv T g kd (withP T (selI T r) s) W v o e W' := by
  have HP := hid h
  have HF0 := hid ((Fp.refl pb W v o).g g)
  have HP0 := hid h
  have HI := hid hi
  have HBX0 := hid hbx
  have HBG := hid hbg
  have HBQ0 := hid hq
  clear h hi hbx hbg hq
  have HC := hid ho
  have HG := hid gho
  clear ho gho
  obtain ⟨R, hR⟩ : ∃ R, R = withP T (selI T r) s := ⟨_, rfl⟩
  have HR := hid hR.symm
  rw [← hR]
  clear hR
  unfold withP at HR
  go_enter Tryz.func87, Tryz.ntmps87
  go_wp2_with fail
  refine (open_any HP0.out ⟨#[40]⟩).mono ?_
  intro e W1 hpo
  rw [ml40] at hpo
  cases hq : openP T s [40] with
  | error q =>
    obtain ⟨c, x⟩ := q
    rw [hq] at hpo HR
    rw [bnd_bad] at HR
    obtain ⟨N, rfl, hf, hb⟩ := po_bad hpo
    have HFL := hid hf
    have HBD := hid ((HP.out.belowG HF0.out HBG.out).trans hb)
    clear hf hb hpo hq
    go_wp2_with fail
    rw [← HR.out]
    exact ⟨rfl, N, rfl, HFL.out, HBD.out⟩
  | ok q =>
    obtain ⟨u1, s1⟩ := q
    have HQ1 := hid hq
    rw [hq] at hpo HR
    rw [bnd_ok] at HR
    obtain ⟨rfl, v1, o1, ks1, hp, hf⟩ := po_ok hpo
    have HP1 := hid hp
    have HF1 := hid (HF0.out.trans (hf.g g))
    have HBX1 := hid (HBX0.out.fp HP0.out hf)
    have HBQ1 := hid (HBQ0.out.fp HP0.out hf)
    clear hp hf hpo hq
    have HG1 := hid (gn_open HQ1.out)
    have HI1 := hid (HI.out.gn HG1.out)
    have HS := hid (sel1_any (HC.out.up (by have := HG1.out.nx; omega)) HG.out HP1.out HI1.out HBX1.out HBG.out HBQ1.out)
    go_wp2_with fail
    refine (HS.out).mono ?_
    intro e W2 hpo
    cases hq : selI T r s1 with
    | error q =>
      obtain ⟨c, x⟩ := q
      rw [hq] at hpo HR
      rw [bnd_bad] at HR
      obtain ⟨N, rfl, hf, hb⟩ := pos_bad hpo
      have HFL := hid hf
      have HBD := hid ((HP.out.belowG HF1.out HBG.out).trans hb)
      clear hf hb hpo hq
      go_wp2_with fail
      rw [← HR.out]
      exact ⟨rfl, N, rfl, HFL.out, HBD.out⟩
    | ok q =>
      obtain ⟨⟨t2, k2⟩, s2⟩ := q
      have HQ2 := hid hq
      rw [hq] at hpo HR
      rw [bnd_ok] at HR
      obtain ⟨rfl, v2, o2, ks2, hp, hf, hx⟩ := pos_ok hpo
      have HP2 := hid hp
      have HF2 := hid (HF1.out.trans hf)
      have HBX2 := hid hx
      clear hp hf hx hpo hq
      have HG2 := hid (gn_selI HG.out HQ2.out)
      go_wp2_with fail
      refine (mark_any HP2.out ⟨#[41]⟩).mono ?_
      intro e W3 hpo
      rw [ml41] at hpo
      cases hq : markP T s2 [41] with
      | error q =>
        obtain ⟨c, x⟩ := q
        rw [hq] at hpo HR
        rw [bnd_bad] at HR
        obtain ⟨N, rfl, hf, hb⟩ := po_bad hpo
        have HFL := hid hf
        have HBD := hid ((HP.out.belowG HF2.out HBG.out).trans hb)
        clear hf hb hpo hq
        go_wp2_with fail
        rw [← HR.out]
        exact ⟨rfl, N, rfl, HFL.out, HBD.out⟩
      | ok q =>
        obtain ⟨u3, s3⟩ := q
        have HQ3 := hid hq
        rw [hq] at hpo HR
        rw [bnd_ok] at HR
        obtain ⟨rfl, v3, o3, ks3, hp, hf⟩ := po_ok hpo
        have HP3 := hid hp
        have HF3 := hid (HF2.out.trans (hf.g g))
        have HBX3 := hid (HBX2.out.fp HP2.out hf)
        clear hp hf hpo hq
        have HNS := hid (show 1 ≤ s3.ns by rw [(gn_mark HQ3.out).ns, HG2.out.ns, HG1.out.ns]; omega)
        go_wp2_with fail
        refine (shut_any HP3.out HNS.out).mono ?_
        rintro e U ⟨rfl, hp, hf⟩
        have HPU := hid hp
        have HFU := hid (HF3.out.trans (hf.g g))
        have HBU := hid (HBX3.out.fp HP3.out hf)
        clear hp hf
        go_wp2_with fail
        go_ret
        rw [← HR.out]
        exact ⟨rfl, v3, o3, ks3, HPU.out, HFU.out, HBU.out⟩
set_option maxHeartbeats 4000000 in
set_option maxRecDepth 100000 in
theorem selection_any {pb B : Nat} {Nb : Nat → Prop} {tv : Value} {T : List Tok} {W : World} {s : PS} {v o : Value} {ks : Nat → Value} {r r2 : PS → PRes Int} (ho : Ct pb B tv T 33 r (s.nx + 1)) (gho : Gone r) (hk : (tk T s.nx).kind ≠ 0) (kd : Int) (h : PM pb B Nb tv T W s v o ks) (hi : Inv s) :
    Calls Tryz.prog 101 #[.pointer (some ⟨pb, 0, none⟩), .int .i64 kd] W fun e W' => Po pb B Nb tv T (fun k => .int .i64 k) (selP T r kd s) W v o e W' := by
  have HP := hid h
  have HF0 := hid (Fp.refl pb W v o)
  have HP0 := hid h
  have HI := hid hi
  clear h hi
  have HC := hid ho
  have HG := hid gho
  have HK := hid hk
  clear ho gho hk
  have rf3 := run_f3
  have hmf : ∀ (fn : Fn) (first cap : Array Value) (w : World), (Instr.makeFunc fn first cap).run Tryz.prog w = .ok (.func fn first cap) w := fun _ _ _ _ => rfl
  obtain ⟨R, hR⟩ : ∃ R, R = selP T r kd s := ⟨_, rfl⟩
  have HR := hid hR.symm
  rw [← hR]
  clear hR
  obtain ⟨t, ht⟩ : ∃ t, t = tk T s.nx := ⟨_, rfl⟩
  have HT := hid ht
  have HRS := hid (show (bnd (withP T (selI T r) (adv s)) fun tk2 s5 => putP s5 ⟨kd, tk2.1, 0, [tk2.2]⟩ ((tk T s.nx).a : Int)) = R from HR.out)
  clear HR
  have HR := HRS
  clear HRS
  rw [← ht] at HR
  clear ht
  have HBQ1 := hid (show Bq pb W.heap.size (W.alloc (.cells #[.pointer (some ⟨pb, 0, none⟩)] 61)) from heap_alloc_new _ _)
  have HP1 := hid (HP0.out.low (belowA W (.cells #[.pointer (some ⟨pb, 0, none⟩)] 61)))
  have HF1 := hid (HF0.out.below (belowA W (.cells #[.pointer (some ⟨pb, 0, none⟩)] 61)))
  have HTA := hid (take_any HP1.out HK.out)
  rw [← HT.out] at HTA
  unfold L.tv at HTA
  go_enter Tryz.func101, Tryz.ntmps101
  go_upto_region 1 with fail
  generalize W.alloc (.cells #[.pointer (some ⟨pb, 0, none⟩)] 61) = W1 at *
  generalize hqq : W.heap.size = q at *
  have HQE := hid hqq
  clear hqq
  have cq := HBQ1.out.cell
  go_wp2_with fail
  refine HTA.out.mono ?_
  rintro e W2 ⟨rfl, hp, hf⟩
  have HP2 := hid hp
  have HF2 := hid (HF1.out.trans hf)
  have HBQ2 := hid (HBQ1.out.fp HP1.out hf)
  clear hp hf HTA cq
  go_upto_region 3 with fail
  have HBX3 := hid (bx_new HP2.out (.int .i64 kd) (.string ⟨#[]⟩) (.int .i64 0) (.slice none 0 0))
  have HP3 := hid (HP2.out.low (belowA W2 (.cells #[.int .i64 kd, .string ⟨#[]⟩, .int .i64 0, .slice none 0 0] 50)))
  have HF3 := hid (HF2.out.below (belowA W2 (.cells #[.int .i64 kd, .string ⟨#[]⟩, .int .i64 0, .slice none 0 0] 50)))
  have HBQ3 := hid (HBQ2.out.low (belowA W2 (.cells #[.int .i64 kd, .string ⟨#[]⟩, .int .i64 0, .slice none 0 0] 50)))
  have HGS := hid HF2.out.size
  have HBG := hid (show B ≤ W2.heap.size from Nat.le_trans HP2.out.pbB (Nat.le_of_lt (lt_blk HP2.out.box)))
  generalize W2.alloc (.cells #[.int .i64 kd, .string ⟨#[]⟩, .int .i64 0, .slice none 0 0] 50) = W3 at *
  generalize W2.heap.size = g at *
  have cq := HBQ3.out.cell
  have HI3 := hid (HI.out.gn (gn_adv s))
  have HS := hid (within_sel (HC.out.up (by simp only [adv]; omega)) HG.out HP3.out HI3.out HBX3.out HBG.out HBQ3.out)
  go_wp2_with fail
  refine HS.out.mono ?_
  intro e W4 hpo
  cases hq : withP T (selI T r) (adv s) with
  | error q =>
    obtain ⟨c, x⟩ := q
    rw [hq] at hpo HR
    rw [bnd_bad] at HR
    obtain ⟨N, rfl, hf, hb⟩ := pos_bad hpo
    have HFL := hid hf
    have HBD := hid ((HP.out.below HF3.out).trans hb)
    clear hf hb hpo hq
    go_wp2_with fail
    rw [← HR.out]
    exact ⟨rfl, N, rfl, HFL.out, HBD.out⟩
  | ok q =>
    obtain ⟨⟨t4, k4⟩, s4⟩ := q
    have HG4 := hid (gn_with (d := 1) (fun s a s2 hh => gn_selI HG.out hh) hq)
    rw [hq] at hpo HR
    rw [bnd_ok] at HR
    dsimp only at HR
    obtain ⟨rfl, v4, o4, ks4, hp, hf, hx⟩ := pos_ok hpo
    have HP4 := hid hp
    have HF4 := hid (FpG.fp HF3.out hf HGS.out)
    have HBX4 := hid hx
    have hqn := HBQ3.out.ne HP3.out
    have HBQ4 := hid (show Bq pb q W4 from (hf.block q (lt_blk HBQ3.out) hqn.1 (fun e => (by have h2 : W3.heap[q]? = _ := HBQ3.out; rw [e, HBX3.out.hg] at h2; cases h2)) hqn.2.1 hqn.2.2).trans HBQ3.out)
    clear hp hf hx hpo hq hqn cq
    have HI4 := hid (HI3.out.gn HG4.out)
    have HLL := hid (HI4.out.l HP4.out)
    have HP5 := hid (HP4.out.fresh (.cells #[.int .i64 k4] 3) 1 1)
    have HB5 := hid (HBX4.out.low (belowA W4 (.cells #[.int .i64 k4] 3)))
    have HK5 := hid (show OwnI (W4.alloc (.cells #[.int .i64 k4] 3)) B (.slice (some ⟨W4.heap.size, 0, none⟩) 1 1) [k4] from World.ownsRow_lit W4 #[.int .i64 k4] 1 (Nat.le_trans HP4.out.pbB (Nat.le_of_lt (lt_blk HP4.out.box))) (by decide) rfl)
    have HNB := hid (show ∀ k, Value.ownBlock (.slice (some ⟨W4.heap.size, 0, none⟩) 1 1) = some k → ¬ Nb k from fun k hk hn => (by have h1 := kb_new (W0 := W) (W := W4) 1 1 HF4.out.size k hk; have h2 := HP.out.apx.xl k hn; omega))
    have HF5 := hid (HF4.out.below (belowA W4 (.cells #[.int .i64 k4] 3)))
    have HBQ5 := hid (HBQ4.out.low (belowA W4 (.cells #[.int .i64 k4] 3)))
    have fz : (W4.alloc (.cells #[.int .i64 k4] 3)).frozen? ⟨g, 3, none⟩ = false := frz_row HB5.out.hg 3
    have c3 := HB5.out.cells.2.2.2
    go_upto_region 5 with fail
    have HP6 := hid (HP5.out.prt HB5.out 3 (.slice (some ⟨W4.heap.size, 0, none⟩) 1 1))
    have HB6 := hid (HB5.out.set.2.2 (.slice (some ⟨W4.heap.size, 0, none⟩) 1 1))
    have HK6 := hid (row_prt HK5.out HB5.out 3 (.slice (some ⟨W4.heap.size, 0, none⟩) 1 1))
    have HF6 := hid (HF5.out.prt HB5.out HGS.out 3 (.slice (some ⟨W4.heap.size, 0, none⟩) 1 1))
    have HBQ6 := hid (HBQ5.out.set HB5.out 3 (.slice (some ⟨W4.heap.size, 0, none⟩) 1 1))
    clear fz c3 HP5 HB5 HK5 HF5
    generalize (W4.alloc (.cells #[.int .i64 k4] 3)).setCell ⟨g, 3, none⟩ (.slice (some ⟨W4.heap.size, 0, none⟩) 1 1) = V at *
    have ⟨x0, x1, x2, x3⟩ := HB6.out.cells
    have cq := HBQ6.out.cell
    go_wp2_with fail
    refine (put1_any HP6.out ⟨kd, t4, 0, [k4]⟩ HK6.out HNB.out (t.a : Int) HLL.out.1 HLL.out.2).mono ?_
    intro e U hpo
    have HPO := hid hpo
    rw [HR.out] at HPO
    clear hpo
    cases R with
    | error q =>
      obtain ⟨c, x⟩ := q
      obtain ⟨N, rfl, hf, hb⟩ := po_bad HPO.out
      have HFL := hid hf
      have HBD := hid ((HP.out.below HF6.out).trans hb)
      clear hf hb HPO
      go_wp2_with fail
      exact ⟨rfl, N, rfl, HFL.out, HBD.out⟩
    | ok q =>
      obtain ⟨z, s9⟩ := q
      obtain ⟨rfl, v9, o9, ks9, hp, hf⟩ := po_ok HPO.out
      have HPU := hid hp
      have HFU := hid (HF6.out.trans hf)
      clear hp hf HPO
      go_wp2_with fail
      go_ret
      exact ⟨rfl, v9, o9, ks9, HPU.out, HFU.out⟩
end Go.Proofs.YtlhlpamciafocaaGreatDoor.L
namespace Go.Proofs.YtlhlpamciafocaaGreatDoor.L
open Go.RowKit
set_option linter.unusedVariables false
set_option linter.unusedSimpArgs false
theorem own_stay {pb B : Nat} {Nb : Nat → Prop} {tv : Value} {T : List Tok} {W W' : World} {s : PS} {v o v' o' : Value} {ks : Nat → Value} {kv : Value} {kl : List Int} (h : OwnI W B kv kl) (hp : PM pb B (XA Nb kv) tv T W s v o ks) (hf : Fp pb W v o W' v' o') : OwnI W' B kv kl :=
  row_kept h (fun k hk => hf.block k (own_lt h k hk) (type_box h hp.box (by decide) hk) (type_ne h hp.parts.row (by decide) hk) (hp.xa hk).2.1)
theorem PM.nil {pb B : Nat} {Nb : Nat → Prop} {tv : Value} {T : List Tok} {W : World} {s : PS} {v o : Value} {ks : Nat → Value} (h : PM pb B Nb tv T W s v o ks) : PM pb B (XA Nb (.slice none 0 0)) tv T W s v o ks :=
  h.more (fun k hk => (by cases hk)) (fun k hk => (by cases hk)) (fun j hj k hk => (by cases hk))
/-- A set while it is read. -/
structure SI (pb B : Nat) (Nb : Nat → Prop) (tv : Value) (T : List Tok) (F : List Int → PS → PRes Int) (R : PRes Int) (W : World) (v o : Value) (n : Nat) (w : World) (s' : PS) (v' o' : Value) (ks' : Nat → Value) (kv : Value) (kl : List Int) : Prop where
  pm : PM pb B (XA Nb kv) tv T w s' v' o' ks'
  inv : Inv s'
  own : OwnI w B kv kl
  fp : Fp pb W v o w v' o'
  kb : ∀ k, kv.ownBlock = some k → W.heap.size ≤ k
  eq : bnd (memsP T n kl s') F = R
  fu : T.length - s'.nx ≤ n
  len : kl.length ≤ s'.nx
set_option maxHeartbeats 4000000 in
set_option maxRecDepth 100000 in
theorem set_any {pb B : Nat} {Nb : Nat → Prop} {tv : Value} {T : List Tok} {W : World} {s : PS} {v o : Value} {ks : Nat → Value} {r r2 : PS → PRes Int}  (h : PM pb B Nb tv T W s v o ks) (hi : Inv s) :
    Calls Tryz.prog 130 #[.pointer (some ⟨pb, 0, none⟩)] W fun e W' => Po pb B Nb tv T (fun k => .int .i64 k) (setP T s) W v o e W' := by
  have HP := hid h
  have HF0 := hid (Fp.refl pb W v o)
  have HP0 := hid h
  have HI := hid hi
  clear h hi
  have rf3 := run_f3
  obtain ⟨R, hR⟩ : ∃ R, R = setP T s := ⟨_, rfl⟩
  have HR := hid hR.symm
  rw [← hR]
  clear hR
  unfold setP at HR
  obtain ⟨t, ht⟩ : ∃ t, t = tk T s.nx := ⟨_, rfl⟩
  have HT := hid ht
  rw [← ht] at HR
  clear ht
  go_enter Tryz.func130, Tryz.ntmps130
  go_wp2_with fail
  refine (mark_any HP0.out ⟨#[123]⟩).mono ?_
  intro e W1 hpo
  rw [ml123, ← HT.out] at hpo
  cases hq : markP T s [123] with
  | error q =>
    obtain ⟨c, x⟩ := q
    rw [hq] at hpo HR
    rw [bnd_bad] at HR
    obtain ⟨N, rfl, hf, hb⟩ := po_bad hpo
    have HFL := hid hf
    have HBD := hid ((HP.out.below HF0.out).trans hb)
    clear hf hb hpo hq
    go_wp2_with fail
    rw [← HR.out]
    exact ⟨rfl, N, rfl, HFL.out, HBD.out⟩
  | ok q =>
    obtain ⟨u1, s1⟩ := q
    have HQ1 := hid hq
    rw [hq] at hpo HR
    rw [bnd_ok] at HR
    obtain ⟨rfl, v1, o1, ks1, hp, hf⟩ := po_ok hpo
    have HP1 := hid hp
    have HF1 := hid (HF0.out.trans hf)
    clear hp hf hpo hq
    (try unfold L.tv)
    have HI1 := hid (HI.out.gn (gn_mark HQ1.out))
    have HAT := hid (at_any HP1.out ⟨#[125]⟩)
    rw [ml125] at HAT
    cases hM : isM T s1 [125]
    · rw [hM] at HAT HR
      rw [if_neg (by decide)] at HR
      clear hM
      have HI2 := HI1
      go_wp2_with fail
      refine HAT.out.mono ?_
      rintro e W2 ⟨rfl, l⟩
      have HP2 := hid (HP1.out.low l)
      have HF2 := hid (HF1.out.below l)
      clear l HAT
      have HLL := hid (HI1.out.l HP2.out)
      go_wp2_with fail
      refine (member_any HP2.out 0 HLL.out.1 HLL.out.2).mono ?_
      intro e W3 hpo
      cases hq : memP T s1 0 with
      | error q =>
        obtain ⟨c, x⟩ := q
        rw [hq] at hpo HR
        rw [bnd_bad, bnd_bad] at HR
        obtain ⟨N, rfl, hf, hb⟩ := po_bad hpo
        have HFL := hid hf
        have HBD := hid ((HP.out.below HF2.out).trans hb)
        clear hf hb hpo hq
        go_wp2_with fail
        rw [← HR.out]
        exact ⟨rfl, N, rfl, HFL.out, HBD.out⟩
      | ok q =>
        obtain ⟨k3, s3⟩ := q
        have HG3 := hid (gn_mem hq)
        have HI3 := hid (HI1.out.gn HG3.out)
        rw [hq] at hpo HR
        rw [bnd_ok, bnd_ok] at HR
        obtain ⟨rfl, v3, o3, ks3, hp, hf⟩ := po_ok hpo
        have HP3 := hid hp.nil
        have HF3 := hid (HF2.out.trans hf)
        clear hp hf hpo hq
        have HBS := hid (show B ≤ W3.heap.size from Nat.le_trans HP3.out.pbB (Nat.le_of_lt (lt_blk HP3.out.box)))
        go_wp2_with (at_builtin; refine app_kid rfl _ _ rfl k3 rfl rfl (own_nil W3 B) (by simp) HBS.out ?_; intro kv6 W6 ho hg hw; have HK6 := hid ho; have HP6 := hid (HP3.out.kid (own_nil W3 B) hg hw ho); have HF6 := hid (HF3.out.kid (kv := .slice none 0 0) (fun k hk => (by cases hk)) hg); have HB6 := hid (kb_kid (kv := .slice none 0 0) HF3.out.size (fun k hk => (by cases hk)) hw); clear ho hg hw)
        clear rf3
        go_loopg [4] 4097 (fun n kv wr => ∃ s' v' o' ks' kl, Hid (SI pb B Nb tv T (fun ks s3 => bnd (markP T s3 [125]) fun _ s4 => putP s4 ⟨13, ⟨#[]⟩, 0, ks⟩ (t.a : Int)) R W v o n wr s' v' o' ks' kv kl))
        case atStart => exact ⟨s3, v3, o3, ks3, [] ++ [k3], hid ⟨HP6.out, HI3.out, HK6.out, HF6.out, HB6.out, HR.out, by have := HP3.out.tl; omega, by have h1 := HG3.out.nx; simp; omega⟩⟩
        case round =>
          obtain ⟨s', v', o', ks', kl, HI2⟩ := hrel
          have hgk : gk ≠ 0 := by have h1 := HI2.out.fu; have h2 := HI2.out.pm.nx; omega
          obtain ⟨n, rfl⟩ := Nat.exists_eq_succ_of_ne_zero hgk
          clear hgk
          have HAU := hid (at_any HI2.out.pm ⟨#[44]⟩)
          rw [ml44] at HAU
          obtain ⟨ka, kc, hkf⟩ := own_form HI2.out.own
          obtain ⟨L, hL⟩ : ∃ L, L = kl.length := ⟨_, rfl⟩
          rw [← hL] at hkf
          have HL := hid hL
          subst hkf
          have hLm : L ≤ maxLen := by have h1 := HI2.out.len; have h2 := HI2.out.pm.nx; have h3 := HI2.out.pm.tl; unfold maxLen; omega
          clear hL
          cases hM : isM T s' [44]
          · have HEQ := hid HI2.out.eq
            unfold memsP at HEQ
            rw [hM, if_neg (by decide), bnd_ok] at HEQ
            rw [hM] at HAU
            clear hM
            go_wp2_with fail
            refine HAU.out.mono ?_
            rintro e W3 ⟨rfl, l⟩
            have HP3 := hid (HI2.out.pm.low l)
            have HF3 := hid (HI2.out.fp.below l)
            have HK3 := hid (show OwnI W3 B (.slice ka L kc) kl from row_kept HI2.out.own (fun k hk => l.block k (row_at HI2.out.own hk).2.1))
            clear l
            go_wp2_with fail
            refine (mark_any HP3.out ⟨#[125]⟩).mono ?_
            intro e W4 hpo
            rw [ml125] at hpo
            cases hq : markP T s' [125] with
            | error q =>
              obtain ⟨c, x⟩ := q
              rw [hq] at hpo HEQ
              rw [bnd_bad] at HEQ
              obtain ⟨N, rfl, hf, hb⟩ := po_bad hpo
              have HFL := hid hf
              have HBD := hid ((HP.out.below HF3.out).trans hb)
              clear hf hb hpo hq
              go_wp2_with fail
              rw [← HEQ.out]
              exact ⟨rfl, N, rfl, HFL.out, HBD.out⟩
            | ok q =>
              obtain ⟨u4, s4⟩ := q
              have HI4 := hid (HI2.out.inv.gn (gn_mark hq))
              rw [hq] at hpo HEQ
              rw [bnd_ok] at HEQ
              obtain ⟨rfl, v4, o4, ks4, hp, hf⟩ := po_ok hpo
              have HP4 := hid hp
              have HF4 := hid (HF3.out.trans hf)
              have HK4 := hid (own_stay HK3.out HP3.out hf)
              have HLL := hid (HI4.out.l HP4.out)
              clear hp hf hpo hq
              have HNB := hid (show ∀ k, (Value.slice ka L kc).ownBlock = some k → ¬ Nb k from fun k hk hn => (by have h1 := HI2.out.kb k hk; have h2 := HP.out.apx.xl k hn; omega))
              go_wp2_with fail
              refine (put1_any HP4.out ⟨13, ⟨#[]⟩, 0, kl⟩ HK4.out HNB.out (t.a : Int) HLL.out.1 HLL.out.2).mono ?_
              intro e U hpo
              have HPO := hid hpo
              rw [HEQ.out] at HPO
              clear hpo
              cases R with
              | error q =>
                obtain ⟨c, x⟩ := q
                obtain ⟨N, rfl, hf, hb⟩ := po_bad HPO.out
                have HFL := hid hf
                have HBD := hid ((HP.out.below HF4.out).trans hb)
                clear hf hb HPO
                go_wp2_with fail
                exact ⟨rfl, N, rfl, HFL.out, HBD.out⟩
              | ok q =>
                obtain ⟨z, s9⟩ := q
                obtain ⟨rfl, v9, o9, ks9, hp, hf⟩ := po_ok HPO.out
                have HPU := hid hp
                have HFU := hid (HF4.out.trans hf)
                clear hp hf HPO
                go_wp2_with fail
                go_ret
                exact ⟨rfl, v9, o9, ks9, HPU.out, HFU.out⟩
          · have HEQ := hid HI2.out.eq
            unfold memsP at HEQ
            rw [hM, if_pos rfl, ← HL.out] at HEQ
            rw [hM] at HAU
            have HKD := hid (isM_kind hM)
            clear hM
            go_wp2_with fail
            refine HAU.out.mono ?_
            rintro e W3 ⟨rfl, l⟩
            have HP3 := hid (HI2.out.pm.low l)
            have HF3 := hid (HI2.out.fp.below l)
            have HK3 := hid (show OwnI W3 B (.slice ka L kc) kl from row_kept HI2.out.own (fun k hk => l.block k (row_at HI2.out.own hk).2.1))
            clear l
            go_wp2_with fail
            refine (take_any HP3.out HKD.out).mono ?_
            rintro e W4 ⟨rfl, hp, hf⟩
            have HP4 := hid hp
            have HK4 := hid (own_stay HK3.out HP3.out hf)
            have HF4 := hid (HF3.out.trans hf)
            clear hp hf
            have HI4 := hid (HI2.out.inv.gn (gn_adv s'))
            have HLL := hid (HI4.out.l HP4.out)
            go_wp2_with fail
            refine (member_any HP4.out L HLL.out.1 HLL.out.2).mono ?_
            intro e W5 hpo
            cases hq : memP T (adv s') L with
            | error q =>
              obtain ⟨c, x⟩ := q
              rw [hq] at hpo HEQ
              rw [bnd_bad, bnd_bad] at HEQ
              obtain ⟨N, rfl, hf, hb⟩ := po_bad hpo
              have HFL := hid hf
              have HBD := hid ((HP.out.below HF4.out).trans hb)
              clear hf hb hpo hq
              go_wp2_with fail
              rw [← HEQ.out]
              exact ⟨rfl, N, rfl, HFL.out, HBD.out⟩
            | ok q =>
              obtain ⟨k5, s5⟩ := q
              have HG5 := hid (gn_mem hq)
              rw [hq] at hpo HEQ
              rw [bnd_ok] at HEQ
              obtain ⟨rfl, v5, o5, ks5, hp, hf⟩ := po_ok hpo
              have HP5 := hid hp
              have HK5 := hid (own_stay HK4.out HP4.out hf)
              have HF5 := hid (HF4.out.trans hf)
              clear hp hf hpo hq
              have HLN := hid (show kl.length ≤ 100000 by have h1 := HI2.out.len; have h2 := HI2.out.pm.nx; have h3 := HI2.out.pm.tl; omega)
              have HBS := hid (show B ≤ W5.heap.size from Nat.le_trans HP5.out.pbB (Nat.le_of_lt (lt_blk HP5.out.box)))
              go_wp2_with (at_builtin; refine app_kid rfl _ _ rfl k5 rfl rfl HK5.out HLN.out HBS.out ?_; intro kv6 W6 ho hg hw; have HK6 := hid ho; have HP6 := hid (HP5.out.kid HK5.out hg hw ho); have HF6 := hid (HF5.out.kid HI2.out.kb hg); have HB6 := hid (kb_kid HF5.out.size HI2.out.kb hw); clear ho hg hw)
              go_roundg n
              case measure => omega
              case rel => exact ⟨s5, v5, o5, ks5, kl ++ [k5], hid ⟨HP6.out, HI2.out.inv.gn ((gn_adv s').trans HG5.out), HK6.out, HF6.out, HB6.out, HEQ.out, by have h1 := HI2.out.fu; have h2 := HG5.out.nx; simp only [adv] at h2; omega, by have h1 := HI2.out.len; have h2 := HG5.out.nx; simp only [adv] at h2; simp; omega⟩⟩
    · rw [hM] at HAT HR
      rw [if_pos rfl, bnd_ok] at HR
      clear hM
      go_wp2_with fail
      refine HAT.out.mono ?_
      rintro e W2 ⟨rfl, l⟩
      have HP2 := hid (HP1.out.low l).nil
      have HF2 := hid (HF1.out.below l)
      clear l HAT
      go_wp2_with fail
      clear rf3
      go_loopg [4] 4097 (fun n kv wr => ∃ s' v' o' ks' kl, Hid (SI pb B Nb tv T (fun ks s3 => bnd (markP T s3 [125]) fun _ s4 => putP s4 ⟨13, ⟨#[]⟩, 0, ks⟩ (t.a : Int)) R W v o n wr s' v' o' ks' kv kl))
      case atStart => exact ⟨s1, v1, o1, ks1, [], hid ⟨HP2.out, HI1.out, own_nil _ _, HF2.out, fun k hk => (by cases hk), HR.out, by have := HP2.out.tl; omega, Nat.zero_le _⟩⟩
      case round =>
        obtain ⟨s', v', o', ks', kl, HI2⟩ := hrel
        have hgk : gk ≠ 0 := by have h1 := HI2.out.fu; have h2 := HI2.out.pm.nx; omega
        obtain ⟨n, rfl⟩ := Nat.exists_eq_succ_of_ne_zero hgk
        clear hgk
        have HAU := hid (at_any HI2.out.pm ⟨#[44]⟩)
        rw [ml44] at HAU
        obtain ⟨ka, kc, hkf⟩ := own_form HI2.out.own
        obtain ⟨L, hL⟩ : ∃ L, L = kl.length := ⟨_, rfl⟩
        rw [← hL] at hkf
        have HL := hid hL
        subst hkf
        have hLm : L ≤ maxLen := by have h1 := HI2.out.len; have h2 := HI2.out.pm.nx; have h3 := HI2.out.pm.tl; unfold maxLen; omega
        clear hL
        cases hM : isM T s' [44]
        · have HEQ := hid HI2.out.eq
          unfold memsP at HEQ
          rw [hM, if_neg (by decide), bnd_ok] at HEQ
          rw [hM] at HAU
          clear hM
          go_wp2_with fail
          refine HAU.out.mono ?_
          rintro e W3 ⟨rfl, l⟩
          have HP3 := hid (HI2.out.pm.low l)
          have HF3 := hid (HI2.out.fp.below l)
          have HK3 := hid (show OwnI W3 B (.slice ka L kc) kl from row_kept HI2.out.own (fun k hk => l.block k (row_at HI2.out.own hk).2.1))
          clear l
          go_wp2_with fail
          refine (mark_any HP3.out ⟨#[125]⟩).mono ?_
          intro e W4 hpo
          rw [ml125] at hpo
          cases hq : markP T s' [125] with
          | error q =>
            obtain ⟨c, x⟩ := q
            rw [hq] at hpo HEQ
            rw [bnd_bad] at HEQ
            obtain ⟨N, rfl, hf, hb⟩ := po_bad hpo
            have HFL := hid hf
            have HBD := hid ((HP.out.below HF3.out).trans hb)
            clear hf hb hpo hq
            go_wp2_with fail
            rw [← HEQ.out]
            exact ⟨rfl, N, rfl, HFL.out, HBD.out⟩
          | ok q =>
            obtain ⟨u4, s4⟩ := q
            have HI4 := hid (HI2.out.inv.gn (gn_mark hq))
            rw [hq] at hpo HEQ
            rw [bnd_ok] at HEQ
            obtain ⟨rfl, v4, o4, ks4, hp, hf⟩ := po_ok hpo
            have HP4 := hid hp
            have HF4 := hid (HF3.out.trans hf)
            have HK4 := hid (own_stay HK3.out HP3.out hf)
            have HLL := hid (HI4.out.l HP4.out)
            clear hp hf hpo hq
            have HNB := hid (show ∀ k, (Value.slice ka L kc).ownBlock = some k → ¬ Nb k from fun k hk hn => (by have h1 := HI2.out.kb k hk; have h2 := HP.out.apx.xl k hn; omega))
            go_wp2_with fail
            refine (put1_any HP4.out ⟨13, ⟨#[]⟩, 0, kl⟩ HK4.out HNB.out (t.a : Int) HLL.out.1 HLL.out.2).mono ?_
            intro e U hpo
            have HPO := hid hpo
            rw [HEQ.out] at HPO
            clear hpo
            cases R with
            | error q =>
              obtain ⟨c, x⟩ := q
              obtain ⟨N, rfl, hf, hb⟩ := po_bad HPO.out
              have HFL := hid hf
              have HBD := hid ((HP.out.below HF4.out).trans hb)
              clear hf hb HPO
              go_wp2_with fail
              exact ⟨rfl, N, rfl, HFL.out, HBD.out⟩
            | ok q =>
              obtain ⟨z, s9⟩ := q
              obtain ⟨rfl, v9, o9, ks9, hp, hf⟩ := po_ok HPO.out
              have HPU := hid hp
              have HFU := hid (HF4.out.trans hf)
              clear hp hf HPO
              go_wp2_with fail
              go_ret
              exact ⟨rfl, v9, o9, ks9, HPU.out, HFU.out⟩
        · have HEQ := hid HI2.out.eq
          unfold memsP at HEQ
          rw [hM, if_pos rfl, ← HL.out] at HEQ
          rw [hM] at HAU
          have HKD := hid (isM_kind hM)
          clear hM
          go_wp2_with fail
          refine HAU.out.mono ?_
          rintro e W3 ⟨rfl, l⟩
          have HP3 := hid (HI2.out.pm.low l)
          have HF3 := hid (HI2.out.fp.below l)
          have HK3 := hid (show OwnI W3 B (.slice ka L kc) kl from row_kept HI2.out.own (fun k hk => l.block k (row_at HI2.out.own hk).2.1))
          clear l
          go_wp2_with fail
          refine (take_any HP3.out HKD.out).mono ?_
          rintro e W4 ⟨rfl, hp, hf⟩
          have HP4 := hid hp
          have HK4 := hid (own_stay HK3.out HP3.out hf)
          have HF4 := hid (HF3.out.trans hf)
          clear hp hf
          have HI4 := hid (HI2.out.inv.gn (gn_adv s'))
          have HLL := hid (HI4.out.l HP4.out)
          go_wp2_with fail
          refine (member_any HP4.out L HLL.out.1 HLL.out.2).mono ?_
          intro e W5 hpo
          cases hq : memP T (adv s') L with
          | error q =>
            obtain ⟨c, x⟩ := q
            rw [hq] at hpo HEQ
            rw [bnd_bad, bnd_bad] at HEQ
            obtain ⟨N, rfl, hf, hb⟩ := po_bad hpo
            have HFL := hid hf
            have HBD := hid ((HP.out.below HF4.out).trans hb)
            clear hf hb hpo hq
            go_wp2_with fail
            rw [← HEQ.out]
            exact ⟨rfl, N, rfl, HFL.out, HBD.out⟩
          | ok q =>
            obtain ⟨k5, s5⟩ := q
            have HG5 := hid (gn_mem hq)
            rw [hq] at hpo HEQ
            rw [bnd_ok] at HEQ
            obtain ⟨rfl, v5, o5, ks5, hp, hf⟩ := po_ok hpo
            have HP5 := hid hp
            have HK5 := hid (own_stay HK4.out HP4.out hf)
            have HF5 := hid (HF4.out.trans hf)
            clear hp hf hpo hq
            have HLN := hid (show kl.length ≤ 100000 by have h1 := HI2.out.len; have h2 := HI2.out.pm.nx; have h3 := HI2.out.pm.tl; omega)
            have HBS := hid (show B ≤ W5.heap.size from Nat.le_trans HP5.out.pbB (Nat.le_of_lt (lt_blk HP5.out.box)))
            go_wp2_with (at_builtin; refine app_kid rfl _ _ rfl k5 rfl rfl HK5.out HLN.out HBS.out ?_; intro kv6 W6 ho hg hw; have HK6 := hid ho; have HP6 := hid (HP5.out.kid HK5.out hg hw ho); have HF6 := hid (HF5.out.kid HI2.out.kb hg); have HB6 := hid (kb_kid HF5.out.size HI2.out.kb hw); clear ho hg hw)
            go_roundg n
            case measure => omega
            case rel => exact ⟨s5, v5, o5, ks5, kl ++ [k5], hid ⟨HP6.out, HI2.out.inv.gn ((gn_adv s').trans HG5.out), HK6.out, HF6.out, HB6.out, HEQ.out, by have h1 := HI2.out.fu; have h2 := HG5.out.nx; simp only [adv] at h2; omega, by have h1 := HI2.out.len; have h2 := HG5.out.nx; simp only [adv] at h2; simp; omega⟩⟩
end Go.Proofs.YtlhlpamciafocaaGreatDoor.L
