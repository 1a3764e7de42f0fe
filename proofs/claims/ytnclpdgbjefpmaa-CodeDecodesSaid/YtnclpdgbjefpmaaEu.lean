import Derived.Test.YtnclpdgbjefpmaaMgAC
namespace Go.Proofs.Ytnclpdgbjefpmaa.L
open Go.RowKit
set_option linter.unusedVariables false
set_option linter.unusedSimpArgs false
theorem kp_box {B g q : Nat} {W W' : World} {cs : Array Value} {t : TypeId} {fr : Nat × Nat} (k : Kp B g W W') (h : W.heap[q]? = some (.cells cs t fr)) (ht : t ≠ 5) (hq : q ≠ g) : W'.heap[q]? = some (.cells cs t fr) :=
  (k.block q (lt_blk h) hq (fun cs' fr' e => by rw [h] at e; injection e with e; injection e with _ e2 _; exact ht e2)).trans h
theorem kp_le {B g : Nat} {W W' : World} (k : Kp B g W W') : W.heap.size ≤ W'.heap.size := k.size
set_option maxHeartbeats 8000000 in
set_option maxRecDepth 100000 in
theorem program_any (p : Pg) (pv : Array Value) (B g : Nat) (v : Value) (w : World) (hR : ∃ w0 : World, Below w0.heap.size w0 w ∧ w0.heap.size ≤ g ∧ PgR w0 pv p) (hf : Fm p) (h : Wv B g v [] w) :
    Calls Try.prog 23 #[.pointer (some ⟨g, 0, none⟩), .agg pv] w (Wrs B g [] (enc p) w) := by
  obtain ⟨w0, h0, hg, hR⟩ := hR
  obtain ⟨a0, c0, a1, c1, a2, c2, a3, c3, a4, c4, rfl, r0, r1, r2, r3, r4⟩ := hR.ex
  obtain ⟨va, n, vc, rfl⟩ : ∃ va n vc, v = .slice va n vc := by obtain ⟨x, y, e⟩ := ownb_form h.own; exact ⟨_, _, _, e⟩
  have hel := enc_len hf
  rw [enc_eq] at hel ⊢
  have hd := hf.dep
  have hlc := hf.loc
  obtain ⟨dn, hdn⟩ : ∃ dn : Nat, p.dep = (dn : Int) := ⟨p.dep.toNat, by omega⟩
  obtain ⟨ln, hln⟩ : ∃ ln : Nat, p.loc = (ln : Int) := ⟨p.loc.toNat, by omega⟩
  rw [hdn] at hd
  rw [hln] at hlc
  rw [hdn, hln, Int.toNat_natCast, Int.toNat_natCast] at hel
  rw [hdn, hln, Int.toNat_natCast, Int.toNat_natCast]
  clear hdn hln
  have hpool := hf.pool
  have hcode := hf.code
  have D1 := hid (fun l v W (k : Wv B g v l W) (hl : l.length + (cnt dn).length ≤ 70368744170000) => count_any B g dn l v W (by omega) k (by omega))
  have D2 := hid (fun l v W (k : Wv B g v l W) (hl : l.length + (cnt ln).length ≤ 70368744170000) => count_any B g ln l v W (by omega) k (by omega))
  have C0 := hid (fun l v W (k : Wv B g v l W) (kb : Below w0.heap.size w0 W) (hl : l.length + (cnt p.tx.length ++ p.tx.flatMap textC.W).length ≤ 70368744170000) => wtexts p.tx a0 c0 B g l v W (by omega) ⟨w0, kb, hg, r0⟩ k (by omega))
  have C1 := hid (fun l v W (k : Wv B g v l W) (kb : Below w0.heap.size w0 W) (hl : l.length + (cnt p.nu.length ++ p.nu.flatMap sgnC.W).length ≤ 70368744170000) => wnums p.nu a1 c1 B g l v W (by omega) ⟨w0, kb, hg, r1⟩ k (by omega) (fun x hx => hf.nu x hx))
  have C2 := hid (fun l v W (k : Wv B g v l W) (kb : Below w0.heap.size w0 W) (hl : l.length + (cnt p.st.length ++ p.st.flatMap setC.W).length ≤ 70368744170000) => wsets p.st a2 c2 B g l v W (by omega) (fun x hx => by have := hf.st x hx; unfold setB inR at this; rw [Bool.and_eq_true] at this; have := of_decide_eq_true this.1; omega) ⟨w0, kb, hg, r2⟩ k (by omega))
  have C3 := hid (fun l v W (k : Wv B g v l W) (kb : Below w0.heap.size w0 W) (hl : l.length + (cnt p.ns.length ++ p.ns.flatMap nsetC.W).length ≤ 70368744170000) => wnsets p.ns a3 c3 B g l v W (by omega) (fun x hx => by have := hf.ns x hx; unfold setB inR at this; rw [Bool.and_eq_true] at this; have := of_decide_eq_true this.1; omega) ⟨w0, kb, hg, r3⟩ k (by omega) (fun x hx y hy => by have := hf.ns x hx; unfold setB at this; rw [Bool.and_eq_true, Bool.and_eq_true, List.all_eq_true] at this; exact this.2.1 y hy))
  have C4 := hid (fun l v W (k : Wv B g v l W) (kb : Below w0.heap.size w0 W) (hl : l.length + (cnt p.cd.length ++ p.cd.flatMap insC.W).length ≤ 70368744170000) => wcode p.cd a4 c4 B g l v W (by omega) ⟨w0, kb, hg, r4⟩ k (by omega) (fun x hx => hf.cd x hx))
  generalize cnt p.tx.length ++ p.tx.flatMap textC.W = o1 at *
  generalize cnt p.nu.length ++ p.nu.flatMap sgnC.W = o2 at *
  generalize cnt p.st.length ++ p.st.flatMap setC.W = o3 at *
  generalize cnt p.ns.length ++ p.ns.flatMap nsetC.W = o4 at *
  generalize cnt p.cd.length ++ p.cd.flatMap insC.W = o5 at *
  generalize cnt dn = od at *
  generalize cnt ln = ol at *
  generalize p.tx.length = Lz0 at *
  generalize p.nu.length = Lz1 at *
  generalize p.st.length = Lz2 at *
  generalize p.ns.length = Lz3 at *
  generalize p.cd.length = Lz4 at *
  have HEL := hid (show 4 + od.length + ol.length + o1.length + o2.length + o3.length + o4.length + o5.length ≤ 600000000 by simp only [List.length_append, List.length_cons, List.length_nil] at hel; omega)
  clear hel hR r0 r1 r2 r3 r4 hf
  have b0 : Lz0 ≤ maxLen := by unfold maxLen; omega
  have b1 : Lz1 ≤ maxLen := by unfold maxLen; omega
  have b2 : Lz2 ≤ maxLen := by unfold maxLen; omega
  have b3 : Lz3 ≤ maxLen := by unfold maxLen; omega
  have b4 : Lz4 ≤ maxLen := by unfold maxLen; omega
  clear hpool hcode
  have HX := hid (heap_alloc_new w (.cells #[.slice a0 Lz0 c0, .slice a1 Lz1 c1, .slice a2 Lz2 c2, .slice a3 Lz3 c3, .slice a4 Lz4 c4, .int .i64 (dn : Int), .int .i64 (ln : Int)] 30))
  have HB0 := hid (belowA w (.cells #[.slice a0 Lz0 c0, .slice a1 Lz1 c1, .slice a2 Lz2 c2, .slice a3 Lz3 c3, .slice a4 Lz4 c4, .int .i64 (dn : Int), .int .i64 (ln : Int)] 30))
  have HV := hid (h.low HB0.out)
  have H0 := hid (bch h0 HB0.out)
  have HK := hid ((Kp.refl B g w).below HB0.out h.le)
  have HNE := hid (show w.heap.size ≠ g from fun e => by have := lt_blk h.box; omega)
  have HGL := hid (show g < B from h.lt)
  have HGG := hid hg
  have HKB := hid (fun W W' (k : Kp B g W W') (hb : Below w0.heap.size w0 W) => kp_below hb k hg h.lt)
  clear h h0 HB0
  go_enter Try.func23, Try.ntmps23
  go_upto_region 1 with fail
  generalize w.alloc (.cells #[.slice a0 Lz0 c0, .slice a1 Lz1 c1, .slice a2 Lz2 c2, .slice a3 Lz3 c3, .slice a4 Lz4 c4, .int .i64 (dn : Int), .int .i64 (ln : Int)] 30) = W at *
  obtain ⟨q, hq⟩ : ∃ q, q = w.heap.size := ⟨_, rfl⟩
  rw [← hq] at HX HNE ⊢
  clear hq
  have y : W.cell? ⟨g, 0, none⟩ = some (.slice va n vc) := cell_of_row _ _ 0 _ _ _ HV.out.box
  have HL := hid (show ([] : List UInt8).length + (⟨#[66, 82, 84, 1]⟩ : ByteArray).size ≤ 70368744177664 by simp [ByteArray.size])
  go_wp2_with (at_builtin; go_loud (refine wpList_text rfl _ _ rfl B (.slice va n vc) [] ⟨#[66, 82, 84, 1]⟩ rfl HV.out.own rfl HL.out HV.out.le ?_))
  intro v' w2 ho' hg'
  obtain ⟨va', n', vc', rfl⟩ : ∃ va' n' vc', v' = .slice va' n' vc' := by obtain ⟨x, y, e⟩ := ownb_form ho'; exact ⟨_, _, _, e⟩
  have HP := hid (wv_put HV.out hg' ho')
  have hbx : w2.heap[g]? = some (.cells #[.slice va n vc] 62 (0, 0)) := (hg'.block g (lt_blk HV.out.box) (fun e => by have := (row_at HV.out.own e.symm).1; have := HV.out.lt; omega)).trans HV.out.box
  have y1 : w2.cell? ⟨g, 0, none⟩ = some (.slice va n vc) := cell_of_row _ _ 0 _ _ _ hbx
  have f1 : w2.frozen? ⟨g, 0, none⟩ = false := frz_row hbx 0
  clear hbx y ho' hg'
  go_upto_region 2 with fail
  generalize w2.setCell ⟨g, 0, none⟩ (.slice va' n' vc') = X0 at *
  have HV := hid (show Wv B g (.slice va' n' vc') [66, 82, 84, 1] X0 from HP.out.1)
  have HX := hid (kp_box HP.out.2 HX.out (by decide) HNE.out)
  have H0 := hid (HKB.out _ _ HP.out.2 H0.out)
  have HK := hid (HK.out.trans HP.out.2)
  clear HP y1 f1 HL
  have x0 : X0.cell? ⟨q, 5, none⟩ = some (.int .i64 (dn : Int)) := cell_of_row _ _ 5 _ _ _ HX.out
  have HC := hid (D1.out ([66, 82, 84, 1]) _ X0 HV.out (by have := HEL.out; simp only [List.length_append, List.length_cons, List.length_nil]; omega))
  go_wp2_with fail
  refine HC.out.mono ?_
  rintro e X1 ⟨rfl, ⟨v1, h1⟩, h2⟩
  have HV := hid h1
  have HX := hid (kp_box h2 HX.out (by decide) HNE.out)
  have H0 := hid (HKB.out _ _ h2 H0.out)
  have HK := hid (HK.out.trans h2)
  clear h1 h2 HC x0
  have x1 : X1.cell? ⟨q, 6, none⟩ = some (.int .i64 (ln : Int)) := cell_of_row _ _ 6 _ _ _ HX.out
  have HC := hid (D2.out ([66, 82, 84, 1] ++ od) _ X1 HV.out (by have := HEL.out; simp only [List.length_append, List.length_cons, List.length_nil]; omega))
  go_wp2_with fail
  refine HC.out.mono ?_
  rintro e X2 ⟨rfl, ⟨v2, h1⟩, h2⟩
  have HV := hid h1
  have HX := hid (kp_box h2 HX.out (by decide) HNE.out)
  have H0 := hid (HKB.out _ _ h2 H0.out)
  have HK := hid (HK.out.trans h2)
  clear h1 h2 HC x1
  have x2 : X2.cell? ⟨q, 0, none⟩ = some (.slice a0 Lz0 c0) := cell_of_row _ _ 0 _ _ _ HX.out
  have HC := hid (C0.out ([66, 82, 84, 1] ++ od ++ ol) _ X2 HV.out H0.out (by have := HEL.out; simp only [List.length_append, List.length_cons, List.length_nil]; omega))
  go_wp2_with fail
  refine HC.out.mono ?_
  rintro e X3 ⟨rfl, ⟨v3, h1⟩, h2⟩
  have HV := hid h1
  have HX := hid (kp_box h2 HX.out (by decide) HNE.out)
  have H0 := hid (HKB.out _ _ h2 H0.out)
  have HK := hid (HK.out.trans h2)
  clear h1 h2 HC x2
  have x3 : X3.cell? ⟨q, 1, none⟩ = some (.slice a1 Lz1 c1) := cell_of_row _ _ 1 _ _ _ HX.out
  have HC := hid (C1.out ([66, 82, 84, 1] ++ od ++ ol ++ o1) _ X3 HV.out H0.out (by have := HEL.out; simp only [List.length_append, List.length_cons, List.length_nil]; omega))
  go_wp2_with fail
  refine HC.out.mono ?_
  rintro e X4 ⟨rfl, ⟨v4, h1⟩, h2⟩
  have HV := hid h1
  have HX := hid (kp_box h2 HX.out (by decide) HNE.out)
  have H0 := hid (HKB.out _ _ h2 H0.out)
  have HK := hid (HK.out.trans h2)
  clear h1 h2 HC x3
  have x4 : X4.cell? ⟨q, 2, none⟩ = some (.slice a2 Lz2 c2) := cell_of_row _ _ 2 _ _ _ HX.out
  have HC := hid (C2.out ([66, 82, 84, 1] ++ od ++ ol ++ o1 ++ o2) _ X4 HV.out H0.out (by have := HEL.out; simp only [List.length_append, List.length_cons, List.length_nil]; omega))
  go_wp2_with fail
  refine HC.out.mono ?_
  rintro e X5 ⟨rfl, ⟨v5, h1⟩, h2⟩
  have HV := hid h1
  have HX := hid (kp_box h2 HX.out (by decide) HNE.out)
  have H0 := hid (HKB.out _ _ h2 H0.out)
  have HK := hid (HK.out.trans h2)
  clear h1 h2 HC x4
  have x5 : X5.cell? ⟨q, 3, none⟩ = some (.slice a3 Lz3 c3) := cell_of_row _ _ 3 _ _ _ HX.out
  have HC := hid (C3.out ([66, 82, 84, 1] ++ od ++ ol ++ o1 ++ o2 ++ o3) _ X5 HV.out H0.out (by have := HEL.out; simp only [List.length_append, List.length_cons, List.length_nil]; omega))
  go_wp2_with fail
  refine HC.out.mono ?_
  rintro e X6 ⟨rfl, ⟨v6, h1⟩, h2⟩
  have HV := hid h1
  have HX := hid (kp_box h2 HX.out (by decide) HNE.out)
  have H0 := hid (HKB.out _ _ h2 H0.out)
  have HK := hid (HK.out.trans h2)
  clear h1 h2 HC x5
  have x6 : X6.cell? ⟨q, 4, none⟩ = some (.slice a4 Lz4 c4) := cell_of_row _ _ 4 _ _ _ HX.out
  have HC := hid (C4.out ([66, 82, 84, 1] ++ od ++ ol ++ o1 ++ o2 ++ o3 ++ o4) _ X6 HV.out H0.out (by have := HEL.out; simp only [List.length_append, List.length_cons, List.length_nil]; omega))
  go_wp2_with fail
  refine HC.out.mono ?_
  rintro e X7 ⟨rfl, ⟨v7, h1⟩, h2⟩
  have HV := hid h1
  have HX := hid (kp_box h2 HX.out (by decide) HNE.out)
  have H0 := hid (HKB.out _ _ h2 H0.out)
  have HK := hid (HK.out.trans h2)
  clear h1 h2 HC x6
  go_wp2_with fail
  go_end0
  exact ⟨rfl, ⟨_, by simpa using HV.out⟩, HK.out⟩
end Go.Proofs.Ytnclpdgbjefpmaa.L
