import Derived.Test.YtcldglilhhhdoaaGreatDoorPfF
import Derived.Test.YtcldglilhhhdoaaGreatDoorMgAS
namespace Go.Proofs.YtcldglilhhhdoaaGreatDoor.L
open Go.RowKit
set_option linter.unusedVariables false
set_option linter.unusedSimpArgs false
theorem own_growm {pb B n : Nat} {Z w' U : World} {v v' kv : Value} {ps : List Pt} {p : Pt} {ks : Nat → Value} {cs : Array Value} (hn : n = ps.length) (h : OwnP Z B v ps ks ps.length) (hx : OwnI Z B kv p.kids) (hr : w'.ownsRow B 46 4 v' (n + 1) (CP ps ks n ++ [.int .i64 p.kind, .string p.text, .int .i64 p.num, kv])) (hg : Z.grownBy w' v.ownBlock) (hpb : w'.heap[pb]? = some (.cells cs 71 (0, 0))) (hu : ∀ k, k ≠ pb → U.heap[k]? = w'.heap[k]?) : OwnP U B v' (ps ++ [p]) (fun j => if j = n then kv else ks j) (n + 1) := by
 subst hn
 have hr0 := h.row
 rw [← CP_app ps p ks ps.length (Nat.le_refl _)] at hr0
 have h0 : OwnP Z B v (ps ++ [p]) ks ps.length := ⟨hr0, fun j hj => (by rw [pt_app ps p hj]; exact h.kids j hj)⟩
 have h1 : OwnP w' B v' (ps ++ [p]) (fun j => if j = ps.length then kv else ks j) (ps.length + 1) := h0.more (by rw [pt_last]; exact hx) (by rw [pt_last, CP_app ps p ks ps.length (Nat.le_refl _)]; exact hr) hg
 exact ⟨row_kept h1.row (fun k hk => hu k (type_box h1.row hpb (by decide) hk)), fun j hj => row_kept (h1.kids j hj) (fun k hk => hu k (type_box (h1.kids j hj) hpb (by decide) hk))⟩
/-- Of the blocks that stood, only one and a row's may have changed. -/
theorem own_at {W : World} {B : Nat} {v : Value} {l : List Int} (h : OwnI W B v l) {i : Nat} (hi : i < l.length) : ∃ g c, v = .slice (some ⟨g, 0, none⟩) l.length c ∧ g < W.heap.size ∧ W.cell? ⟨g, i, none⟩ = some (.int .i64 (l.getD i 0)) := by
 rcases h.2 with ⟨_, n0⟩ | ⟨g, cap, cur, rfl, hb, hg, h3⟩
 ·omega
 ·exact ⟨g, cap, rfl, lt_blk hg, (own_cell h rfl i hi).1⟩
theorem row_base {W : World} {b1 b2 : Nat} {e : TypeId} {size : Nat} {v : Value} {n : Nat} {xs : List Value} (h : W.ownsRow b1 e size v n xs) (hb : b2 ≤ b1) : W.ownsRow b2 e size v n xs := by
 refine ⟨h.1, ?_⟩
 rcases h.2 with h0 | ⟨g, cap, cur, rfl, h1, hg, h3⟩
 ·exact Or.inl h0
 ·exact Or.inr ⟨g, cap, cur, rfl, Nat.le_trans hb h1, hg, h3⟩
theorem MM.moref {mb B : Nat} {tv : Value} {T : List Tok} {W : World} {s : PS} {ws : List Wn} {fr : List Int} {fl : Array Value} {wv v o f : Value} {ks : Nat → Value} {W' : World} {f' : Value} {fr' : List Int} (h : MM mb B tv T W s ws fr fl wv v o f ks) (hb : W'.heap[mb]? = some (.cells (mc tv s.nx wv v o f' s.ns fl) 71 (0, 0))) (hk : ∀ k, k < W.heap.size → k ≠ mb → W'.heap[k]? = W.heap[k]?) (hp : OwnI W' B f' fr') (hkf : ∀ j, j < s.ps.length → ∀ k, (ks j).ownBlock = some k → f'.ownBlock ≠ some k) (hof : ∀ k, o.ownBlock = some k → f'.ownBlock ≠ some k) : MM mb B tv T W' s ws fr' fl wv v o f' ks := by
 have key : ∀ {e : TypeId} {base size n : Nat} {u : Value} {xs : List Value}, e ≠ 71 → W.ownsRow base e size u n xs → W'.ownsRow base e size u n xs := fun he hr => row_kept hr (fun k hkk => hk k (row_at hr hkk).2.1 (type_box hr h.box he hkk))
 exact ⟨hb, h.fl19, key (by decide) h.tok, key (by decide) h.wants, ⟨key (by decide) h.parts.row, fun j hj => key (by decide) (h.parts.kids j hj)⟩, key (by decide) h.offs, hp, h.mbB, h.nx, h.ns, h.tl, h.fin, h.ko, hkf, hof⟩
theorem MM.morep {mb B : Nat} {tv : Value} {T : List Tok} {W : World} {s : PS} {ws : List Wn} {fr : List Int} {fl : Array Value} {wv v o f : Value} {ks : Nat → Value} {W' : World} {p : Pt} {v' : Value} {ks' : Nat → Value} (h : MM mb B tv T W s ws fr fl wv v o f ks) (hb : W'.heap[mb]? = some (.cells (mc tv s.nx wv v' o f s.ns fl) 71 (0, 0))) (hk : ∀ k, k < W.heap.size → k ≠ mb → v.ownBlock ≠ some k → W'.heap[k]? = W.heap[k]?) (hp : OwnP W' B v' (s.ps ++ [p]) ks' (s.ps.length + 1)) (ha : ∀ j, j < s.ps.length + 1 → ∀ k, (ks' j).ownBlock = some k → o.ownBlock ≠ some k ∧ f.ownBlock ≠ some k) : MM mb B tv T W' { s with ps := s.ps ++ [p] } ws fr fl wv v' o f ks' := by
 have key : ∀ {e : TypeId} {base size n : Nat} {u : Value} {xs : List Value}, e ≠ 71 → e ≠ 46 → W.ownsRow base e size u n xs → W'.ownsRow base e size u n xs := fun he h2 hr => row_kept hr (fun k hkk => hk k (row_at hr hkk).2.1 (type_box hr h.box he hkk) (type_ne hr h.parts.row h2 hkk))
 refine ⟨hb, h.fl19, key (by decide) (by decide) h.tok, key (by decide) (by decide) h.wants, ?_, key (by decide) (by decide) h.offs, key (by decide) (by decide) h.free, h.mbB, h.nx, h.ns, h.tl, h.fin, fun j hj k hkk => (ha j (by simpa using hj) k hkk).1, fun j hj k hkk => (ha j (by simpa using hj) k hkk).2, h.of⟩
 show OwnP W' B v' (s.ps ++ [p]) ks' (s.ps ++ [p]).length
 rw [List.length_append]
 exact hp
theorem MM.moreo {mb B : Nat} {tv : Value} {T : List Tok} {W : World} {s : PS} {ws : List Wn} {fr : List Int} {fl : Array Value} {wv v o f : Value} {ks : Nat → Value} {W' : World} {x : Int} {o' : Value} (h : MM mb B tv T W s ws fr fl wv v o f ks) (hb : W'.heap[mb]? = some (.cells (mc tv s.nx wv v o' f s.ns fl) 71 (0, 0))) (hk : ∀ k, k < W.heap.size → k ≠ mb → o.ownBlock ≠ some k → W'.heap[k]? = W.heap[k]?) (hp : OwnI W' B o' (s.os ++ [x])) (hn : ∀ k, o'.ownBlock = some k → o.ownBlock = some k ∨ W.heap.size ≤ k) : MM mb B tv T W' { s with os := s.os ++ [x] } ws fr fl wv v o' f ks := by
 have key : ∀ {e : TypeId} {base size n : Nat} {u : Value} {xs : List Value}, e ≠ 71 → (∀ k, u.ownBlock = some k → o.ownBlock ≠ some k) → W.ownsRow base e size u n xs → W'.ownsRow base e size u n xs := fun he h2 hr => row_kept hr (fun k hkk => hk k (row_at hr hkk).2.1 (type_box hr h.box he hkk) (h2 k hkk))
 refine ⟨hb, h.fl19, key (by decide) (fun k hkk => type_ne h.tok h.offs (by decide) hkk) h.tok, key (by decide) (fun k hkk => type_ne h.wants h.offs (by decide) hkk) h.wants, ⟨key (by decide) (fun k hkk => type_ne h.parts.row h.offs (by decide) hkk) h.parts.row, fun j hj => key (by decide) (fun k hkk => h.ko j hj k hkk) (h.parts.kids j hj)⟩, hp, key (by decide) (fun k hkk e => h.of k e hkk) h.free, h.mbB, h.nx, h.ns, h.tl, h.fin, fun j hj k hkk e => ?_, h.kf, fun k e e2 => ?_⟩
 ·rcases hn k e with e2 | e2
  ·exact h.ko j hj k hkk e2
  ·have := (row_at (h.parts.kids j hj) hkk).2.1
   omega
 ·rcases hn k e with e3 | e3
  ·exact h.of k e3 e2
  ·have := (row_at h.free e2).2.1
   omega
theorem mc3 (tv : Value) (nx : Nat) (wv v o f : Value) (ns : Nat) (fl : Array Value) : (mc tv nx wv v o f ns fl)[3]? = some v := by
 unfold mc
 rw [Array.getElem?_append_left (by simp)]
 rfl
theorem mc4 (tv : Value) (nx : Nat) (wv v o f : Value) (ns : Nat) (fl : Array Value) : (mc tv nx wv v o f ns fl)[4]? = some o := by
 unfold mc
 rw [Array.getElem?_append_left (by simp)]
 rfl
theorem take_cell {W : World} {B g c n : Nat} {l : List Int} (h : OwnI W B (.slice (some ⟨g, 0, none⟩) l.length c) l) {j : Nat} {u : Value} (hu : ((l.take n).map (Value.int .i64))[j]? = some u) : W.cell? ((⟨g, 0, none⟩ : Addr).add j) = some u := by
 rw [List.getElem?_map, List.getElem?_take] at hu
 split at hu
 ·cases hj : l[j]? with
  | none => rw [hj] at hu; cases hu
  | some z =>
   rw [hj] at hu
   have hl : j < l.length := by
    have := List.getElem?_eq_some_iff.1 hj
    exact this.1
   rw [Go.WideShapes.add_plain]
   show W.cell? ⟨g, 0 + j, none⟩ = _
   rw [Nat.zero_add, (own_cell h rfl j hl).1, List.getD_eq_getElem?_getD, hj]
   exact hu
 ·cases hu
set_option maxHeartbeats 16000000 in
set_option maxRecDepth 100000 in
theorem mlay_any {mb B : Nat} {tv : Value} {T : List Tok} {W : World} {s : PS} {ws : List Wn} {fr : List Int} {fl : Array Value} {wv v o f : Value} {ks : Nat → Value} (h : MM mb B tv T W s ws fr fl wv v o f ks) (kd nu pos : Int) (tx : ByteArray) (base : Nat) (hb : base ≤ fr.length) (hf1 : fr.length ≤ 100000) (hp1 : s.ps.length ≤ 100000) (ho1 : s.os.length ≤ 100000) : Calls Tryz.prog 44 #[.pointer (some ⟨mb, 0, none⟩), .agg #[.int .i64 kd, .string tx, .int .i64 nu, .slice none 0 0], .int .i64 pos, .int .i64 (base : Int)] W fun e W' => e = .returned (.tuple #[]) ∧ (∃ v' o' f' ks', MM mb B tv T W' { s with ps := s.ps ++ [⟨kd, tx, nu, fr.drop base⟩], os := s.os ++ [pos] } ws (fr.take base ++ [(s.ps.length : Int)]) fl wv v' o' f' ks') ∧ Fmm B W W' := by
 have HP := hid h
 obtain ⟨i3, hi3, hz03, hz13, hz23⟩ := info_parts info3
 obtain ⟨N, hN⟩ : ∃ N, N = fr.length := ⟨_, rfl⟩
 have HNN := hid hN
 rw [← hN] at hb hf1
 have hNm : N ≤ maxLen := by unfold maxLen; omega
 have HB0 := hid (belowA W (.cells #[.int .i64 kd, .string tx, .int .i64 nu, .slice none 0 0] 46))
 have HX0 := hid (heap_alloc_new W (.cells #[.int .i64 kd, .string tx, .int .i64 nu, .slice none 0 0] 46))
 have HSZ := hid (show (W.alloc (.cells #[.int .i64 kd, .string tx, .int .i64 nu, .slice none 0 0] 46)).heap.size = W.heap.size + 1 by simp)
 clear h hN
 go_enter Tryz.func44, Tryz.ntmps44
 go_upto_region 1 with (fail)
 generalize W.alloc (.cells #[.int .i64 kd, .string tx, .int .i64 nu, .slice none 0 0] 46) = X at *
 obtain ⟨bp, hbp⟩ : ∃ bp, bp = W.heap.size := ⟨_, rfl⟩
 have HBP := hid hbp
 rw [← hbp]
 rw [← hbp] at HX0
 clear hbp
 go_wp2_with fail
 go_loopw [8] (fun v wr => ∃ (i : Nat) (kv : Value), base ≤ i ∧ i ≤ N ∧ v = .int .i64 i ∧ Hid (wr.heap[bp]? = some (.cells #[.int .i64 kd, .string tx, .int .i64 nu, kv] 46 (0, 0))) ∧ Hid (OwnI wr (W.heap.size + 1) kv ((fr.drop base).take (i - base))) ∧ Hid (Below W.heap.size W wr)) (fun v _ => N - (intOf v).toNat)
 case atStart => exact ⟨base, _, Nat.le_refl _, hb, rfl, HX0, hid (by rw [Nat.sub_self, List.take_zero]; exact World.ownsRow_nil _ _ _ _), HB0⟩
 case round =>
  obtain ⟨i, kv, hbi, hin, rfl, HX, HK, HBW⟩ := hrel
  by_cases hlt : i < N
  ·have HiF := hid (show i < fr.length by rw [← HNN.out]; exact hlt)
   have HMR := hid (HP.out.low HBW.out)
   obtain ⟨x, hx⟩ : ∃ x, x = fr.getD i 0 := ⟨_, rfl⟩
   obtain ⟨fg, fc, hf, hfl, hfc⟩ := own_at HP.out.free HiF.out
   rw [← HNN.out] at hf
   have HFE := hid hf
   rw [← hx] at hfc
   have HKL := hid (show ((fr.drop base).take (i - base)).length = i - base by rw [List.length_take, List.length_drop]; have := HiF.out; omega)
   have HKM := hid (show (fr.drop base).take (i + 1 - base) = (fr.drop base).take (i - base) ++ [x] by rw [show i + 1 - base = (i - base) + 1 by omega, List.take_add_one, List.getElem?_drop, show base + (i - base) = i by omega, List.getElem?_eq_getElem HiF.out, hx, List.getD_eq_getElem?_getD, List.getElem?_eq_getElem HiF.out]; rfl)
   have MBB := hid (show ∀ Z, Below W.heap.size W Z → (fun Z => Z.cell? ⟨mb, 5, none⟩ = some (.slice (some ⟨fg, 0, none⟩) N fc) ∧ Z.cell? ⟨fg, i, none⟩ = some (.int .i64 x)) Z from fun Z hb => ⟨(HP.out.low hb).cell 5 (by decide) |>.trans (by rw [HFE.out]; rfl), (hb.cell (p := ⟨fg, i, none⟩) hfl).trans hfc⟩)
   have c5 : wr.cell? ⟨mb, 5, none⟩ = some (.slice (some ⟨fg, 0, none⟩) N fc) := (MBB.out _ HBW.out).1
   have g1 : (i : Int) < (N : Int) := by omega
   have g0 : (0 : Int) ≤ (i : Int) := by omega
   clear hx hf hfc hfl
   go_upto_region 4 with (fail)
   have HZ := hid (show Below W.heap.size W wr.drew from HBW.out.drew)
   have HXZ := hid (show wr.drew.heap[bp]? = _ from HX.out)
   have HKZ := hid (own_low HK.out (show Below wr.heap.size wr wr.drew from (Below.refl _ _).drew))
   refine wp_region_held_drew (S := (fun Z => Z.cell? ⟨mb, 5, none⟩ = some (.slice (some ⟨fg, 0, none⟩) N fc) ∧ Z.cell? ⟨fg, i, none⟩ = some (.int .i64 x))) (by kernel_rfl) ?_ (fun hHeld => ?_)
   ·exact MBB.out _ HZ.out
   generalize wr.drew = Z0 at *
   clear c5
   refine wpAnyH_take (i := 0) (v := ?_) rfl (by kernel_rfl) (by kernel_rfl) (by kernel_rfl) (fun _ _ _ h => h) (Or.inl ⟨by rfl, ?_⟩) (by assumption) ?_
   rotate_left
   ·(intro w hSw; (try dsimp only at hSw); go_simp; try with_reducible rfl)
   try simp only [Act.put, List.setIfInBounds_toArray, List.set_cons_zero, List.set_cons_succ]
   refine wpAnyH_take (i := 2) (v := ?_) rfl (by kernel_rfl) (by kernel_rfl) (by kernel_rfl) (fun _ _ _ h => h) (Or.inl ⟨by rfl, ?_⟩) (by assumption) ?_
   rotate_left
   ·(intro w hSw; (try dsimp only at hSw); go_simp; try with_reducible rfl)
   try simp only [Act.put, List.setIfInBounds_toArray, List.set_cons_zero, List.set_cons_succ]
   refine wpAnyH_take (i := 3) (v := ?_) rfl (by kernel_rfl) (by kernel_rfl) (by kernel_rfl) (fun _ _ _ h => h) (Or.inl ⟨by rfl, ?_⟩) (by assumption) ?_
   rotate_left
   ·(intro w hSw; (try dsimp only at hSw); go_simp; try with_reducible rfl)
   try simp only [Act.put, List.setIfInBounds_toArray, List.set_cons_zero, List.set_cons_succ]
   refine wpAnyH_take (i := 4) (v := ?_) rfl (by kernel_rfl) (by kernel_rfl) (by kernel_rfl) (fun _ _ _ h => h) (Or.inl ⟨by rfl, ?_⟩) (by assumption) ?_
   rotate_left
   ·(intro w hSw; (try dsimp only at hSw); go_simp; try with_reducible rfl)
   try simp only [Act.put, List.setIfInBounds_toArray, List.set_cons_zero, List.set_cons_succ]
   refine wpAnyH_take (i := 5) (v := ?_) rfl (by kernel_rfl) (by kernel_rfl) (by kernel_rfl) (fun _ _ _ h => h) (Or.inl ⟨by rfl, ?_⟩) (by assumption) ?_
   rotate_left
   ·(intro w hSw; (try dsimp only at hSw); go_simp; try with_reducible rfl)
   try simp only [Act.put, List.setIfInBounds_toArray, List.set_cons_zero, List.set_cons_succ]
   refine wpAnyH_take (i := 6) (v := ?_) rfl (by kernel_rfl) (by kernel_rfl) (by kernel_rfl) (fun _ _ _ h => h) (Or.inl ⟨by rfl, ?_⟩) (by assumption) ?_
   rotate_left
   ·(intro w hSw; (try dsimp only at hSw); go_simp; try with_reducible rfl)
   try simp only [Act.put, List.setIfInBounds_toArray, List.set_cons_zero, List.set_cons_succ]
   refine wpAnyH_take (i := 7) (v := ?_) rfl (by kernel_rfl) (by kernel_rfl) (by kernel_rfl) (fun _ _ _ h => h) (Or.inl ⟨by rfl, ?_⟩) (by assumption) ?_
   rotate_left
   ·(intro w hSw; (try dsimp only at hSw); go_simp; try with_reducible rfl)
   try simp only [Act.put, List.setIfInBounds_toArray, List.set_cons_zero, List.set_cons_succ]
   refine wpAnyH_take (i := 8) (v := ?_) rfl (by kernel_rfl) (by kernel_rfl) (by kernel_rfl) (fun _ _ _ h => h) (Or.inl ⟨by rfl, ?_⟩) (by assumption) ?_
   rotate_left
   ·(intro w hSw; (try dsimp only at hSw); go_simp; try with_reducible rfl)
   try simp only [Act.put, List.setIfInBounds_toArray, List.set_cons_zero, List.set_cons_succ]
   refine wpAnyH_ready (rs := [1, 9]) (by kernel_rfl) (by simp) ?_
   refine AllReadyH.cons rfl (fun K hK => ?_) ?_
   ·have wc : Z0.cell? ⟨bp, 3, none⟩ = some kv := cell_of_row _ _ 3 _ _ _ HXZ.out
    go_simp
    clear wc
    refine hK.out _ _ ?_ (fun hHeld => ?_)
    ·exact MBB.out _ HZ.out
    clear hK K hHeld
    try simp only [Act.put, List.setIfInBounds_toArray, List.set_cons_zero, List.set_cons_succ]
    have hHeld := MBB.out Z0 HZ.out
    refine wpAnyH_ready (rs := [9]) (by kernel_rfl) (by simp) ?_
    refine AllReadyH.cons rfl (fun K hK => ?_) AllReadyH.nil
    go_simp
    refine hK.out _ _ ?_ (fun hHeld => ?_)
    ·exact MBB.out _ (bch HZ.out (belowA Z0 (.cells #[.int .i64 x] 3)))
    clear hK K hHeld
    try simp only [Act.put, List.setIfInBounds_toArray, List.set_cons_zero, List.set_cons_succ]
    have HR := hid (heap_alloc_new Z0 (.cells #[.int .i64 x] 3))
    have HA9 := hid (belowA Z0 (.cells #[.int .i64 x] 3))
    have HB9 := hid (bch HZ.out HA9.out)
    have HX9 := hid ((HA9.out.block _ (lt_blk HXZ.out)).trans HXZ.out)
    have HK9 := hid (own_low HKZ.out HA9.out)
    generalize Z0.alloc (.cells #[.int .i64 x] 3) = Z1 at *
    generalize Z0.heap.size = rb at *
    have hHeld := MBB.out Z1 HB9.out
    refine wpAnyH_ready (rs := [10]) (by kernel_rfl) (by simp) ?_
    refine AllReadyH.cons rfl (fun K hK => ?_) AllReadyH.nil
    rw [if_pos (by rfl)]
    refine wp_append_stays _ _ 26 rfl (W.heap.size + 1) 3 i3 (.int .i64 0) 1 8 Tryz.underlying26 hi3 hz03 hz13 hz23 rfl (by decide) kv (i - base) (((fr.drop base).take (i - base)).map (Value.int .i64)) rfl (by have h9 := HK9.out; unfold OwnI at h9; rw [HKL.out] at h9; exact h9) ⟨rb, 0, none⟩ 1 1 [.int .i64 x] rfl rfl ?_ ?_ (by unfold maxLen; omega) (by omega) ?_ (by decide) ?_
    ·intro j u hu
     rw [Go.WideShapes.add_plain]
     show Z1.cell? ⟨rb, 0 + j, none⟩ = _
     rw [Nat.zero_add, cell_of_row _ _ j _ _ _ HR.out, List.getElem?_toArray]
     exact hu
    ·intro u hu
     simp only [List.mem_cons, List.not_mem_nil, or_false] at hu
     subst hu
     rfl
    ·have h2 := lt_blk HX9.out
     have h3 := HBP.out
     omega
    intro v' w' ho hg hvb
    obtain ⟨va, vc, rfl⟩ : ∃ va vc, v' = .slice va (i - base + 1) vc := (by rcases ho.2 with ⟨_, h0⟩ | ⟨r, cap, cur, e, _⟩; (exact absurd h0 (by omega)); (exact ⟨_, _, e⟩))
    have HOW := hid ho
    have HBU := hid (show Below W.heap.size W w' from ⟨hg.os.trans HB9.out.os, hg.tape.trans HB9.out.tape, hg.output.trans HB9.out.output, Nat.le_trans HB9.out.size hg.size, fun k hk => (hg.block k (Nat.lt_of_lt_of_le hk HB9.out.size) (fun e => by have := (row_at HK9.out e.symm).1; omega)).trans (HB9.out.block k hk)⟩)
    have HWW := hid ((hg.block bp (lt_blk HX9.out) (fun e => type_box HK9.out HX9.out (by decide) e.symm rfl)).trans HX9.out)
    clear ho hg hvb
    refine hK.out _ _ ?_ (fun hHeld => ?_)
    ·exact MBB.out _ HBU.out
    clear hK K hHeld
    try simp only [Act.put, List.setIfInBounds_toArray, List.set_cons_zero, List.set_cons_succ]
    have hHeld := MBB.out w' HBU.out
    refine wpAnyH_take (i := 11) (v := ?_) rfl (by kernel_rfl) (by kernel_rfl) (by kernel_rfl) (fun _ _ _ h => h) (Or.inl ⟨by rfl, ?_⟩) (by assumption) ?_
    rotate_left
    ·(intro w hSw; (try dsimp only at hSw); go_simp; try with_reducible rfl)
    try simp only [Act.put, List.setIfInBounds_toArray, List.set_cons_zero, List.set_cons_succ]
    refine wpAnyH_ready (rs := [12]) (by kernel_rfl) (by simp) ?_
    refine AllReadyH.cons rfl (fun K hK => ?_) AllReadyH.nil
    have wc : w'.cell? ⟨bp, 3, none⟩ = some kv := cell_of_row _ _ 3 _ _ _ HWW.out
    have wf : w'.frozen? ⟨bp, 3, none⟩ = false := frz_row HWW.out 3
    go_simp
    have HBT := hid (show Below W.heap.size W (w'.setCell ⟨bp, 3, none⟩ (.slice va (i - base + 1) vc)) from ⟨HBU.out.os, HBU.out.tape, HBU.out.output, by rw [World.size_setCell]; exact HBU.out.size, fun k hk => (set_oth HWW.out 3 (.slice va (i - base + 1) vc) (by have := HBP.out; omega)).trans (HBU.out.block k hk)⟩)
    refine hK.out _ _ ?_ (fun hHeld => ?_)
    ·exact MBB.out _ HBT.out
    clear hK K hHeld wc wf
    try simp only [Act.put, List.setIfInBounds_toArray, List.set_cons_zero, List.set_cons_succ]
    refine wpAnyH_done (by kernel_rfl) ?_ _
    clear hHeld
    have HXU := hid (show (w'.setCell ⟨bp, 3, none⟩ (.slice va (i - base + 1) vc)).heap[bp]? = some (.cells #[.int .i64 kd, .string tx, .int .i64 nu, (.slice va (i - base + 1) vc)] 46 (0, 0)) by rw [heap_setCell_same _ _ _ _ _ _ HWW.out]; rfl)
    have HKU := hid (show OwnI (w'.setCell ⟨bp, 3, none⟩ (.slice va (i - base + 1) vc)) (W.heap.size + 1) (.slice va (i - base + 1) vc) ((fr.drop base).take (i + 1 - base)) from row_kept (by rw [HKM.out, List.map_append, List.length_append, HKL.out]; exact HOW.out) (fun k hk => set_oth HWW.out 3 (.slice va (i - base + 1) vc) (type_box HOW.out HWW.out (by decide) hk)))
    generalize w'.setCell ⟨bp, 3, none⟩ (.slice va (i - base + 1) vc) = U at *
    go_wp2_with fail
    refine ⟨⟨i + 1, _, by omega, by omega, by go_num, hid HXU.out, hid HKU.out, hid HBT.out⟩, by simp [intOf]; omega⟩
   refine AllReadyH.cons rfl (fun K hK => ?_) AllReadyH.nil
   go_simp
   refine hK.out _ _ ?_ (fun hHeld => ?_)
   ·exact MBB.out _ (bch HZ.out (belowA Z0 (.cells #[.int .i64 x] 3)))
   clear hK K hHeld
   try simp only [Act.put, List.setIfInBounds_toArray, List.set_cons_zero, List.set_cons_succ]
   have HR := hid (heap_alloc_new Z0 (.cells #[.int .i64 x] 3))
   have HA9 := hid (belowA Z0 (.cells #[.int .i64 x] 3))
   have HB9 := hid (bch HZ.out HA9.out)
   have HX9 := hid ((HA9.out.block _ (lt_blk HXZ.out)).trans HXZ.out)
   have HK9 := hid (own_low HKZ.out HA9.out)
   generalize Z0.alloc (.cells #[.int .i64 x] 3) = Z1 at *
   generalize Z0.heap.size = rb at *
   have hHeld := MBB.out Z1 HB9.out
   refine wpAnyH_ready (rs := [1]) (by kernel_rfl) (by simp) ?_
   refine AllReadyH.cons rfl (fun K hK => ?_) AllReadyH.nil
   have wc : Z1.cell? ⟨bp, 3, none⟩ = some kv := cell_of_row _ _ 3 _ _ _ HX9.out
   go_simp
   clear wc
   refine hK.out _ _ ?_ (fun hHeld => ?_)
   ·exact MBB.out _ HB9.out
   clear hK K hHeld
   try simp only [Act.put, List.setIfInBounds_toArray, List.set_cons_zero, List.set_cons_succ]
   have hHeld := MBB.out Z1 HB9.out
   refine wpAnyH_ready (rs := [10]) (by kernel_rfl) (by simp) ?_
   refine AllReadyH.cons rfl (fun K hK => ?_) AllReadyH.nil
   rw [if_pos (by rfl)]
   refine wp_append_stays _ _ 26 rfl (W.heap.size + 1) 3 i3 (.int .i64 0) 1 8 Tryz.underlying26 hi3 hz03 hz13 hz23 rfl (by decide) kv (i - base) (((fr.drop base).take (i - base)).map (Value.int .i64)) rfl (by have h9 := HK9.out; unfold OwnI at h9; rw [HKL.out] at h9; exact h9) ⟨rb, 0, none⟩ 1 1 [.int .i64 x] rfl rfl ?_ ?_ (by unfold maxLen; omega) (by omega) ?_ (by decide) ?_
   ·intro j u hu
    rw [Go.WideShapes.add_plain]
    show Z1.cell? ⟨rb, 0 + j, none⟩ = _
    rw [Nat.zero_add, cell_of_row _ _ j _ _ _ HR.out, List.getElem?_toArray]
    exact hu
   ·intro u hu
    simp only [List.mem_cons, List.not_mem_nil, or_false] at hu
    subst hu
    rfl
   ·have h2 := lt_blk HX9.out
    have h3 := HBP.out
    omega
   intro v' w' ho hg hvb
   obtain ⟨va, vc, rfl⟩ : ∃ va vc, v' = .slice va (i - base + 1) vc := (by rcases ho.2 with ⟨_, h0⟩ | ⟨r, cap, cur, e, _⟩; (exact absurd h0 (by omega)); (exact ⟨_, _, e⟩))
   have HOW := hid ho
   have HBU := hid (show Below W.heap.size W w' from ⟨hg.os.trans HB9.out.os, hg.tape.trans HB9.out.tape, hg.output.trans HB9.out.output, Nat.le_trans HB9.out.size hg.size, fun k hk => (hg.block k (Nat.lt_of_lt_of_le hk HB9.out.size) (fun e => by have := (row_at HK9.out e.symm).1; omega)).trans (HB9.out.block k hk)⟩)
   have HWW := hid ((hg.block bp (lt_blk HX9.out) (fun e => type_box HK9.out HX9.out (by decide) e.symm rfl)).trans HX9.out)
   clear ho hg hvb
   refine hK.out _ _ ?_ (fun hHeld => ?_)
   ·exact MBB.out _ HBU.out
   clear hK K hHeld
   try simp only [Act.put, List.setIfInBounds_toArray, List.set_cons_zero, List.set_cons_succ]
   have hHeld := MBB.out w' HBU.out
   refine wpAnyH_take (i := 11) (v := ?_) rfl (by kernel_rfl) (by kernel_rfl) (by kernel_rfl) (fun _ _ _ h => h) (Or.inl ⟨by rfl, ?_⟩) (by assumption) ?_
   rotate_left
   ·(intro w hSw; (try dsimp only at hSw); go_simp; try with_reducible rfl)
   try simp only [Act.put, List.setIfInBounds_toArray, List.set_cons_zero, List.set_cons_succ]
   refine wpAnyH_ready (rs := [12]) (by kernel_rfl) (by simp) ?_
   refine AllReadyH.cons rfl (fun K hK => ?_) AllReadyH.nil
   have wc : w'.cell? ⟨bp, 3, none⟩ = some kv := cell_of_row _ _ 3 _ _ _ HWW.out
   have wf : w'.frozen? ⟨bp, 3, none⟩ = false := frz_row HWW.out 3
   go_simp
   have HBT := hid (show Below W.heap.size W (w'.setCell ⟨bp, 3, none⟩ (.slice va (i - base + 1) vc)) from ⟨HBU.out.os, HBU.out.tape, HBU.out.output, by rw [World.size_setCell]; exact HBU.out.size, fun k hk => (set_oth HWW.out 3 (.slice va (i - base + 1) vc) (by have := HBP.out; omega)).trans (HBU.out.block k hk)⟩)
   refine hK.out _ _ ?_ (fun hHeld => ?_)
   ·exact MBB.out _ HBT.out
   clear hK K hHeld wc wf
   try simp only [Act.put, List.setIfInBounds_toArray, List.set_cons_zero, List.set_cons_succ]
   refine wpAnyH_done (by kernel_rfl) ?_ _
   clear hHeld
   have HXU := hid (show (w'.setCell ⟨bp, 3, none⟩ (.slice va (i - base + 1) vc)).heap[bp]? = some (.cells #[.int .i64 kd, .string tx, .int .i64 nu, (.slice va (i - base + 1) vc)] 46 (0, 0)) by rw [heap_setCell_same _ _ _ _ _ _ HWW.out]; rfl)
   have HKU := hid (show OwnI (w'.setCell ⟨bp, 3, none⟩ (.slice va (i - base + 1) vc)) (W.heap.size + 1) (.slice va (i - base + 1) vc) ((fr.drop base).take (i + 1 - base)) from row_kept (by rw [HKM.out, List.map_append, List.length_append, HKL.out]; exact HOW.out) (fun k hk => set_oth HWW.out 3 (.slice va (i - base + 1) vc) (type_box HOW.out HWW.out (by decide) hk)))
   generalize w'.setCell ⟨bp, 3, none⟩ (.slice va (i - base + 1) vc) = U at *
   go_wp2_with fail
   refine ⟨⟨i + 1, _, by omega, by omega, by go_num, hid HXU.out, hid HKU.out, hid HBT.out⟩, by simp [intOf]; omega⟩
  ·have hie : i = N := by omega
   subst hie
   have HMR := hid (HP.out.low HBW.out)
   have HLW := hid (lt_blk HX.out)
   have HBM := hid (show bp ≠ mb from fun e => (by have h1 := HX.out; rw [e, HMR.out.box] at h1; injection h1 with h1; injection h1 with _ h5; exact absurd h5 (by decide)))
   obtain ⟨NP, hNP⟩ : ∃ NP, NP = s.ps.length := ⟨_, rfl⟩
   obtain ⟨va, vcap, hve⟩ := own_len HP.out.parts.row
   have HVE := hid (show v = .slice va NP vcap by rw [hNP]; exact hve)
   have HNP := hid hNP
   clear hve hNP
   rcases HP.out.free.2 with ⟨hf, n0⟩ | ⟨fg, fcap, cur, hf, hfb, hfg, hf3, hf4, hf5, hf6⟩
   ·have hb0 : base = 0 := by have := HNN.out; omega
    subst hb0
    have hi0 : i = 0 := by have := HNN.out; omega
    subst hi0
    have c5 : wr.cell? ⟨mb, 5, none⟩ = some (.slice none 0 0) := (HMR.out.cell 5 (by decide)).trans (by rw [hf]; rfl)
    have c6 : (wr.alloc (.cells #[] 3)).cell? ⟨mb, 5, none⟩ = some (.slice none 0 0) := ((HMR.out.low (belowA wr (.cells #[] 3))).cell 5 (by decide)).trans (by rw [hf]; rfl)
    go_upto_region 6 with (fail)
    have HRV := hid (show OwnI (wr.alloc (.cells #[] 3)) wr.heap.size (.slice (some ⟨wr.heap.size, 0, none⟩) 0 0) (fr.take 0) from World.ownsRow_made wr #[] 0 (Nat.le_refl _) (Nat.zero_le _) rfl)
    have HB5 := hid (belowA wr (.cells #[] 3))
    generalize wr.alloc (.cells #[] 3) = W5 at *
    obtain ⟨rv, hrv⟩ : ∃ rv, rv = Value.slice (some ⟨wr.heap.size, 0, none⟩) 0 0 := ⟨_, rfl⟩
    rw [← hrv] at HRV ⊢
    clear hrv c5 c6
    obtain ⟨base, hbase⟩ : ∃ base : Nat, base = 0 := ⟨_, rfl⟩
    have HBE := hid hbase
    have HRV := hid (show OwnI W5 wr.heap.size rv (fr.take base) by rw [hbase]; exact HRV.out)
    have hbl : base ≤ 100000 := by omega
    have HK := hid (show OwnI wr (W.heap.size + 1) kv (fr.drop base) by have h9 := HK.out; rw [show List.take (0 - 0) (List.drop 0 fr) = fr.drop base by rw [List.eq_nil_of_length_eq_zero HNN.out.symm]; simp] at h9; exact h9)
    have HTL2 := hid (show (fr.take base).length = base by rw [hbase, List.take_zero]; rfl)
    clear hbase
    have HM5 := hid (HMR.out.low HB5.out)
    have c3 : W5.cell? ⟨mb, 3, none⟩ = some (.slice va NP vcap) := (HM5.out.cell 3 (by decide)).trans (by rw [HVE.out]; rfl)
    have c3a : (W5.alloc (.cells #[.int .i64 (NP : Int)] 3)).cell? ⟨mb, 3, none⟩ = some (.slice va NP vcap) := ((HM5.out.low (belowA W5 (.cells #[.int .i64 (NP : Int)] 3))).cell 3 (by decide)).trans (by rw [HVE.out]; rfl)
    have HA := hid (show ∀ j u, ([.int .i64 (NP : Int)] : List Value)[j]? = some u → (W5.alloc (.cells #[.int .i64 (NP : Int)] 3)).cell? ((⟨W5.heap.size, 0, none⟩ : Addr).add j) = some u from fun j u hu => (by rw [Go.WideShapes.add_plain]; show (W5.alloc (.cells #[.int .i64 (NP : Int)] 3)).cell? ⟨W5.heap.size, 0 + j, none⟩ = _; rw [Nat.zero_add, cell_of_row _ _ j _ _ _ (heap_alloc_new W5 (.cells #[.int .i64 (NP : Int)] 3)), List.getElem?_toArray]; exact hu))
    go_upto_region 7 with (at_builtin; refine wpList_append_own _ rfl _ _ 26 rfl wr.heap.size 3 i3 (.int .i64 0) 1 8 Tryz.underlying26 hi3 hz03 hz13 hz23 rfl (by decide) rv base ((fr.take base).map (Value.int .i64)) rfl (by have h9 := own_low HRV.out (belowA W5 (.cells #[.int .i64 (NP : Int)] 3)); unfold OwnI at h9; rw [HTL2.out] at h9; exact h9) ⟨W5.heap.size, 0, none⟩ 1 1 [.int .i64 (NP : Int)] rfl rfl HA.out (fun u hu => (by simp only [List.mem_cons, List.not_mem_nil, or_false] at hu; subst hu; rfl)) (by unfold maxLen; omega) (by omega) (by have h8 := HB5.out.size; simp; omega) ?_)
    intro f2 w6 ho hg _
    obtain ⟨fa2, fc2, rfl⟩ : ∃ va vc, f2 = .slice va (base + 1) vc := (by rcases ho.2 with ⟨_, h0⟩ | ⟨r, cap, cur, e, _⟩; (exact absurd h0 (by omega)); (exact ⟨_, _, e⟩))
    have HA6 := hid (bch HB5.out (belowA W5 (.cells #[.int .i64 (NP : Int)] 3)))
    have HB6 := hid (show Below wr.heap.size wr w6 from ⟨hg.os.trans HA6.out.os, hg.tape.trans HA6.out.tape, hg.output.trans HA6.out.output, Nat.le_trans HA6.out.size hg.size, fun k hk => (hg.block k (Nat.lt_of_lt_of_le hk HA6.out.size) (fun e => by have := (row_at HRV.out e.symm).1; omega)).trans (HA6.out.block k hk)⟩)
    have HO6 := hid ho
    clear ho hg
    have HM6 := hid (HMR.out.low HB6.out)
    have wc : w6.cell? ⟨mb, 5, none⟩ = some f := HM6.out.cell 5 (by decide)
    have wf : w6.frozen? ⟨mb, 5, none⟩ = false := frz_row HM6.out.box 5
    clear c3 c3a HA
    go_upto_region 7 with (fail)
    have HM7 := hid (HM6.out.moref (f' := (.slice fa2 (base + 1) fc2)) (fr' := fr.take base ++ [(NP : Int)]) (by rw [heap_setCell_same _ _ _ _ _ _ HM6.out.box]; cases fl; simp [mc]) (fun k _ hk => heap_setCell_other w6 ⟨mb, 5, none⟩ k (.slice fa2 (base + 1) fc2) hk) (row_base (row_kept (by rw [List.length_append, List.map_append, HTL2.out, List.map_take]; exact HO6.out) (fun k hk => set_oth HM6.out.box 5 (.slice fa2 (base + 1) fc2) (type_box HO6.out HM6.out.box (by decide) hk))) (by have h8 := HMR.out.size; exact h8)) (fun j hj k hk e => by have h8 := (row_at (HMR.out.parts.kids j hj) hk).2.1; have h9 := (row_at HO6.out e).1; omega) (fun k hk e => by have h8 := (row_at HMR.out.offs hk).2.1; have h9 := (row_at HO6.out e).1; omega))
    have HX7 := hid ((heap_setCell_other w6 ⟨mb, 5, none⟩ bp (.slice fa2 (base + 1) fc2) (fun e => HBM.out e)).trans ((HB6.out.block bp HLW.out).trans HX.out))
    have HF7 := hid ((Fmm.of HBW.out HP.out.size).trans ((Fmm.of HB6.out HMR.out.size).trans (Fmm.chg HM6.out (W' := w6.setCell ⟨mb, 5, none⟩ (.slice fa2 (base + 1) fc2)) rfl rfl rfl (by rw [World.size_setCell]; exact Nat.le_refl _) (fun k _ hk => heap_setCell_other w6 ⟨mb, 5, none⟩ k (.slice fa2 (base + 1) fc2) hk))))
    have HKB := hid (own_low (own_low HK.out (Below.refl _ wr)) HB6.out)
    have HS7 := hid (fun k (hk : k ≠ mb) => heap_setCell_other w6 ⟨mb, 5, none⟩ k (.slice fa2 (base + 1) fc2) hk)
    generalize w6.setCell ⟨mb, 5, none⟩ (.slice fa2 (base + 1) fc2) = W7 at *
    clear wc wf
    obtain ⟨ka, kc, hkf⟩ := own_form HK.out
    obtain ⟨kl, hkl⟩ : ∃ kl, kl = (fr.drop base).length := ⟨_, rfl⟩
    rw [← hkl] at hkf
    have HKV := hid (show OwnI W7 B kv (fr.drop base) from row_base (row_kept HKB.out (fun k hk => HS7.out k (type_box HKB.out HM6.out.box (by decide) hk))) (by have := HP.out.size; omega))
    have HKA := hid (show ∀ k, kv.ownBlock = some k → o.ownBlock ≠ some k ∧ (Value.slice fa2 (base + 1) fc2).ownBlock ≠ some k from fun k hk => ⟨fun e => (by have h8 := (row_at HP.out.offs e).2.1; have h9 := (row_at HK.out hk).1; omega), fun e => (by have h8 := (row_at HO6.out e).1; have h9 := (row_at HK.out hk).2.1; omega)⟩)
    rw [hkf] at HX7 HKV HKA
    clear hkf hkl
    have HBV := hid (show v.ownBlock ≠ some bp from fun e => (by have h8 := (row_at HP.out.parts.row e).2.1; have h9 := HBP.out; omega))
    have MB7 := hid (show ∀ Z, But1 mb v W7 Z → (fun Z => Z.cell? ⟨bp, 0, none⟩ = some (.int .i64 kd) ∧ Z.cell? ⟨bp, 1, none⟩ = some (.string tx) ∧ Z.cell? ⟨bp, 2, none⟩ = some (.int .i64 nu) ∧ Z.cell? ⟨bp, 3, none⟩ = some (.slice ka kl kc)) Z from fun Z hb => ⟨(World.cell?_of_block (a := ⟨bp, 0, none⟩) (hb bp (lt_blk HX7.out) HBM.out HBV.out)).trans (cell_of_row _ _ 0 _ _ _ HX7.out), (World.cell?_of_block (a := ⟨bp, 1, none⟩) (hb bp (lt_blk HX7.out) HBM.out HBV.out)).trans (cell_of_row _ _ 1 _ _ _ HX7.out), (World.cell?_of_block (a := ⟨bp, 2, none⟩) (hb bp (lt_blk HX7.out) HBM.out HBV.out)).trans (cell_of_row _ _ 2 _ _ _ HX7.out), (World.cell?_of_block (a := ⟨bp, 3, none⟩) (hb bp (lt_blk HX7.out) HBM.out HBV.out)).trans (cell_of_row _ _ 3 _ _ _ HX7.out)⟩)
    have HV0 := hid (show Below W7.heap.size W7 W7.drew from (Below.refl _ _).drew)
    have MBB7 := hid (show ∀ Z, Below W7.heap.size W7 Z → (fun Z => Z.cell? ⟨bp, 0, none⟩ = some (.int .i64 kd) ∧ Z.cell? ⟨bp, 1, none⟩ = some (.string tx) ∧ Z.cell? ⟨bp, 2, none⟩ = some (.int .i64 nu) ∧ Z.cell? ⟨bp, 3, none⟩ = some (.slice ka kl kc)) Z from fun Z hb => MB7.out Z (fun k hk _ _ => hb.block k hk))
    obtain ⟨i4, hi, hz0, hz1, hz2⟩ := info_parts infoP
    refine wp_region_held_drew (S := (fun Z => Z.cell? ⟨bp, 0, none⟩ = some (.int .i64 kd) ∧ Z.cell? ⟨bp, 1, none⟩ = some (.string tx) ∧ Z.cell? ⟨bp, 2, none⟩ = some (.int .i64 nu) ∧ Z.cell? ⟨bp, 3, none⟩ = some (.slice ka kl kc))) (by kernel_rfl) ?_ (fun hHeld => ?_)
    ·exact MBB7.out _ HV0.out
    generalize W7.drew = Z0 at *
    refine wpAnyH_take (i := 0) (v := ?_) rfl (by kernel_rfl) (by kernel_rfl) (by kernel_rfl) (fun _ _ _ h => h) (Or.inl ⟨by rfl, ?_⟩) (by assumption) ?_
    rotate_left
    ·(intro w hSw; (try dsimp only at hSw); go_simp; try with_reducible rfl)
    try simp only [Act.put, List.setIfInBounds_toArray, List.set_cons_zero, List.set_cons_succ]
    refine wpAnyH_take (i := 1) (v := ?_) rfl (by kernel_rfl) (by kernel_rfl) (by kernel_rfl) (fun _ _ _ h => h) (Or.inl ⟨by rfl, ?_⟩) (by assumption) ?_
    rotate_left
    ·(intro w hSw; (try dsimp only at hSw); go_simp; try with_reducible rfl)
    try simp only [Act.put, List.setIfInBounds_toArray, List.set_cons_zero, List.set_cons_succ]
    refine wpAnyH_take (i := 2) (v := ?_) rfl (by kernel_rfl) (by kernel_rfl) (by kernel_rfl) (fun _ _ _ h => h) (Or.inl ⟨by rfl, ?_⟩) (by assumption) ?_
    rotate_left
    ·(intro w hSw; (try dsimp only at hSw); go_simp; try with_reducible rfl)
    try simp only [Act.put, List.setIfInBounds_toArray, List.set_cons_zero, List.set_cons_succ]
    refine wpAnyH_take (i := 3) (v := ?_) rfl (by kernel_rfl) (by kernel_rfl) (by kernel_rfl) (fun _ _ _ h => h) (Or.inl ⟨by rfl, ?_⟩) (by assumption) ?_
    rotate_left
    ·(intro w hSw; (try dsimp only at hSw); go_simp; try with_reducible rfl)
    try simp only [Act.put, List.setIfInBounds_toArray, List.set_cons_zero, List.set_cons_succ]
    refine wpAnyH_take (i := 5) (v := ?_) rfl (by kernel_rfl) (by kernel_rfl) (by kernel_rfl) (fun _ _ _ h => h) (Or.inl ⟨by rfl, ?_⟩) (by assumption) ?_
    rotate_left
    ·(intro w hSw; (try dsimp only at hSw); go_simp; try with_reducible rfl)
    try simp only [Act.put, List.setIfInBounds_toArray, List.set_cons_zero, List.set_cons_succ]
    refine wpAnyH_ready (rs := [4, 6]) (by kernel_rfl) (by simp) ?_
    refine AllReadyH.cons rfl (fun K hK => ?_) ?_
    ·have wc : Z0.cell? ⟨mb, 3, none⟩ = some v := (HM7.out.low HV0.out).cell 3 (by decide)
     go_simp
     clear wc
     refine hK.out _ _ ?_ (fun hHeld => ?_)
     ·exact MBB7.out _ HV0.out
     clear hK K hHeld
     try simp only [Act.put, List.setIfInBounds_toArray, List.set_cons_zero, List.set_cons_succ]
     have hHeld := MBB7.out Z0 HV0.out
     refine wpAnyH_ready (rs := [6]) (by kernel_rfl) (by simp) ?_
     refine AllReadyH.cons rfl (fun K hK => ?_) AllReadyH.nil
     go_simp
     refine hK.out _ _ ?_ (fun hHeld => ?_)
     ·exact MBB7.out _ (HV0.out.alloc HV0.out.size _)
     clear hK K hHeld
     try simp only [Act.put, List.setIfInBounds_toArray, List.set_cons_zero, List.set_cons_succ]
     have HR := hid (heap_alloc_new Z0 (.cells #[.int .i64 kd, .string tx, .int .i64 nu, .slice ka kl kc] 46))
     have HB9 := hid (HV0.out.alloc HV0.out.size (.cells #[.int .i64 kd, .string tx, .int .i64 nu, .slice ka kl kc] 46))
     generalize Z0.alloc (.cells #[.int .i64 kd, .string tx, .int .i64 nu, .slice ka kl kc] 46) = Z1 at *
     generalize Z0.heap.size = rb at *
     have hHeld := MBB7.out Z1 HB9.out
     refine wpAnyH_ready (rs := [7]) (by kernel_rfl) (by simp) ?_
     refine AllReadyH.cons rfl (fun K hK => ?_) AllReadyH.nil
     rw [if_pos (by rfl)]
     have HP1 := hid (HM7.out.low HB9.out)
     refine wp_append_stays _ _ 23 rfl B 46 i4 (.agg #[.int .i64 0, .string ByteArray.empty, .int .i64 0, .slice none 0 0]) 4 56 Tryz.underlying23 hi hz0 hz1 hz2 rfl (by decide) v NP (CP s.ps ks NP) rfl (by rw [HNP.out]; exact HP1.out.parts.row) ⟨rb, 0, none⟩ 1 1 [.int .i64 kd, .string tx, .int .i64 nu, .slice ka kl kc] rfl rfl ?_ ?_ (by have := HNP.out; unfold maxLen; omega) (by have := HNP.out; omega) ?_ (by decide) ?_
     ·intro j u hu
      rw [Go.WideShapes.add_plain]
      show Z1.cell? ⟨rb, 0 + j, none⟩ = _
      rw [Nat.zero_add, cell_of_row _ _ j _ _ _ HR.out, List.getElem?_toArray]
      exact hu
     ·intro u hu
      exact four_one hu
     ·exact HP1.out.size
     intro v' w' ho hg hvb
     obtain ⟨va7, vc7, rfl⟩ : ∃ va vc, v' = .slice va (NP + 1) vc := (by rcases ho.2 with ⟨_, h0⟩ | ⟨r, cap, cur, e, _⟩; (exact absurd h0 (by omega)); (exact ⟨_, _, e⟩))
     have HOW := hid ho
     have HG := hid hg
     have HBU := hid (show But1 mb v W7 w' from fun k hk _ hv => (hg.block k (Nat.lt_of_lt_of_le hk HB9.out.size) (fun e => hv e.symm)).trans (HB9.out.block k hk))
     have HWW := hid ((hg.block mb (lt_blk HP1.out.box) (fun e => type_box HP1.out.parts.row HP1.out.box (by decide) e.symm rfl)).trans HP1.out.box)
     clear ho hg hvb
     refine hK.out _ _ ?_ (fun hHeld => ?_)
     ·exact MB7.out _ HBU.out
     clear hK K hHeld
     try simp only [Act.put, List.setIfInBounds_toArray, List.set_cons_zero, List.set_cons_succ]
     have hHeld := MB7.out w' HBU.out
     refine wpAnyH_take (i := 8) (v := ?_) rfl (by kernel_rfl) (by kernel_rfl) (by kernel_rfl) (fun _ _ _ h => h) (Or.inl ⟨by rfl, ?_⟩) (by assumption) ?_
     rotate_left
     ·(intro w hSw; (try dsimp only at hSw); go_simp; try with_reducible rfl)
     try simp only [Act.put, List.setIfInBounds_toArray, List.set_cons_zero, List.set_cons_succ]
     refine wpAnyH_take (i := 9) (v := ?_) rfl (by kernel_rfl) (by kernel_rfl) (by kernel_rfl) (fun _ _ _ h => h) (Or.inl ⟨by rfl, ?_⟩) (by assumption) ?_
     rotate_left
     ·(intro w hSw; (try dsimp only at hSw); go_simp; try with_reducible rfl)
     try simp only [Act.put, List.setIfInBounds_toArray, List.set_cons_zero, List.set_cons_succ]
     refine wpAnyH_ready (rs := [10]) (by kernel_rfl) (by simp) ?_
     refine AllReadyH.cons rfl (fun K hK => ?_) AllReadyH.nil
     have wc : w'.cell? ⟨mb, 3, none⟩ = some v := (cell_of_row _ _ 3 _ _ _ HWW.out).trans (mc3 _ _ _ _ _ _ _ _)
     have wf : w'.frozen? ⟨mb, 3, none⟩ = false := frz_row HWW.out 3
     go_simp
     have HBT := hid (show But1 mb v W7 (w'.setCell ⟨mb, 3, none⟩ (.slice va7 (NP + 1) vc7)) from fun k hk hne hv => (set_oth HWW.out 3 (.slice va7 (NP + 1) vc7) hne).trans (HBU.out k hk hne hv))
     refine hK.out _ _ ?_ (fun hHeld => ?_)
     ·exact MB7.out _ HBT.out
     clear hK K hHeld wc wf
     try simp only [Act.put, List.setIfInBounds_toArray, List.set_cons_zero, List.set_cons_succ]
     refine wpAnyH_done (by kernel_rfl) ?_ _
     clear hHeld
     have HGR := hid (own_growm (p := ⟨kd, tx, nu, fr.drop base⟩) (kv := .slice ka kl kc) HNP.out HP1.out.parts (row_kept HKV.out (fun k hk => HB9.out.block k (row_at HKV.out hk).2.1)) HOW.out HG.out HWW.out (fun k hk => set_oth HWW.out 3 (.slice va7 (NP + 1) vc7) hk))
     have HM8 := hid (HM7.out.morep (p := ⟨kd, tx, nu, fr.drop base⟩) (v' := (.slice va7 (NP + 1) vc7)) (by rw [heap_setCell_same _ _ _ _ _ _ HWW.out]; cases fl; simp [mc]) (fun k h1 h2 h3 => HBT.out k h1 h2 h3) (by rw [← HNP.out]; exact HGR.out) (by intro j hj k hk; (try dsimp only at hk); by_cases hjn : j = NP; (rw [if_pos hjn] at hk; exact HKA.out k hk); rw [if_neg hjn] at hk; have hjs : j < s.ps.length := (by have := HNP.out; omega); exact ⟨HM7.out.ko j hjs k hk, HM7.out.kf j hjs k hk⟩))
     have HF8 := hid (show Fmm B W7 (w'.setCell ⟨mb, 3, none⟩ (.slice va7 (NP + 1) vc7)) from ⟨⟨HG.out.os.trans HB9.out.os, HG.out.tape.trans HB9.out.tape, HG.out.output.trans HB9.out.output, by simpa using Nat.le_trans HB9.out.size HG.out.size, fun k hk => HBT.out k (Nat.lt_of_lt_of_le hk HM7.out.size) (by have := HM7.out.mbB; omega) (fun e => by have := (row_at HM7.out.parts.row e).1; omega)⟩, fun k cs fr hk => HBT.out k (lt_blk hk) (fun e => by rw [e, HM7.out.box] at hk; injection hk with hk; injection hk with _ h5; exact absurd h5 (by decide)) (fun e => by obtain ⟨_, _, cur, h3⟩ := row_at HM7.out.parts.row e; rw [h3] at hk; injection hk with hk; injection hk with _ h5; exact absurd h5 (by decide))⟩)
     generalize w'.setCell ⟨mb, 3, none⟩ (.slice va7 (NP + 1) vc7) = U at *
     clear HR HB9 HP1 HOW HG HBU HWW HBT HGR
     have u4 : U.cell? ⟨mb, 4, none⟩ = some o := HM8.out.cell 4 (by decide)
     have HA8 := hid (show ∀ j u, ([.int .i64 pos] : List Value)[j]? = some u → (U.alloc (.cells #[.int .i64 pos] 3)).cell? ((⟨U.heap.size, 0, none⟩ : Addr).add j) = some u from fun j u hu => (by rw [Go.WideShapes.add_plain]; show (U.alloc (.cells #[.int .i64 pos] 3)).cell? ⟨U.heap.size, 0 + j, none⟩ = _; rw [Nat.zero_add, cell_of_row _ _ j _ _ _ (heap_alloc_new U (.cells #[.int .i64 pos] 3)), List.getElem?_toArray]; exact hu))
     have HO18 := hid (show ∀ u ∈ ([.int .i64 pos] : List Value), u.oneCell' = true from fun u hu => (by simp only [List.mem_cons, List.not_mem_nil, or_false] at hu; subst hu; rfl))
     have HBB8 := hid (show B ≤ (U.alloc (.cells #[.int .i64 pos] 3)).heap.size from (by have h1 := HM8.out.size; have h3 := (belowA U (.cells #[.int .i64 pos] 3)).size; omega))
     have HOF := hid (show OwnI (U.alloc (.cells #[.int .i64 pos] 3)) B o s.os from (HM8.out.low (belowA U (.cells #[.int .i64 pos] 3))).offs)
     go_wp2_with (at_builtin; refine Ap.wpList_append_stays _ rfl _ _ 26 rfl B 3 i3 (.int .i64 0) 1 8 Tryz.underlying26 hi3 hz03 hz13 hz23 rfl (by decide) o s.os.length (s.os.map (Value.int .i64)) rfl HOF.out ⟨U.heap.size, 0, none⟩ 1 1 [.int .i64 pos] rfl rfl HA8.out HO18.out (by unfold maxLen; omega) (by omega) HBB8.out (by decide) ?_)
     intro o' w2 ho hg _ hob
     obtain ⟨oa8, oc8, rfl⟩ : ∃ oa oc, o' = .slice oa (s.os.length + 1) oc := (by rcases ho.2 with ⟨_, h0⟩ | ⟨r, cap, cur, e, _⟩; (exact absurd h0 (by omega)); (exact ⟨_, _, e⟩))
     have HP2 := hid (HM8.out.low (belowA U (.cells #[.int .i64 pos] 3)))
     have HBA8 := hid (belowA U (.cells #[.int .i64 pos] 3))
     have HB2 := hid ((hg.block mb (lt_blk HP2.out.box) (fun e => type_box HP2.out.offs HP2.out.box (by decide) e.symm rfl)).trans HP2.out.box)
     have HO2 := hid ho
     have HG2 := hid hg
     have HOB := hid (show ∀ k, (Value.slice oa8 (s.os.length + 1) oc8).ownBlock = some k → o.ownBlock = some k ∨ U.heap.size ≤ k from fun k hk => (by rcases hob with e | e; (exact Or.inl (e ▸ hk)); right; rw [e] at hk; injection hk with hk; have := HBA8.out.size; omega))
     clear ho hg hob u4 HA8 HO18 HBB8
     have wc : w2.cell? ⟨mb, 4, none⟩ = some o := (cell_of_row _ _ 4 _ _ _ HB2.out).trans (mc4 _ _ _ _ _ _ _ _)
     have wf : w2.frozen? ⟨mb, 4, none⟩ = false := frz_row HB2.out 4
     have HKK := hid (show ∀ k, k < U.heap.size → k ≠ mb → o.ownBlock ≠ some k → (w2.setCell ⟨mb, 4, none⟩ (Value.slice oa8 (s.os.length + 1) oc8)).heap[k]? = U.heap[k]? from fun k h1 h2 h3 => (set_oth HB2.out 4 (Value.slice oa8 (s.os.length + 1) oc8) h2).trans ((HG2.out.block k (Nat.lt_of_lt_of_le h1 HBA8.out.size) (fun e => h3 e.symm)).trans (HBA8.out.block k h1)))
     have HPE := hid (HM8.out.moreo (x := pos) (o' := (Value.slice oa8 (s.os.length + 1) oc8)) (by rw [heap_setCell_same _ _ _ _ _ _ HB2.out]; cases fl; simp [mc]) HKK.out (row_kept (show OwnI w2 B (Value.slice oa8 (s.os.length + 1) oc8) (s.os ++ [pos]) from (by unfold OwnI; rw [List.length_append, List.map_append]; exact HO2.out)) (fun k hk => set_oth HB2.out 4 (Value.slice oa8 (s.os.length + 1) oc8) (type_box HO2.out HB2.out (by decide) hk))) HOB.out)
     have HF9 := hid (show Fmm B U (w2.setCell ⟨mb, 4, none⟩ (Value.slice oa8 (s.os.length + 1) oc8)) from ⟨⟨HG2.out.os.trans HBA8.out.os, HG2.out.tape.trans HBA8.out.tape, HG2.out.output.trans HBA8.out.output, by simpa using Nat.le_trans HBA8.out.size HG2.out.size, fun k hk => HKK.out k (Nat.lt_of_lt_of_le hk HM8.out.size) (by have := HM8.out.mbB; omega) (fun e => by have := (row_at HM8.out.offs e).1; omega)⟩, fun k cs fr hk => HKK.out k (lt_blk hk) (fun e => by rw [e, HM8.out.box] at hk; injection hk with hk; injection hk with _ h5; exact absurd h5 (by decide)) (fun e => by obtain ⟨_, _, cur, h3⟩ := row_at HM8.out.offs e; rw [h3] at hk; injection hk with hk; injection hk with _ h5; exact absurd h5 (by decide))⟩)
     have HEND := hid HPE.out
     try rw [HBE.out] at HEND
     rw [HNP.out] at HEND
     go_wp2_with fail
     exact ⟨rfl, .tuple #[], by first | rfl | kernel_rfl, rfl, ⟨_, _, _, _, HEND.out⟩, HF7.out.trans (HF8.out.trans HF9.out)⟩
    refine AllReadyH.cons rfl (fun K hK => ?_) AllReadyH.nil
    go_simp
    refine hK.out _ _ ?_ (fun hHeld => ?_)
    ·exact MBB7.out _ (HV0.out.alloc HV0.out.size _)
    clear hK K hHeld
    try simp only [Act.put, List.setIfInBounds_toArray, List.set_cons_zero, List.set_cons_succ]
    have HR := hid (heap_alloc_new Z0 (.cells #[.int .i64 kd, .string tx, .int .i64 nu, .slice ka kl kc] 46))
    have HB9 := hid (HV0.out.alloc HV0.out.size (.cells #[.int .i64 kd, .string tx, .int .i64 nu, .slice ka kl kc] 46))
    generalize Z0.alloc (.cells #[.int .i64 kd, .string tx, .int .i64 nu, .slice ka kl kc] 46) = Z1 at *
    generalize Z0.heap.size = rb at *
    have hHeld := MBB7.out Z1 HB9.out
    refine wpAnyH_ready (rs := [4]) (by kernel_rfl) (by simp) ?_
    refine AllReadyH.cons rfl (fun K hK => ?_) AllReadyH.nil
    have wc : Z1.cell? ⟨mb, 3, none⟩ = some v := (HM7.out.low HB9.out).cell 3 (by decide)
    go_simp
    clear wc
    refine hK.out _ _ ?_ (fun hHeld => ?_)
    ·exact MBB7.out _ HB9.out
    clear hK K hHeld
    try simp only [Act.put, List.setIfInBounds_toArray, List.set_cons_zero, List.set_cons_succ]
    have hHeld := MBB7.out Z1 HB9.out
    refine wpAnyH_ready (rs := [7]) (by kernel_rfl) (by simp) ?_
    refine AllReadyH.cons rfl (fun K hK => ?_) AllReadyH.nil
    rw [if_pos (by rfl)]
    have HP1 := hid (HM7.out.low HB9.out)
    refine wp_append_stays _ _ 23 rfl B 46 i4 (.agg #[.int .i64 0, .string ByteArray.empty, .int .i64 0, .slice none 0 0]) 4 56 Tryz.underlying23 hi hz0 hz1 hz2 rfl (by decide) v NP (CP s.ps ks NP) rfl (by rw [HNP.out]; exact HP1.out.parts.row) ⟨rb, 0, none⟩ 1 1 [.int .i64 kd, .string tx, .int .i64 nu, .slice ka kl kc] rfl rfl ?_ ?_ (by have := HNP.out; unfold maxLen; omega) (by have := HNP.out; omega) ?_ (by decide) ?_
    ·intro j u hu
     rw [Go.WideShapes.add_plain]
     show Z1.cell? ⟨rb, 0 + j, none⟩ = _
     rw [Nat.zero_add, cell_of_row _ _ j _ _ _ HR.out, List.getElem?_toArray]
     exact hu
    ·intro u hu
     exact four_one hu
    ·exact HP1.out.size
    intro v' w' ho hg hvb
    obtain ⟨va7, vc7, rfl⟩ : ∃ va vc, v' = .slice va (NP + 1) vc := (by rcases ho.2 with ⟨_, h0⟩ | ⟨r, cap, cur, e, _⟩; (exact absurd h0 (by omega)); (exact ⟨_, _, e⟩))
    have HOW := hid ho
    have HG := hid hg
    have HBU := hid (show But1 mb v W7 w' from fun k hk _ hv => (hg.block k (Nat.lt_of_lt_of_le hk HB9.out.size) (fun e => hv e.symm)).trans (HB9.out.block k hk))
    have HWW := hid ((hg.block mb (lt_blk HP1.out.box) (fun e => type_box HP1.out.parts.row HP1.out.box (by decide) e.symm rfl)).trans HP1.out.box)
    clear ho hg hvb
    refine hK.out _ _ ?_ (fun hHeld => ?_)
    ·exact MB7.out _ HBU.out
    clear hK K hHeld
    try simp only [Act.put, List.setIfInBounds_toArray, List.set_cons_zero, List.set_cons_succ]
    have hHeld := MB7.out w' HBU.out
    refine wpAnyH_take (i := 8) (v := ?_) rfl (by kernel_rfl) (by kernel_rfl) (by kernel_rfl) (fun _ _ _ h => h) (Or.inl ⟨by rfl, ?_⟩) (by assumption) ?_
    rotate_left
    ·(intro w hSw; (try dsimp only at hSw); go_simp; try with_reducible rfl)
    try simp only [Act.put, List.setIfInBounds_toArray, List.set_cons_zero, List.set_cons_succ]
    refine wpAnyH_take (i := 9) (v := ?_) rfl (by kernel_rfl) (by kernel_rfl) (by kernel_rfl) (fun _ _ _ h => h) (Or.inl ⟨by rfl, ?_⟩) (by assumption) ?_
    rotate_left
    ·(intro w hSw; (try dsimp only at hSw); go_simp; try with_reducible rfl)
    try simp only [Act.put, List.setIfInBounds_toArray, List.set_cons_zero, List.set_cons_succ]
    refine wpAnyH_ready (rs := [10]) (by kernel_rfl) (by simp) ?_
    refine AllReadyH.cons rfl (fun K hK => ?_) AllReadyH.nil
    have wc : w'.cell? ⟨mb, 3, none⟩ = some v := (cell_of_row _ _ 3 _ _ _ HWW.out).trans (mc3 _ _ _ _ _ _ _ _)
    have wf : w'.frozen? ⟨mb, 3, none⟩ = false := frz_row HWW.out 3
    go_simp
    have HBT := hid (show But1 mb v W7 (w'.setCell ⟨mb, 3, none⟩ (.slice va7 (NP + 1) vc7)) from fun k hk hne hv => (set_oth HWW.out 3 (.slice va7 (NP + 1) vc7) hne).trans (HBU.out k hk hne hv))
    refine hK.out _ _ ?_ (fun hHeld => ?_)
    ·exact MB7.out _ HBT.out
    clear hK K hHeld wc wf
    try simp only [Act.put, List.setIfInBounds_toArray, List.set_cons_zero, List.set_cons_succ]
    refine wpAnyH_done (by kernel_rfl) ?_ _
    clear hHeld
    have HGR := hid (own_growm (p := ⟨kd, tx, nu, fr.drop base⟩) (kv := .slice ka kl kc) HNP.out HP1.out.parts (row_kept HKV.out (fun k hk => HB9.out.block k (row_at HKV.out hk).2.1)) HOW.out HG.out HWW.out (fun k hk => set_oth HWW.out 3 (.slice va7 (NP + 1) vc7) hk))
    have HM8 := hid (HM7.out.morep (p := ⟨kd, tx, nu, fr.drop base⟩) (v' := (.slice va7 (NP + 1) vc7)) (by rw [heap_setCell_same _ _ _ _ _ _ HWW.out]; cases fl; simp [mc]) (fun k h1 h2 h3 => HBT.out k h1 h2 h3) (by rw [← HNP.out]; exact HGR.out) (by intro j hj k hk; (try dsimp only at hk); by_cases hjn : j = NP; (rw [if_pos hjn] at hk; exact HKA.out k hk); rw [if_neg hjn] at hk; have hjs : j < s.ps.length := (by have := HNP.out; omega); exact ⟨HM7.out.ko j hjs k hk, HM7.out.kf j hjs k hk⟩))
    have HF8 := hid (show Fmm B W7 (w'.setCell ⟨mb, 3, none⟩ (.slice va7 (NP + 1) vc7)) from ⟨⟨HG.out.os.trans HB9.out.os, HG.out.tape.trans HB9.out.tape, HG.out.output.trans HB9.out.output, by simpa using Nat.le_trans HB9.out.size HG.out.size, fun k hk => HBT.out k (Nat.lt_of_lt_of_le hk HM7.out.size) (by have := HM7.out.mbB; omega) (fun e => by have := (row_at HM7.out.parts.row e).1; omega)⟩, fun k cs fr hk => HBT.out k (lt_blk hk) (fun e => by rw [e, HM7.out.box] at hk; injection hk with hk; injection hk with _ h5; exact absurd h5 (by decide)) (fun e => by obtain ⟨_, _, cur, h3⟩ := row_at HM7.out.parts.row e; rw [h3] at hk; injection hk with hk; injection hk with _ h5; exact absurd h5 (by decide))⟩)
    generalize w'.setCell ⟨mb, 3, none⟩ (.slice va7 (NP + 1) vc7) = U at *
    clear HR HB9 HP1 HOW HG HBU HWW HBT HGR
    have u4 : U.cell? ⟨mb, 4, none⟩ = some o := HM8.out.cell 4 (by decide)
    have HA8 := hid (show ∀ j u, ([.int .i64 pos] : List Value)[j]? = some u → (U.alloc (.cells #[.int .i64 pos] 3)).cell? ((⟨U.heap.size, 0, none⟩ : Addr).add j) = some u from fun j u hu => (by rw [Go.WideShapes.add_plain]; show (U.alloc (.cells #[.int .i64 pos] 3)).cell? ⟨U.heap.size, 0 + j, none⟩ = _; rw [Nat.zero_add, cell_of_row _ _ j _ _ _ (heap_alloc_new U (.cells #[.int .i64 pos] 3)), List.getElem?_toArray]; exact hu))
    have HO18 := hid (show ∀ u ∈ ([.int .i64 pos] : List Value), u.oneCell' = true from fun u hu => (by simp only [List.mem_cons, List.not_mem_nil, or_false] at hu; subst hu; rfl))
    have HBB8 := hid (show B ≤ (U.alloc (.cells #[.int .i64 pos] 3)).heap.size from (by have h1 := HM8.out.size; have h3 := (belowA U (.cells #[.int .i64 pos] 3)).size; omega))
    have HOF := hid (show OwnI (U.alloc (.cells #[.int .i64 pos] 3)) B o s.os from (HM8.out.low (belowA U (.cells #[.int .i64 pos] 3))).offs)
    go_wp2_with (at_builtin; refine Ap.wpList_append_stays _ rfl _ _ 26 rfl B 3 i3 (.int .i64 0) 1 8 Tryz.underlying26 hi3 hz03 hz13 hz23 rfl (by decide) o s.os.length (s.os.map (Value.int .i64)) rfl HOF.out ⟨U.heap.size, 0, none⟩ 1 1 [.int .i64 pos] rfl rfl HA8.out HO18.out (by unfold maxLen; omega) (by omega) HBB8.out (by decide) ?_)
    intro o' w2 ho hg _ hob
    obtain ⟨oa8, oc8, rfl⟩ : ∃ oa oc, o' = .slice oa (s.os.length + 1) oc := (by rcases ho.2 with ⟨_, h0⟩ | ⟨r, cap, cur, e, _⟩; (exact absurd h0 (by omega)); (exact ⟨_, _, e⟩))
    have HP2 := hid (HM8.out.low (belowA U (.cells #[.int .i64 pos] 3)))
    have HBA8 := hid (belowA U (.cells #[.int .i64 pos] 3))
    have HB2 := hid ((hg.block mb (lt_blk HP2.out.box) (fun e => type_box HP2.out.offs HP2.out.box (by decide) e.symm rfl)).trans HP2.out.box)
    have HO2 := hid ho
    have HG2 := hid hg
    have HOB := hid (show ∀ k, (Value.slice oa8 (s.os.length + 1) oc8).ownBlock = some k → o.ownBlock = some k ∨ U.heap.size ≤ k from fun k hk => (by rcases hob with e | e; (exact Or.inl (e ▸ hk)); right; rw [e] at hk; injection hk with hk; have := HBA8.out.size; omega))
    clear ho hg hob u4 HA8 HO18 HBB8
    have wc : w2.cell? ⟨mb, 4, none⟩ = some o := (cell_of_row _ _ 4 _ _ _ HB2.out).trans (mc4 _ _ _ _ _ _ _ _)
    have wf : w2.frozen? ⟨mb, 4, none⟩ = false := frz_row HB2.out 4
    have HKK := hid (show ∀ k, k < U.heap.size → k ≠ mb → o.ownBlock ≠ some k → (w2.setCell ⟨mb, 4, none⟩ (Value.slice oa8 (s.os.length + 1) oc8)).heap[k]? = U.heap[k]? from fun k h1 h2 h3 => (set_oth HB2.out 4 (Value.slice oa8 (s.os.length + 1) oc8) h2).trans ((HG2.out.block k (Nat.lt_of_lt_of_le h1 HBA8.out.size) (fun e => h3 e.symm)).trans (HBA8.out.block k h1)))
    have HPE := hid (HM8.out.moreo (x := pos) (o' := (Value.slice oa8 (s.os.length + 1) oc8)) (by rw [heap_setCell_same _ _ _ _ _ _ HB2.out]; cases fl; simp [mc]) HKK.out (row_kept (show OwnI w2 B (Value.slice oa8 (s.os.length + 1) oc8) (s.os ++ [pos]) from (by unfold OwnI; rw [List.length_append, List.map_append]; exact HO2.out)) (fun k hk => set_oth HB2.out 4 (Value.slice oa8 (s.os.length + 1) oc8) (type_box HO2.out HB2.out (by decide) hk))) HOB.out)
    have HF9 := hid (show Fmm B U (w2.setCell ⟨mb, 4, none⟩ (Value.slice oa8 (s.os.length + 1) oc8)) from ⟨⟨HG2.out.os.trans HBA8.out.os, HG2.out.tape.trans HBA8.out.tape, HG2.out.output.trans HBA8.out.output, by simpa using Nat.le_trans HBA8.out.size HG2.out.size, fun k hk => HKK.out k (Nat.lt_of_lt_of_le hk HM8.out.size) (by have := HM8.out.mbB; omega) (fun e => by have := (row_at HM8.out.offs e).1; omega)⟩, fun k cs fr hk => HKK.out k (lt_blk hk) (fun e => by rw [e, HM8.out.box] at hk; injection hk with hk; injection hk with _ h5; exact absurd h5 (by decide)) (fun e => by obtain ⟨_, _, cur, h3⟩ := row_at HM8.out.offs e; rw [h3] at hk; injection hk with hk; injection hk with _ h5; exact absurd h5 (by decide))⟩)
    have HEND := hid HPE.out
    try rw [HBE.out] at HEND
    rw [HNP.out] at HEND
    go_wp2_with fail
    exact ⟨rfl, .tuple #[], by first | rfl | kernel_rfl, rfl, ⟨_, _, _, _, HEND.out⟩, HF7.out.trans (HF8.out.trans HF9.out)⟩
   ·have HFE := hid hf
    have c5 : wr.cell? ⟨mb, 5, none⟩ = some (.slice (some ⟨fg, 0, none⟩) i fcap) := (HMR.out.cell 5 (by decide)).trans (by rw [hf, HNN.out]; rfl)
    have c6 : (wr.alloc (.cells #[] 3)).cell? ⟨mb, 5, none⟩ = some (.slice (some ⟨fg, 0, none⟩) i fcap) := ((HMR.out.low (belowA wr (.cells #[] 3))).cell 5 (by decide)).trans (by rw [hf, HNN.out]; rfl)
    have HC5 := hid (fun Y (hb : Below wr.heap.size wr Y) => (show ∀ j u, ((fr.take base).map (Value.int .i64))[j]? = some u → Y.cell? ((⟨fg, 0, none⟩ : Addr).add j) = some u from fun j u hu => take_cell (by rw [← hf]; exact own_low HMR.out.free hb) hu))
    have g5 : (base : Int) ≤ (fcap : Int) := by have h8 := HNN.out; omega
    clear hf hfg hf4 hf5 hf6
    have g6 : (0 : Int) ≤ (base : Int) := by omega
    rw [show List.take (i - base) (List.drop base fr) = fr.drop base from List.take_of_length_le (by rw [List.length_drop, ← HNN.out]; omega)] at HK
    go_upto_region 6 with (at_builtin; refine wpList_append_own _ rfl _ _ 26 rfl wr.heap.size 3 i3 (.int .i64 0) 1 8 Tryz.underlying26 hi3 hz03 hz13 hz23 rfl (by decide) _ 0 [] rfl (World.ownsRow_made wr #[] 0 (Nat.le_refl _) (Nat.zero_le _) rfl) ⟨fg, 0, none⟩ base fcap ((fr.take base).map (Value.int .i64)) rfl (by rw [List.length_map, List.length_take, ← HNN.out]; omega) (HC5.out _ ((Below.refl _ wr).alloc (Nat.le_refl _) _)) (fun u hu => (by obtain ⟨z, _, rfl⟩ := List.mem_map.1 hu; rfl)) (by unfold maxLen; omega) (by omega) (by simp) ?_)
    intro rv W5 hown hgrow _
    have HTL2 := hid (show (fr.take base).length = base by rw [List.length_take, ← HNN.out]; omega)
    have HRV := hid (show OwnI W5 wr.heap.size rv (fr.take base) by unfold OwnI; rw [HTL2.out]; simpa using hown)
    have HB5 := hid (((Below.refl wr.heap.size wr).alloc (Nat.le_refl _) _).grown hgrow (by simp) (fun k hk => by simp [Value.ownBlock] at hk; omega))
    clear hown hgrow c5 c6
    have HM5 := hid (HMR.out.low HB5.out)
    have c3 : W5.cell? ⟨mb, 3, none⟩ = some (.slice va NP vcap) := (HM5.out.cell 3 (by decide)).trans (by rw [HVE.out]; rfl)
    have c3a : (W5.alloc (.cells #[.int .i64 (NP : Int)] 3)).cell? ⟨mb, 3, none⟩ = some (.slice va NP vcap) := ((HM5.out.low (belowA W5 (.cells #[.int .i64 (NP : Int)] 3))).cell 3 (by decide)).trans (by rw [HVE.out]; rfl)
    have HA := hid (show ∀ j u, ([.int .i64 (NP : Int)] : List Value)[j]? = some u → (W5.alloc (.cells #[.int .i64 (NP : Int)] 3)).cell? ((⟨W5.heap.size, 0, none⟩ : Addr).add j) = some u from fun j u hu => (by rw [Go.WideShapes.add_plain]; show (W5.alloc (.cells #[.int .i64 (NP : Int)] 3)).cell? ⟨W5.heap.size, 0 + j, none⟩ = _; rw [Nat.zero_add, cell_of_row _ _ j _ _ _ (heap_alloc_new W5 (.cells #[.int .i64 (NP : Int)] 3)), List.getElem?_toArray]; exact hu))
    go_upto_region 7 with (at_builtin; refine wpList_append_own _ rfl _ _ 26 rfl wr.heap.size 3 i3 (.int .i64 0) 1 8 Tryz.underlying26 hi3 hz03 hz13 hz23 rfl (by decide) rv base ((fr.take base).map (Value.int .i64)) rfl (by have h9 := own_low HRV.out (belowA W5 (.cells #[.int .i64 (NP : Int)] 3)); unfold OwnI at h9; rw [HTL2.out] at h9; exact h9) ⟨W5.heap.size, 0, none⟩ 1 1 [.int .i64 (NP : Int)] rfl rfl HA.out (fun u hu => (by simp only [List.mem_cons, List.not_mem_nil, or_false] at hu; subst hu; rfl)) (by unfold maxLen; omega) (by omega) (by have h8 := HB5.out.size; simp; omega) ?_)
    intro f2 w6 ho hg _
    obtain ⟨fa2, fc2, rfl⟩ : ∃ va vc, f2 = .slice va (base + 1) vc := (by rcases ho.2 with ⟨_, h0⟩ | ⟨r, cap, cur, e, _⟩; (exact absurd h0 (by omega)); (exact ⟨_, _, e⟩))
    have HA6 := hid (bch HB5.out (belowA W5 (.cells #[.int .i64 (NP : Int)] 3)))
    have HB6 := hid (show Below wr.heap.size wr w6 from ⟨hg.os.trans HA6.out.os, hg.tape.trans HA6.out.tape, hg.output.trans HA6.out.output, Nat.le_trans HA6.out.size hg.size, fun k hk => (hg.block k (Nat.lt_of_lt_of_le hk HA6.out.size) (fun e => by have := (row_at HRV.out e.symm).1; omega)).trans (HA6.out.block k hk)⟩)
    have HO6 := hid ho
    clear ho hg
    have HM6 := hid (HMR.out.low HB6.out)
    have wc : w6.cell? ⟨mb, 5, none⟩ = some f := HM6.out.cell 5 (by decide)
    have wf : w6.frozen? ⟨mb, 5, none⟩ = false := frz_row HM6.out.box 5
    clear c3 c3a HA
    go_upto_region 7 with (fail)
    have HM7 := hid (HM6.out.moref (f' := (.slice fa2 (base + 1) fc2)) (fr' := fr.take base ++ [(NP : Int)]) (by rw [heap_setCell_same _ _ _ _ _ _ HM6.out.box]; cases fl; simp [mc]) (fun k _ hk => heap_setCell_other w6 ⟨mb, 5, none⟩ k (.slice fa2 (base + 1) fc2) hk) (row_base (row_kept (by rw [List.length_append, List.map_append, HTL2.out, List.map_take]; exact HO6.out) (fun k hk => set_oth HM6.out.box 5 (.slice fa2 (base + 1) fc2) (type_box HO6.out HM6.out.box (by decide) hk))) (by have h8 := HMR.out.size; exact h8)) (fun j hj k hk e => by have h8 := (row_at (HMR.out.parts.kids j hj) hk).2.1; have h9 := (row_at HO6.out e).1; omega) (fun k hk e => by have h8 := (row_at HMR.out.offs hk).2.1; have h9 := (row_at HO6.out e).1; omega))
    have HX7 := hid ((heap_setCell_other w6 ⟨mb, 5, none⟩ bp (.slice fa2 (base + 1) fc2) (fun e => HBM.out e)).trans ((HB6.out.block bp HLW.out).trans HX.out))
    have HF7 := hid ((Fmm.of HBW.out HP.out.size).trans ((Fmm.of HB6.out HMR.out.size).trans (Fmm.chg HM6.out (W' := w6.setCell ⟨mb, 5, none⟩ (.slice fa2 (base + 1) fc2)) rfl rfl rfl (by rw [World.size_setCell]; exact Nat.le_refl _) (fun k _ hk => heap_setCell_other w6 ⟨mb, 5, none⟩ k (.slice fa2 (base + 1) fc2) hk))))
    have HKB := hid (own_low (own_low HK.out (Below.refl _ wr)) HB6.out)
    have HS7 := hid (fun k (hk : k ≠ mb) => heap_setCell_other w6 ⟨mb, 5, none⟩ k (.slice fa2 (base + 1) fc2) hk)
    generalize w6.setCell ⟨mb, 5, none⟩ (.slice fa2 (base + 1) fc2) = W7 at *
    clear wc wf
    obtain ⟨ka, kc, hkf⟩ := own_form HK.out
    obtain ⟨kl, hkl⟩ : ∃ kl, kl = (fr.drop base).length := ⟨_, rfl⟩
    rw [← hkl] at hkf
    have HKV := hid (show OwnI W7 B kv (fr.drop base) from row_base (row_kept HKB.out (fun k hk => HS7.out k (type_box HKB.out HM6.out.box (by decide) hk))) (by have := HP.out.size; omega))
    have HKA := hid (show ∀ k, kv.ownBlock = some k → o.ownBlock ≠ some k ∧ (Value.slice fa2 (base + 1) fc2).ownBlock ≠ some k from fun k hk => ⟨fun e => (by have h8 := (row_at HP.out.offs e).2.1; have h9 := (row_at HK.out hk).1; omega), fun e => (by have h8 := (row_at HO6.out e).1; have h9 := (row_at HK.out hk).2.1; omega)⟩)
    rw [hkf] at HX7 HKV HKA
    clear hkf hkl
    have HBV := hid (show v.ownBlock ≠ some bp from fun e => (by have h8 := (row_at HP.out.parts.row e).2.1; have h9 := HBP.out; omega))
    have MB7 := hid (show ∀ Z, But1 mb v W7 Z → (fun Z => Z.cell? ⟨bp, 0, none⟩ = some (.int .i64 kd) ∧ Z.cell? ⟨bp, 1, none⟩ = some (.string tx) ∧ Z.cell? ⟨bp, 2, none⟩ = some (.int .i64 nu) ∧ Z.cell? ⟨bp, 3, none⟩ = some (.slice ka kl kc)) Z from fun Z hb => ⟨(World.cell?_of_block (a := ⟨bp, 0, none⟩) (hb bp (lt_blk HX7.out) HBM.out HBV.out)).trans (cell_of_row _ _ 0 _ _ _ HX7.out), (World.cell?_of_block (a := ⟨bp, 1, none⟩) (hb bp (lt_blk HX7.out) HBM.out HBV.out)).trans (cell_of_row _ _ 1 _ _ _ HX7.out), (World.cell?_of_block (a := ⟨bp, 2, none⟩) (hb bp (lt_blk HX7.out) HBM.out HBV.out)).trans (cell_of_row _ _ 2 _ _ _ HX7.out), (World.cell?_of_block (a := ⟨bp, 3, none⟩) (hb bp (lt_blk HX7.out) HBM.out HBV.out)).trans (cell_of_row _ _ 3 _ _ _ HX7.out)⟩)
    have HV0 := hid (show Below W7.heap.size W7 W7.drew from (Below.refl _ _).drew)
    have MBB7 := hid (show ∀ Z, Below W7.heap.size W7 Z → (fun Z => Z.cell? ⟨bp, 0, none⟩ = some (.int .i64 kd) ∧ Z.cell? ⟨bp, 1, none⟩ = some (.string tx) ∧ Z.cell? ⟨bp, 2, none⟩ = some (.int .i64 nu) ∧ Z.cell? ⟨bp, 3, none⟩ = some (.slice ka kl kc)) Z from fun Z hb => MB7.out Z (fun k hk _ _ => hb.block k hk))
    obtain ⟨i4, hi, hz0, hz1, hz2⟩ := info_parts infoP
    refine wp_region_held_drew (S := (fun Z => Z.cell? ⟨bp, 0, none⟩ = some (.int .i64 kd) ∧ Z.cell? ⟨bp, 1, none⟩ = some (.string tx) ∧ Z.cell? ⟨bp, 2, none⟩ = some (.int .i64 nu) ∧ Z.cell? ⟨bp, 3, none⟩ = some (.slice ka kl kc))) (by kernel_rfl) ?_ (fun hHeld => ?_)
    ·exact MBB7.out _ HV0.out
    generalize W7.drew = Z0 at *
    refine wpAnyH_take (i := 0) (v := ?_) rfl (by kernel_rfl) (by kernel_rfl) (by kernel_rfl) (fun _ _ _ h => h) (Or.inl ⟨by rfl, ?_⟩) (by assumption) ?_
    rotate_left
    ·(intro w hSw; (try dsimp only at hSw); go_simp; try with_reducible rfl)
    try simp only [Act.put, List.setIfInBounds_toArray, List.set_cons_zero, List.set_cons_succ]
    refine wpAnyH_take (i := 1) (v := ?_) rfl (by kernel_rfl) (by kernel_rfl) (by kernel_rfl) (fun _ _ _ h => h) (Or.inl ⟨by rfl, ?_⟩) (by assumption) ?_
    rotate_left
    ·(intro w hSw; (try dsimp only at hSw); go_simp; try with_reducible rfl)
    try simp only [Act.put, List.setIfInBounds_toArray, List.set_cons_zero, List.set_cons_succ]
    refine wpAnyH_take (i := 2) (v := ?_) rfl (by kernel_rfl) (by kernel_rfl) (by kernel_rfl) (fun _ _ _ h => h) (Or.inl ⟨by rfl, ?_⟩) (by assumption) ?_
    rotate_left
    ·(intro w hSw; (try dsimp only at hSw); go_simp; try with_reducible rfl)
    try simp only [Act.put, List.setIfInBounds_toArray, List.set_cons_zero, List.set_cons_succ]
    refine wpAnyH_take (i := 3) (v := ?_) rfl (by kernel_rfl) (by kernel_rfl) (by kernel_rfl) (fun _ _ _ h => h) (Or.inl ⟨by rfl, ?_⟩) (by assumption) ?_
    rotate_left
    ·(intro w hSw; (try dsimp only at hSw); go_simp; try with_reducible rfl)
    try simp only [Act.put, List.setIfInBounds_toArray, List.set_cons_zero, List.set_cons_succ]
    refine wpAnyH_take (i := 5) (v := ?_) rfl (by kernel_rfl) (by kernel_rfl) (by kernel_rfl) (fun _ _ _ h => h) (Or.inl ⟨by rfl, ?_⟩) (by assumption) ?_
    rotate_left
    ·(intro w hSw; (try dsimp only at hSw); go_simp; try with_reducible rfl)
    try simp only [Act.put, List.setIfInBounds_toArray, List.set_cons_zero, List.set_cons_succ]
    refine wpAnyH_ready (rs := [4, 6]) (by kernel_rfl) (by simp) ?_
    refine AllReadyH.cons rfl (fun K hK => ?_) ?_
    ·have wc : Z0.cell? ⟨mb, 3, none⟩ = some v := (HM7.out.low HV0.out).cell 3 (by decide)
     go_simp
     clear wc
     refine hK.out _ _ ?_ (fun hHeld => ?_)
     ·exact MBB7.out _ HV0.out
     clear hK K hHeld
     try simp only [Act.put, List.setIfInBounds_toArray, List.set_cons_zero, List.set_cons_succ]
     have hHeld := MBB7.out Z0 HV0.out
     refine wpAnyH_ready (rs := [6]) (by kernel_rfl) (by simp) ?_
     refine AllReadyH.cons rfl (fun K hK => ?_) AllReadyH.nil
     go_simp
     refine hK.out _ _ ?_ (fun hHeld => ?_)
     ·exact MBB7.out _ (HV0.out.alloc HV0.out.size _)
     clear hK K hHeld
     try simp only [Act.put, List.setIfInBounds_toArray, List.set_cons_zero, List.set_cons_succ]
     have HR := hid (heap_alloc_new Z0 (.cells #[.int .i64 kd, .string tx, .int .i64 nu, .slice ka kl kc] 46))
     have HB9 := hid (HV0.out.alloc HV0.out.size (.cells #[.int .i64 kd, .string tx, .int .i64 nu, .slice ka kl kc] 46))
     generalize Z0.alloc (.cells #[.int .i64 kd, .string tx, .int .i64 nu, .slice ka kl kc] 46) = Z1 at *
     generalize Z0.heap.size = rb at *
     have hHeld := MBB7.out Z1 HB9.out
     refine wpAnyH_ready (rs := [7]) (by kernel_rfl) (by simp) ?_
     refine AllReadyH.cons rfl (fun K hK => ?_) AllReadyH.nil
     rw [if_pos (by rfl)]
     have HP1 := hid (HM7.out.low HB9.out)
     refine wp_append_stays _ _ 23 rfl B 46 i4 (.agg #[.int .i64 0, .string ByteArray.empty, .int .i64 0, .slice none 0 0]) 4 56 Tryz.underlying23 hi hz0 hz1 hz2 rfl (by decide) v NP (CP s.ps ks NP) rfl (by rw [HNP.out]; exact HP1.out.parts.row) ⟨rb, 0, none⟩ 1 1 [.int .i64 kd, .string tx, .int .i64 nu, .slice ka kl kc] rfl rfl ?_ ?_ (by have := HNP.out; unfold maxLen; omega) (by have := HNP.out; omega) ?_ (by decide) ?_
     ·intro j u hu
      rw [Go.WideShapes.add_plain]
      show Z1.cell? ⟨rb, 0 + j, none⟩ = _
      rw [Nat.zero_add, cell_of_row _ _ j _ _ _ HR.out, List.getElem?_toArray]
      exact hu
     ·intro u hu
      exact four_one hu
     ·exact HP1.out.size
     intro v' w' ho hg hvb
     obtain ⟨va7, vc7, rfl⟩ : ∃ va vc, v' = .slice va (NP + 1) vc := (by rcases ho.2 with ⟨_, h0⟩ | ⟨r, cap, cur, e, _⟩; (exact absurd h0 (by omega)); (exact ⟨_, _, e⟩))
     have HOW := hid ho
     have HG := hid hg
     have HBU := hid (show But1 mb v W7 w' from fun k hk _ hv => (hg.block k (Nat.lt_of_lt_of_le hk HB9.out.size) (fun e => hv e.symm)).trans (HB9.out.block k hk))
     have HWW := hid ((hg.block mb (lt_blk HP1.out.box) (fun e => type_box HP1.out.parts.row HP1.out.box (by decide) e.symm rfl)).trans HP1.out.box)
     clear ho hg hvb
     refine hK.out _ _ ?_ (fun hHeld => ?_)
     ·exact MB7.out _ HBU.out
     clear hK K hHeld
     try simp only [Act.put, List.setIfInBounds_toArray, List.set_cons_zero, List.set_cons_succ]
     have hHeld := MB7.out w' HBU.out
     refine wpAnyH_take (i := 8) (v := ?_) rfl (by kernel_rfl) (by kernel_rfl) (by kernel_rfl) (fun _ _ _ h => h) (Or.inl ⟨by rfl, ?_⟩) (by assumption) ?_
     rotate_left
     ·(intro w hSw; (try dsimp only at hSw); go_simp; try with_reducible rfl)
     try simp only [Act.put, List.setIfInBounds_toArray, List.set_cons_zero, List.set_cons_succ]
     refine wpAnyH_take (i := 9) (v := ?_) rfl (by kernel_rfl) (by kernel_rfl) (by kernel_rfl) (fun _ _ _ h => h) (Or.inl ⟨by rfl, ?_⟩) (by assumption) ?_
     rotate_left
     ·(intro w hSw; (try dsimp only at hSw); go_simp; try with_reducible rfl)
     try simp only [Act.put, List.setIfInBounds_toArray, List.set_cons_zero, List.set_cons_succ]
     refine wpAnyH_ready (rs := [10]) (by kernel_rfl) (by simp) ?_
     refine AllReadyH.cons rfl (fun K hK => ?_) AllReadyH.nil
     have wc : w'.cell? ⟨mb, 3, none⟩ = some v := (cell_of_row _ _ 3 _ _ _ HWW.out).trans (mc3 _ _ _ _ _ _ _ _)
     have wf : w'.frozen? ⟨mb, 3, none⟩ = false := frz_row HWW.out 3
     go_simp
     have HBT := hid (show But1 mb v W7 (w'.setCell ⟨mb, 3, none⟩ (.slice va7 (NP + 1) vc7)) from fun k hk hne hv => (set_oth HWW.out 3 (.slice va7 (NP + 1) vc7) hne).trans (HBU.out k hk hne hv))
     refine hK.out _ _ ?_ (fun hHeld => ?_)
     ·exact MB7.out _ HBT.out
     clear hK K hHeld wc wf
     try simp only [Act.put, List.setIfInBounds_toArray, List.set_cons_zero, List.set_cons_succ]
     refine wpAnyH_done (by kernel_rfl) ?_ _
     clear hHeld
     have HGR := hid (own_growm (p := ⟨kd, tx, nu, fr.drop base⟩) (kv := .slice ka kl kc) HNP.out HP1.out.parts (row_kept HKV.out (fun k hk => HB9.out.block k (row_at HKV.out hk).2.1)) HOW.out HG.out HWW.out (fun k hk => set_oth HWW.out 3 (.slice va7 (NP + 1) vc7) hk))
     have HM8 := hid (HM7.out.morep (p := ⟨kd, tx, nu, fr.drop base⟩) (v' := (.slice va7 (NP + 1) vc7)) (by rw [heap_setCell_same _ _ _ _ _ _ HWW.out]; cases fl; simp [mc]) (fun k h1 h2 h3 => HBT.out k h1 h2 h3) (by rw [← HNP.out]; exact HGR.out) (by intro j hj k hk; (try dsimp only at hk); by_cases hjn : j = NP; (rw [if_pos hjn] at hk; exact HKA.out k hk); rw [if_neg hjn] at hk; have hjs : j < s.ps.length := (by have := HNP.out; omega); exact ⟨HM7.out.ko j hjs k hk, HM7.out.kf j hjs k hk⟩))
     have HF8 := hid (show Fmm B W7 (w'.setCell ⟨mb, 3, none⟩ (.slice va7 (NP + 1) vc7)) from ⟨⟨HG.out.os.trans HB9.out.os, HG.out.tape.trans HB9.out.tape, HG.out.output.trans HB9.out.output, by simpa using Nat.le_trans HB9.out.size HG.out.size, fun k hk => HBT.out k (Nat.lt_of_lt_of_le hk HM7.out.size) (by have := HM7.out.mbB; omega) (fun e => by have := (row_at HM7.out.parts.row e).1; omega)⟩, fun k cs fr hk => HBT.out k (lt_blk hk) (fun e => by rw [e, HM7.out.box] at hk; injection hk with hk; injection hk with _ h5; exact absurd h5 (by decide)) (fun e => by obtain ⟨_, _, cur, h3⟩ := row_at HM7.out.parts.row e; rw [h3] at hk; injection hk with hk; injection hk with _ h5; exact absurd h5 (by decide))⟩)
     generalize w'.setCell ⟨mb, 3, none⟩ (.slice va7 (NP + 1) vc7) = U at *
     clear HR HB9 HP1 HOW HG HBU HWW HBT HGR
     have u4 : U.cell? ⟨mb, 4, none⟩ = some o := HM8.out.cell 4 (by decide)
     have HA8 := hid (show ∀ j u, ([.int .i64 pos] : List Value)[j]? = some u → (U.alloc (.cells #[.int .i64 pos] 3)).cell? ((⟨U.heap.size, 0, none⟩ : Addr).add j) = some u from fun j u hu => (by rw [Go.WideShapes.add_plain]; show (U.alloc (.cells #[.int .i64 pos] 3)).cell? ⟨U.heap.size, 0 + j, none⟩ = _; rw [Nat.zero_add, cell_of_row _ _ j _ _ _ (heap_alloc_new U (.cells #[.int .i64 pos] 3)), List.getElem?_toArray]; exact hu))
     have HO18 := hid (show ∀ u ∈ ([.int .i64 pos] : List Value), u.oneCell' = true from fun u hu => (by simp only [List.mem_cons, List.not_mem_nil, or_false] at hu; subst hu; rfl))
     have HBB8 := hid (show B ≤ (U.alloc (.cells #[.int .i64 pos] 3)).heap.size from (by have h1 := HM8.out.size; have h3 := (belowA U (.cells #[.int .i64 pos] 3)).size; omega))
     have HOF := hid (show OwnI (U.alloc (.cells #[.int .i64 pos] 3)) B o s.os from (HM8.out.low (belowA U (.cells #[.int .i64 pos] 3))).offs)
     go_wp2_with (at_builtin; refine Ap.wpList_append_stays _ rfl _ _ 26 rfl B 3 i3 (.int .i64 0) 1 8 Tryz.underlying26 hi3 hz03 hz13 hz23 rfl (by decide) o s.os.length (s.os.map (Value.int .i64)) rfl HOF.out ⟨U.heap.size, 0, none⟩ 1 1 [.int .i64 pos] rfl rfl HA8.out HO18.out (by unfold maxLen; omega) (by omega) HBB8.out (by decide) ?_)
     intro o' w2 ho hg _ hob
     obtain ⟨oa8, oc8, rfl⟩ : ∃ oa oc, o' = .slice oa (s.os.length + 1) oc := (by rcases ho.2 with ⟨_, h0⟩ | ⟨r, cap, cur, e, _⟩; (exact absurd h0 (by omega)); (exact ⟨_, _, e⟩))
     have HP2 := hid (HM8.out.low (belowA U (.cells #[.int .i64 pos] 3)))
     have HBA8 := hid (belowA U (.cells #[.int .i64 pos] 3))
     have HB2 := hid ((hg.block mb (lt_blk HP2.out.box) (fun e => type_box HP2.out.offs HP2.out.box (by decide) e.symm rfl)).trans HP2.out.box)
     have HO2 := hid ho
     have HG2 := hid hg
     have HOB := hid (show ∀ k, (Value.slice oa8 (s.os.length + 1) oc8).ownBlock = some k → o.ownBlock = some k ∨ U.heap.size ≤ k from fun k hk => (by rcases hob with e | e; (exact Or.inl (e ▸ hk)); right; rw [e] at hk; injection hk with hk; have := HBA8.out.size; omega))
     clear ho hg hob u4 HA8 HO18 HBB8
     have wc : w2.cell? ⟨mb, 4, none⟩ = some o := (cell_of_row _ _ 4 _ _ _ HB2.out).trans (mc4 _ _ _ _ _ _ _ _)
     have wf : w2.frozen? ⟨mb, 4, none⟩ = false := frz_row HB2.out 4
     have HKK := hid (show ∀ k, k < U.heap.size → k ≠ mb → o.ownBlock ≠ some k → (w2.setCell ⟨mb, 4, none⟩ (Value.slice oa8 (s.os.length + 1) oc8)).heap[k]? = U.heap[k]? from fun k h1 h2 h3 => (set_oth HB2.out 4 (Value.slice oa8 (s.os.length + 1) oc8) h2).trans ((HG2.out.block k (Nat.lt_of_lt_of_le h1 HBA8.out.size) (fun e => h3 e.symm)).trans (HBA8.out.block k h1)))
     have HPE := hid (HM8.out.moreo (x := pos) (o' := (Value.slice oa8 (s.os.length + 1) oc8)) (by rw [heap_setCell_same _ _ _ _ _ _ HB2.out]; cases fl; simp [mc]) HKK.out (row_kept (show OwnI w2 B (Value.slice oa8 (s.os.length + 1) oc8) (s.os ++ [pos]) from (by unfold OwnI; rw [List.length_append, List.map_append]; exact HO2.out)) (fun k hk => set_oth HB2.out 4 (Value.slice oa8 (s.os.length + 1) oc8) (type_box HO2.out HB2.out (by decide) hk))) HOB.out)
     have HF9 := hid (show Fmm B U (w2.setCell ⟨mb, 4, none⟩ (Value.slice oa8 (s.os.length + 1) oc8)) from ⟨⟨HG2.out.os.trans HBA8.out.os, HG2.out.tape.trans HBA8.out.tape, HG2.out.output.trans HBA8.out.output, by simpa using Nat.le_trans HBA8.out.size HG2.out.size, fun k hk => HKK.out k (Nat.lt_of_lt_of_le hk HM8.out.size) (by have := HM8.out.mbB; omega) (fun e => by have := (row_at HM8.out.offs e).1; omega)⟩, fun k cs fr hk => HKK.out k (lt_blk hk) (fun e => by rw [e, HM8.out.box] at hk; injection hk with hk; injection hk with _ h5; exact absurd h5 (by decide)) (fun e => by obtain ⟨_, _, cur, h3⟩ := row_at HM8.out.offs e; rw [h3] at hk; injection hk with hk; injection hk with _ h5; exact absurd h5 (by decide))⟩)
     have HEND := hid HPE.out
     try rw [HBE.out] at HEND
     rw [HNP.out] at HEND
     go_wp2_with fail
     exact ⟨rfl, .tuple #[], by first | rfl | kernel_rfl, rfl, ⟨_, _, _, _, HEND.out⟩, HF7.out.trans (HF8.out.trans HF9.out)⟩
    refine AllReadyH.cons rfl (fun K hK => ?_) AllReadyH.nil
    go_simp
    refine hK.out _ _ ?_ (fun hHeld => ?_)
    ·exact MBB7.out _ (HV0.out.alloc HV0.out.size _)
    clear hK K hHeld
    try simp only [Act.put, List.setIfInBounds_toArray, List.set_cons_zero, List.set_cons_succ]
    have HR := hid (heap_alloc_new Z0 (.cells #[.int .i64 kd, .string tx, .int .i64 nu, .slice ka kl kc] 46))
    have HB9 := hid (HV0.out.alloc HV0.out.size (.cells #[.int .i64 kd, .string tx, .int .i64 nu, .slice ka kl kc] 46))
    generalize Z0.alloc (.cells #[.int .i64 kd, .string tx, .int .i64 nu, .slice ka kl kc] 46) = Z1 at *
    generalize Z0.heap.size = rb at *
    have hHeld := MBB7.out Z1 HB9.out
    refine wpAnyH_ready (rs := [4]) (by kernel_rfl) (by simp) ?_
    refine AllReadyH.cons rfl (fun K hK => ?_) AllReadyH.nil
    have wc : Z1.cell? ⟨mb, 3, none⟩ = some v := (HM7.out.low HB9.out).cell 3 (by decide)
    go_simp
    clear wc
    refine hK.out _ _ ?_ (fun hHeld => ?_)
    ·exact MBB7.out _ HB9.out
    clear hK K hHeld
    try simp only [Act.put, List.setIfInBounds_toArray, List.set_cons_zero, List.set_cons_succ]
    have hHeld := MBB7.out Z1 HB9.out
    refine wpAnyH_ready (rs := [7]) (by kernel_rfl) (by simp) ?_
    refine AllReadyH.cons rfl (fun K hK => ?_) AllReadyH.nil
    rw [if_pos (by rfl)]
    have HP1 := hid (HM7.out.low HB9.out)
    refine wp_append_stays _ _ 23 rfl B 46 i4 (.agg #[.int .i64 0, .string ByteArray.empty, .int .i64 0, .slice none 0 0]) 4 56 Tryz.underlying23 hi hz0 hz1 hz2 rfl (by decide) v NP (CP s.ps ks NP) rfl (by rw [HNP.out]; exact HP1.out.parts.row) ⟨rb, 0, none⟩ 1 1 [.int .i64 kd, .string tx, .int .i64 nu, .slice ka kl kc] rfl rfl ?_ ?_ (by have := HNP.out; unfold maxLen; omega) (by have := HNP.out; omega) ?_ (by decide) ?_
    ·intro j u hu
     rw [Go.WideShapes.add_plain]
     show Z1.cell? ⟨rb, 0 + j, none⟩ = _
     rw [Nat.zero_add, cell_of_row _ _ j _ _ _ HR.out, List.getElem?_toArray]
     exact hu
    ·intro u hu
     exact four_one hu
    ·exact HP1.out.size
    intro v' w' ho hg hvb
    obtain ⟨va7, vc7, rfl⟩ : ∃ va vc, v' = .slice va (NP + 1) vc := (by rcases ho.2 with ⟨_, h0⟩ | ⟨r, cap, cur, e, _⟩; (exact absurd h0 (by omega)); (exact ⟨_, _, e⟩))
    have HOW := hid ho
    have HG := hid hg
    have HBU := hid (show But1 mb v W7 w' from fun k hk _ hv => (hg.block k (Nat.lt_of_lt_of_le hk HB9.out.size) (fun e => hv e.symm)).trans (HB9.out.block k hk))
    have HWW := hid ((hg.block mb (lt_blk HP1.out.box) (fun e => type_box HP1.out.parts.row HP1.out.box (by decide) e.symm rfl)).trans HP1.out.box)
    clear ho hg hvb
    refine hK.out _ _ ?_ (fun hHeld => ?_)
    ·exact MB7.out _ HBU.out
    clear hK K hHeld
    try simp only [Act.put, List.setIfInBounds_toArray, List.set_cons_zero, List.set_cons_succ]
    have hHeld := MB7.out w' HBU.out
    refine wpAnyH_take (i := 8) (v := ?_) rfl (by kernel_rfl) (by kernel_rfl) (by kernel_rfl) (fun _ _ _ h => h) (Or.inl ⟨by rfl, ?_⟩) (by assumption) ?_
    rotate_left
    ·(intro w hSw; (try dsimp only at hSw); go_simp; try with_reducible rfl)
    try simp only [Act.put, List.setIfInBounds_toArray, List.set_cons_zero, List.set_cons_succ]
    refine wpAnyH_take (i := 9) (v := ?_) rfl (by kernel_rfl) (by kernel_rfl) (by kernel_rfl) (fun _ _ _ h => h) (Or.inl ⟨by rfl, ?_⟩) (by assumption) ?_
    rotate_left
    ·(intro w hSw; (try dsimp only at hSw); go_simp; try with_reducible rfl)
    try simp only [Act.put, List.setIfInBounds_toArray, List.set_cons_zero, List.set_cons_succ]
    refine wpAnyH_ready (rs := [10]) (by kernel_rfl) (by simp) ?_
    refine AllReadyH.cons rfl (fun K hK => ?_) AllReadyH.nil
    have wc : w'.cell? ⟨mb, 3, none⟩ = some v := (cell_of_row _ _ 3 _ _ _ HWW.out).trans (mc3 _ _ _ _ _ _ _ _)
    have wf : w'.frozen? ⟨mb, 3, none⟩ = false := frz_row HWW.out 3
    go_simp
    have HBT := hid (show But1 mb v W7 (w'.setCell ⟨mb, 3, none⟩ (.slice va7 (NP + 1) vc7)) from fun k hk hne hv => (set_oth HWW.out 3 (.slice va7 (NP + 1) vc7) hne).trans (HBU.out k hk hne hv))
    refine hK.out _ _ ?_ (fun hHeld => ?_)
    ·exact MB7.out _ HBT.out
    clear hK K hHeld wc wf
    try simp only [Act.put, List.setIfInBounds_toArray, List.set_cons_zero, List.set_cons_succ]
    refine wpAnyH_done (by kernel_rfl) ?_ _
    clear hHeld
    have HGR := hid (own_growm (p := ⟨kd, tx, nu, fr.drop base⟩) (kv := .slice ka kl kc) HNP.out HP1.out.parts (row_kept HKV.out (fun k hk => HB9.out.block k (row_at HKV.out hk).2.1)) HOW.out HG.out HWW.out (fun k hk => set_oth HWW.out 3 (.slice va7 (NP + 1) vc7) hk))
    have HM8 := hid (HM7.out.morep (p := ⟨kd, tx, nu, fr.drop base⟩) (v' := (.slice va7 (NP + 1) vc7)) (by rw [heap_setCell_same _ _ _ _ _ _ HWW.out]; cases fl; simp [mc]) (fun k h1 h2 h3 => HBT.out k h1 h2 h3) (by rw [← HNP.out]; exact HGR.out) (by intro j hj k hk; (try dsimp only at hk); by_cases hjn : j = NP; (rw [if_pos hjn] at hk; exact HKA.out k hk); rw [if_neg hjn] at hk; have hjs : j < s.ps.length := (by have := HNP.out; omega); exact ⟨HM7.out.ko j hjs k hk, HM7.out.kf j hjs k hk⟩))
    have HF8 := hid (show Fmm B W7 (w'.setCell ⟨mb, 3, none⟩ (.slice va7 (NP + 1) vc7)) from ⟨⟨HG.out.os.trans HB9.out.os, HG.out.tape.trans HB9.out.tape, HG.out.output.trans HB9.out.output, by simpa using Nat.le_trans HB9.out.size HG.out.size, fun k hk => HBT.out k (Nat.lt_of_lt_of_le hk HM7.out.size) (by have := HM7.out.mbB; omega) (fun e => by have := (row_at HM7.out.parts.row e).1; omega)⟩, fun k cs fr hk => HBT.out k (lt_blk hk) (fun e => by rw [e, HM7.out.box] at hk; injection hk with hk; injection hk with _ h5; exact absurd h5 (by decide)) (fun e => by obtain ⟨_, _, cur, h3⟩ := row_at HM7.out.parts.row e; rw [h3] at hk; injection hk with hk; injection hk with _ h5; exact absurd h5 (by decide))⟩)
    generalize w'.setCell ⟨mb, 3, none⟩ (.slice va7 (NP + 1) vc7) = U at *
    clear HR HB9 HP1 HOW HG HBU HWW HBT HGR
    have u4 : U.cell? ⟨mb, 4, none⟩ = some o := HM8.out.cell 4 (by decide)
    have HA8 := hid (show ∀ j u, ([.int .i64 pos] : List Value)[j]? = some u → (U.alloc (.cells #[.int .i64 pos] 3)).cell? ((⟨U.heap.size, 0, none⟩ : Addr).add j) = some u from fun j u hu => (by rw [Go.WideShapes.add_plain]; show (U.alloc (.cells #[.int .i64 pos] 3)).cell? ⟨U.heap.size, 0 + j, none⟩ = _; rw [Nat.zero_add, cell_of_row _ _ j _ _ _ (heap_alloc_new U (.cells #[.int .i64 pos] 3)), List.getElem?_toArray]; exact hu))
    have HO18 := hid (show ∀ u ∈ ([.int .i64 pos] : List Value), u.oneCell' = true from fun u hu => (by simp only [List.mem_cons, List.not_mem_nil, or_false] at hu; subst hu; rfl))
    have HBB8 := hid (show B ≤ (U.alloc (.cells #[.int .i64 pos] 3)).heap.size from (by have h1 := HM8.out.size; have h3 := (belowA U (.cells #[.int .i64 pos] 3)).size; omega))
    have HOF := hid (show OwnI (U.alloc (.cells #[.int .i64 pos] 3)) B o s.os from (HM8.out.low (belowA U (.cells #[.int .i64 pos] 3))).offs)
    go_wp2_with (at_builtin; refine Ap.wpList_append_stays _ rfl _ _ 26 rfl B 3 i3 (.int .i64 0) 1 8 Tryz.underlying26 hi3 hz03 hz13 hz23 rfl (by decide) o s.os.length (s.os.map (Value.int .i64)) rfl HOF.out ⟨U.heap.size, 0, none⟩ 1 1 [.int .i64 pos] rfl rfl HA8.out HO18.out (by unfold maxLen; omega) (by omega) HBB8.out (by decide) ?_)
    intro o' w2 ho hg _ hob
    obtain ⟨oa8, oc8, rfl⟩ : ∃ oa oc, o' = .slice oa (s.os.length + 1) oc := (by rcases ho.2 with ⟨_, h0⟩ | ⟨r, cap, cur, e, _⟩; (exact absurd h0 (by omega)); (exact ⟨_, _, e⟩))
    have HP2 := hid (HM8.out.low (belowA U (.cells #[.int .i64 pos] 3)))
    have HBA8 := hid (belowA U (.cells #[.int .i64 pos] 3))
    have HB2 := hid ((hg.block mb (lt_blk HP2.out.box) (fun e => type_box HP2.out.offs HP2.out.box (by decide) e.symm rfl)).trans HP2.out.box)
    have HO2 := hid ho
    have HG2 := hid hg
    have HOB := hid (show ∀ k, (Value.slice oa8 (s.os.length + 1) oc8).ownBlock = some k → o.ownBlock = some k ∨ U.heap.size ≤ k from fun k hk => (by rcases hob with e | e; (exact Or.inl (e ▸ hk)); right; rw [e] at hk; injection hk with hk; have := HBA8.out.size; omega))
    clear ho hg hob u4 HA8 HO18 HBB8
    have wc : w2.cell? ⟨mb, 4, none⟩ = some o := (cell_of_row _ _ 4 _ _ _ HB2.out).trans (mc4 _ _ _ _ _ _ _ _)
    have wf : w2.frozen? ⟨mb, 4, none⟩ = false := frz_row HB2.out 4
    have HKK := hid (show ∀ k, k < U.heap.size → k ≠ mb → o.ownBlock ≠ some k → (w2.setCell ⟨mb, 4, none⟩ (Value.slice oa8 (s.os.length + 1) oc8)).heap[k]? = U.heap[k]? from fun k h1 h2 h3 => (set_oth HB2.out 4 (Value.slice oa8 (s.os.length + 1) oc8) h2).trans ((HG2.out.block k (Nat.lt_of_lt_of_le h1 HBA8.out.size) (fun e => h3 e.symm)).trans (HBA8.out.block k h1)))
    have HPE := hid (HM8.out.moreo (x := pos) (o' := (Value.slice oa8 (s.os.length + 1) oc8)) (by rw [heap_setCell_same _ _ _ _ _ _ HB2.out]; cases fl; simp [mc]) HKK.out (row_kept (show OwnI w2 B (Value.slice oa8 (s.os.length + 1) oc8) (s.os ++ [pos]) from (by unfold OwnI; rw [List.length_append, List.map_append]; exact HO2.out)) (fun k hk => set_oth HB2.out 4 (Value.slice oa8 (s.os.length + 1) oc8) (type_box HO2.out HB2.out (by decide) hk))) HOB.out)
    have HF9 := hid (show Fmm B U (w2.setCell ⟨mb, 4, none⟩ (Value.slice oa8 (s.os.length + 1) oc8)) from ⟨⟨HG2.out.os.trans HBA8.out.os, HG2.out.tape.trans HBA8.out.tape, HG2.out.output.trans HBA8.out.output, by simpa using Nat.le_trans HBA8.out.size HG2.out.size, fun k hk => HKK.out k (Nat.lt_of_lt_of_le hk HM8.out.size) (by have := HM8.out.mbB; omega) (fun e => by have := (row_at HM8.out.offs e).1; omega)⟩, fun k cs fr hk => HKK.out k (lt_blk hk) (fun e => by rw [e, HM8.out.box] at hk; injection hk with hk; injection hk with _ h5; exact absurd h5 (by decide)) (fun e => by obtain ⟨_, _, cur, h3⟩ := row_at HM8.out.offs e; rw [h3] at hk; injection hk with hk; injection hk with _ h5; exact absurd h5 (by decide))⟩)
    have HEND := hid HPE.out
    try rw [HBE.out] at HEND
    rw [HNP.out] at HEND
    go_wp2_with fail
    exact ⟨rfl, .tuple #[], by first | rfl | kernel_rfl, rfl, ⟨_, _, _, _, HEND.out⟩, HF7.out.trans (HF8.out.trans HF9.out)⟩
end Go.Proofs.YtcldglilhhhdoaaGreatDoor.L
