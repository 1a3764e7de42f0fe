import Derived.Test.YtcldglilhhhdoaaGreatDoorPfG
namespace Go.Proofs.YtcldglilhhhdoaaGreatDoor.L
open Go.RowKit
set_option linter.unusedVariables false
set_option linter.unusedSimpArgs false
/-- A row has been written over: only its block and new ones are others. -/
structure Wp (v : Value) (W W' : World) : Prop where
 os : W'.os = W.os
 tape : W'.tape = W.tape
 output : W'.output = W.output
 size : W.heap.size ≤ W'.heap.size
 block : ∀ k, k < W.heap.size → v.ownBlock ≠ some k → W'.heap[k]? = W.heap[k]?
theorem Wp.refl (v : Value) (W : World) : Wp v W W := ⟨rfl, rfl, rfl, Nat.le_refl _, fun _ _ _ => rfl⟩
theorem Wp.one {W W1 W2 : World} {g : Nat} {n c : Nat} (h : Wp (.slice (some ⟨g, 0, none⟩) n c) W W1) (k : W1.grownBy W2 (some g)) : Wp (.slice (some ⟨g, 0, none⟩) n c) W W2 :=
 ⟨k.os.trans h.os, k.tape.trans h.tape, k.output.trans h.output, Nat.le_trans h.size k.size, fun j hj hne => (k.block j (Nat.lt_of_lt_of_le hj h.size) (fun e => hne e.symm)).trans (h.block j hj hne)⟩
theorem Wp.grow {v gv : Value} {W W1 W2 W3 : World} (h : Wp v W W1) (hb : Below W1.heap.size W1 W2) (k : W2.grownBy W3 gv.ownBlock) (hg : gv.ownBlock = v.ownBlock ∨ ∃ k, gv.ownBlock = some k ∧ W.heap.size ≤ k) : Wp v W W3 :=
 ⟨k.os.trans (hb.os.trans h.os), k.tape.trans (hb.tape.trans h.tape), k.output.trans (hb.output.trans h.output), Nat.le_trans h.size (Nat.le_trans hb.size k.size), fun j hj hne => (k.block j (Nat.lt_of_lt_of_le (Nat.lt_of_lt_of_le hj h.size) hb.size) (fun e => by
  rcases hg with h1 | ⟨q, h1, h2⟩
  ·rw [h1] at e; exact hne e.symm
  ·rw [h1] at e; injection e with e; omega)).trans ((hb.block j (Nat.lt_of_lt_of_le hj h.size)).trans (h.block j hj hne))⟩
theorem set_rep {l : List Int} {n i : Nat} {m : Int} (h : i < n) (hn : n = l.length) : (List.replicate i m ++ l.drop i).set i m = List.replicate (i + 1) m ++ l.drop (i + 1) := by
 rw [List.set_append_right _ _ (by simp), List.length_replicate, Nat.sub_self, List.drop_eq_getElem_cons (by omega), List.set_cons_zero, List.replicate_succ', List.append_assoc]
 rfl
set_option maxHeartbeats 16000000 in
set_option maxRecDepth 100000 in
theorem wipe_any {W : World} {B : Nat} {v : Value} {l : List Int} (h : OwnI W B v l) (m : Int) (hl : l.length ≤ 100000) (hB : B ≤ W.heap.size) : Calls Tryz.prog 22 #[v, .int .i64 m] W fun e W' => e = .returned (.tuple #[]) ∧ OwnI W' B v (List.replicate l.length m) ∧ Wp v W W' := by
 obtain ⟨i3, hi3, hz03, hz13, hz23⟩ := info_parts info3
 obtain ⟨n, hn⟩ : ∃ n, n = l.length := ⟨_, rfl⟩
 have HNL := hid hn
 obtain ⟨va, vc, rfl⟩ := own_form h
 rw [← hn] at h hl ⊢
 have HO0 := hid h
 have HBB := hid hB
 have HLN := hid (show ∀ i, i ≤ n → (List.replicate i m ++ l.drop i).length = n from fun i hi => (by rw [List.length_append, List.length_replicate, List.length_drop]; omega))
 have hnm : n ≤ maxLen := by unfold maxLen; omega
 clear h hn hB
 go_enter Tryz.func22, Tryz.ntmps22
 go_wp2_with fail
 go_loopw [9] (fun p wr => ∃ i : Nat, i ≤ n ∧ p = .int .i64 i ∧ Hid (OwnI wr B (.slice va n vc) (List.replicate i m ++ l.drop i)) ∧ Hid (Wp (.slice va n vc) W wr)) (fun p _ => n - (intOf p).toNat)
 case atStart => exact ⟨0, Nat.zero_le _, rfl, hid HO0.out, hid (Wp.refl _ _)⟩
 case round =>
  obtain ⟨i, hin, rfl, HO, HW⟩ := hrel
  by_cases hlt : i < n
  ·obtain ⟨g, c2, hv, hgl, hgc⟩ := own_at HO.out (i := i) (by have h8 := HLN.out i; omega)
   rw [HLN.out i (by omega)] at hv
   injection hv with hva _ hvc
   subst hva hvc
   have c0 := hgc
   have f0 := (own_cell HO.out (HLN.out i (by omega)).symm i hlt).2
   have g0 : (0 : Int) ≤ (i : Int) := by omega
   have g1 : (i : Int) < (n : Int) := by omega
   go_wp2_with fail
   have HS := hid (own_set HO.out (HLN.out i (by omega)).symm i m)
   refine ⟨⟨i + 1, by omega, by go_num, hid (by have h8 := HS.out.1; rw [set_rep hlt HNL.out] at h8; exact h8), hid (HW.out.one HS.out.2)⟩, by simp [intOf]; omega⟩
  ·have hie : i = n := by omega
   subst hie
   have HV := hid (show OwnI wr B (.slice va i vc) (List.replicate i m) by have h8 := HO.out; rw [HNL.out, List.drop_length, List.append_nil, ← HNL.out] at h8; exact h8)
   go_wp2_with fail
   go_loopw [5, 6] (fun g p wr => ∃ (j : Nat) (xs : List Int) (gv : Value), j ≤ 80 ∧ xs.length = j ∧ gv = g ∧ p = .int .i64 j ∧ Hid (OwnI wr B gv (List.replicate i m ++ xs)) ∧ Hid (OwnI wr B (.slice va i vc) (List.replicate i m)) ∧ Hid (Wp (.slice va i vc) W wr) ∧ Hid (gv.ownBlock = (Value.slice va i vc).ownBlock ∨ ∃ k, gv.ownBlock = some k ∧ W.heap.size ≤ k)) (fun _ p _ => 80 - (intOf p).toNat)
   case atStart => exact ⟨0, [], _, by decide, rfl, rfl, rfl, hid (by rw [List.append_nil]; exact HV.out), HV, HW, hid (Or.inl rfl)⟩
   case round =>
    obtain ⟨j, xs, gv, hj, hxs, rfl, rfl, HG, HV, HW, HGB⟩ := hrel
    by_cases hlt : j < 80
    ·have g1 : (j : Int) < 80 := by omega
     have HB1 := hid (belowA wr (.cells #[.int .i64 m] 3))
     have HA := hid (show ∀ jj u, ([.int .i64 m] : List Value)[jj]? = some u → (wr.alloc (.cells #[.int .i64 m] 3)).cell? ((⟨wr.heap.size, 0, none⟩ : Addr).add jj) = some u from fun jj u hu => (by rw [Go.WideShapes.add_plain]; show (wr.alloc (.cells #[.int .i64 m] 3)).cell? ⟨wr.heap.size, 0 + jj, none⟩ = _; rw [Nat.zero_add, cell_of_row _ _ jj _ _ _ (heap_alloc_new wr (.cells #[.int .i64 m] 3)), List.getElem?_toArray]; exact hu))
     have HGL := hid (show (List.replicate i m ++ xs).length = i + j by rw [List.length_append, List.length_replicate, hxs])
     go_upto_region 9 with fail
     refine wp_region_lit ?_
     refine wpList_plain rfl fun K hK => ?_
     have HK := hid hK
     clear hK
     go_simp
     refine HK.out _ _ ?_
     clear HK
     try simp only [Act.put, List.setIfInBounds_toArray, List.set_cons_zero, List.set_cons_succ]
     refine wpList_plain rfl fun K hK => ?_
     have HK := hid hK
     clear hK
     go_simp
     refine HK.out _ _ ?_
     clear HK
     try simp only [Act.put, List.setIfInBounds_toArray, List.set_cons_zero, List.set_cons_succ]
     refine wpList_plain rfl fun K hK => ?_
     have HK := hid hK
     clear hK
     go_simp
     refine HK.out _ _ ?_
     clear HK
     try simp only [Act.put, List.setIfInBounds_toArray, List.set_cons_zero, List.set_cons_succ]
     refine Ap.wpList_append_stays _ rfl _ _ 26 rfl B 3 i3 (.int .i64 0) 1 8 Tryz.underlying26 hi3 hz03 hz13 hz23 rfl (by decide) gv (i + j) ((List.replicate i m ++ xs).map (Value.int .i64)) rfl (by have h9 := own_low HG.out HB1.out; unfold OwnI at h9; rw [HGL.out] at h9; exact h9) ⟨wr.heap.size, 0, none⟩ 1 1 [.int .i64 m] rfl rfl HA.out (fun u hu => (by simp only [List.mem_cons, List.not_mem_nil, or_false] at hu; subst hu; rfl)) (by unfold maxLen; omega) (by omega) (by have h7 := HBB.out; have h8 := HW.out.size; have h9 := HB1.out.size; omega) (by decide) ?_
     intro g2 w2 ho hg hst hgb
     have HG2 := hid (show OwnI w2 B g2 (List.replicate i m ++ (xs ++ [m])) by unfold OwnI; rw [← List.append_assoc, List.map_append, List.length_append, HGL.out]; exact ho)
     have HV2 := hid (show OwnI w2 B (.slice va i vc) (List.replicate i m) by have h9 := hst B (.slice va i vc) i ((List.replicate i m).map (Value.int .i64)) (by have h8 := own_low HV.out HB1.out; unfold OwnI at h8; rw [List.length_replicate] at h8; exact h8) (Or.inl (by omega)); unfold OwnI; rw [List.length_replicate]; exact h9)
     have HW2 := hid (HW.out.grow HB1.out hg HGB.out)
     have HGB2 := hid (show g2.ownBlock = (Value.slice va i vc).ownBlock ∨ ∃ k, g2.ownBlock = some k ∧ W.heap.size ≤ k from (by rcases hgb with h | h; (rw [h]; exact HGB.out); (exact Or.inr ⟨_, h, Nat.le_trans HW.out.size HB1.out.size⟩)))
     clear ho hg hst hgb HA
     try simp only [Act.put, List.setIfInBounds_toArray, List.set_cons_zero, List.set_cons_succ]
     refine wpList_plain rfl fun K hK => ?_
     have HK := hid hK
     clear hK
     go_simp
     refine HK.out _ _ ?_
     clear HK
     try simp only [Act.put, List.setIfInBounds_toArray, List.set_cons_zero, List.set_cons_succ]
     refine wpList_nil ?_
     go_wp2_with fail
     refine ⟨⟨j + 1, xs ++ [m], g2, by omega, by rw [List.length_append, hxs]; rfl, rfl, by go_num, hid HG2.out, hid HV2.out, hid HW2.out, hid HGB2.out⟩, by simp [intOf]; omega⟩
    ·have hje : j = 80 := by omega
     subst hje
     go_wp2_with fail
     exact ⟨rfl, .tuple #[], by first | rfl | kernel_rfl, rfl, HV.out, HW.out⟩
end Go.Proofs.YtcldglilhhhdoaaGreatDoor.L
namespace Go.Proofs.YtcldglilhhhdoaaGreatDoor.L
open Go.RowKit
set_option linter.unusedVariables false
set_option linter.unusedSimpArgs false
theorem row_there {W : World} {B : Nat} {va : Option Addr} {n vc i : Nat} {xs : List Value} (h : W.ownsRow B 46 4 (.slice va n vc) n xs) (hi : i < n) : ∃ g, va = some ⟨g, 0, none⟩ ∧ g < W.heap.size ∧ W.there g (i * 4) 4 := by
 rcases h.2 with ⟨_, n0⟩ | ⟨g, cap, cur, e, hb, hg, h3, h4, h5, h6⟩
 ·omega
 ·injection e with e1 _ e3
  refine ⟨g, e1, lt_blk hg, fun j hj => ⟨?_, frozen_of_row W g _ _ _ hg⟩⟩
  rw [cell_of_row _ _ _ _ _ _ hg, Array.getElem?_eq_getElem (by omega)]
  rfl
theorem setCells_keep {b : Nat} {t : TypeId} : ∀ (vs : List Value) (i : Nat) (w : World) (cur : Array Value), w.heap[b]? = some (.cells cur t (0, 0)) → ∃ cur', cur'.size = cur.size ∧ (w.setCells b i vs).heap[b]? = some (.cells cur' t (0, 0))
 | [], i, w, cur, h => ⟨cur, rfl, h⟩
 | v :: r, i, w, cur, h => by
  have h2 := heap_setCell_same w b i cur t v h
  obtain ⟨cur', h3, h4⟩ := setCells_keep r (i + 1) _ _ h2
  exact ⟨cur', h3.trans (by simp), h4⟩
theorem row_mid {W : World} {B g : Nat} {n vc i : Nat} {xs : List Value} (h : W.ownsRow B 46 4 (.slice (some ⟨g, 0, none⟩) n vc) n xs) (hi : i < n) (vs : List Value) : ∃ ys, (W.setCells g (i * 4) vs).ownsRow B 46 4 (.slice (some ⟨g, 0, none⟩) n vc) n ys := by
 rcases h.2 with ⟨_, n0⟩ | ⟨g', cap, cur, e, hb, hg, h3, h4, h5, h6⟩
 ·omega
 ·injection e with e1 _ e3
  injection e1 with e1
  injection e1 with e1 _ _
  subst e1 e3
  obtain ⟨cur', hs, hc⟩ := setCells_keep vs (i * 4) W cur hg
  refine ⟨cur'.toList.take (n * 4), ?_, Or.inr ⟨g, _, cur', rfl, hb, hc, h3, h4, hs.trans h5, rfl⟩⟩
  rw [List.length_take, Array.length_toList, hs, h5]
  omega
theorem Wp.cells {W W1 W2 : World} {g n c : Nat} (h : Wp (.slice (some ⟨g, 0, none⟩) n c) W W1) (k : W2.os = W1.os ∧ W2.tape = W1.tape ∧ W2.output = W1.output ∧ W2.heap.size = W1.heap.size ∧ ∀ k, k ≠ g → W2.heap[k]? = W1.heap[k]?) : Wp (.slice (some ⟨g, 0, none⟩) n c) W W2 :=
 ⟨k.1.trans h.os, k.2.1.trans h.tape, k.2.2.1.trans h.output, Nat.le_trans h.size (Nat.le_of_eq k.2.2.2.1.symm), fun j hj hne => (k.2.2.2.2 j (fun e => hne (by rw [e]; rfl))).trans (h.block j hj hne)⟩
theorem Wp.low {v : Value} {W W1 W2 : World} (h : Wp v W1 W2) (k : Below W.heap.size W W1) : Wp v W W2 :=
 ⟨h.os.trans k.os, h.tape.trans k.tape, h.output.trans k.output, Nat.le_trans k.size h.size, fun j hj hne => (h.block j (Nat.lt_of_lt_of_le hj k.size) hne).trans (k.block j hj)⟩
set_option maxHeartbeats 16000000 in
set_option maxRecDepth 100000 in
theorem wipep_any {W : World} {B : Nat} {v : Value} {n : Nat} {ys : List Value} (h : W.ownsRow B 46 4 v n ys) (kd nu : Int) (tx : ByteArray) (hl : n ≤ 100000) (hB : B ≤ W.heap.size) : Calls Tryz.prog 23 #[v, .agg #[.int .i64 kd, .string tx, .int .i64 nu, .slice none 0 0]] W fun e W' => e = .returned (.tuple #[]) ∧ Wp v W W' := by
 obtain ⟨i4, hi, hz0, hz1, hz2⟩ := info_parts infoP
 obtain ⟨va, vc, rfl⟩ := own_len h
 have HB0 := hid (belowA W (.cells #[.int .i64 kd, .string tx, .int .i64 nu, .slice none 0 0] 46))
 have HX0 := hid (heap_alloc_new W (.cells #[.int .i64 kd, .string tx, .int .i64 nu, .slice none 0 0] 46))
 have HO0 := hid (row_kept h (fun k hk => HB0.out.block k (row_at h hk).2.1))
 have HBB := hid (show B ≤ W.heap.size + 1 by omega)
 have HBN := hid (show (Value.slice va n vc).ownBlock ≠ some W.heap.size from fun e => (by have := (row_at h e).2.1; omega))
 have hnm : n ≤ maxLen := by unfold maxLen; omega
 have HSZ := hid (show (W.alloc (.cells #[.int .i64 kd, .string tx, .int .i64 nu, .slice none 0 0] 46)).heap.size = W.heap.size + 1 by simp)
 clear h hB
 go_enter Tryz.func23, Tryz.ntmps23
 go_upto_region 1 with fail
 generalize W.alloc (.cells #[.int .i64 kd, .string tx, .int .i64 nu, .slice none 0 0] 46) = X at *
 obtain ⟨bp, hbp⟩ : ∃ b, b = W.heap.size := ⟨_, rfl⟩
 rw [← hbp]
 rw [← hbp] at HX0 HBN HSZ HBB
 have HBP := hid hbp
 clear hbp
 have HBK := hid (show ¬ (X.heap.size ≤ bp) by have := HSZ.out; omega)
 go_wp2_with fail
 go_loopw [9] (fun p wr => ∃ (i : Nat) (ys : List Value), i ≤ n ∧ p = .int .i64 i ∧ Hid (wr.ownsRow B 46 4 (.slice va n vc) n ys) ∧ Hid (Wp (.slice va n vc) X wr) ∧ Hid (wr.heap[bp]? = some (.cells #[.int .i64 kd, .string tx, .int .i64 nu, .slice none 0 0] 46 (0, 0)))) (fun p _ => n - (intOf p).toNat)
 case atStart => exact ⟨0, _, Nat.zero_le _, rfl, HO0, hid (Wp.refl _ _), HX0⟩
 case round =>
  obtain ⟨i, ys, hin, rfl, HO, HW, HX⟩ := hrel
  by_cases hlt : i < n
  ·obtain ⟨g, hva, hgl, hth⟩ := row_there HO.out hlt
   subst hva
   have g0 : (0 : Int) ≤ (i : Int) := by omega
   have g1 : (i : Int) < (n : Int) := by omega
   have ⟨x0, x1, x2, x3⟩ := cells4 HX.out
   go_upto_region 4 with fail
   refine wp_region_lit ?_
   refine wpList_plain rfl fun K hK => ?_
   have HK := hid hK
   clear hK
   go_simp
   refine HK.out _ _ ?_
   clear HK
   try simp only [Act.put, List.setIfInBounds_toArray, List.set_cons_zero, List.set_cons_succ]
   refine wpList_plain rfl fun K hK => ?_
   have HK := hid hK
   clear hK
   go_simp
   refine HK.out _ _ ?_
   clear HK
   try simp only [Act.put, List.setIfInBounds_toArray, List.set_cons_zero, List.set_cons_succ]
   refine wpList_plain rfl fun K hK => ?_
   have HK := hid hK
   clear hK
   go_simp
   refine HK.out _ _ ?_
   clear HK
   try simp only [Act.put, List.setIfInBounds_toArray, List.set_cons_zero, List.set_cons_succ]
   refine wpList_plain rfl fun K hK => ?_
   have HK := hid hK
   clear hK
   go_simp
   refine HK.out _ _ ?_
   clear HK
   try simp only [Act.put, List.setIfInBounds_toArray, List.set_cons_zero, List.set_cons_succ]
   refine wpList_store_mid rfl 46 _ _ rfl g (i * 4) #[.int .i64 kd, .string tx, .int .i64 nu, .slice none 0 0] rfl rfl hth infoP4 (by kernel_rfl) ?_
   try simp only [Act.put, List.setIfInBounds_toArray, List.set_cons_zero, List.set_cons_succ]
   refine wpList_nil ?_
   obtain ⟨zs, hzs⟩ := row_mid HO.out hlt ([.int .i64 kd, .string tx, .int .i64 nu, .slice none 0 0] : List Value)
   have HS := hid hzs
   clear hzs
   have HSC := hid (setCells_oth (b := g) [.int .i64 kd, .string tx, .int .i64 nu, .slice none 0 0] (i * 4) wr)
   have HXS := hid ((HSC.out.2.2.2.2 bp (fun e => HBN.out (by rw [e]; rfl))).trans HX.out)
   have HWS := hid (HW.out.cells HSC.out)
   go_wp2_with fail
   refine ⟨⟨i + 1, _, by omega, by go_num, hid HS.out, hid HWS.out, hid HXS.out⟩, by simp [intOf]; omega⟩
  ·have hie : i = n := by omega
   subst hie
   go_wp2_with fail
   go_loopw [5, 6] (fun g p wr => ∃ (j : Nat) (xs : List Value) (gv : Value), j ≤ 80 ∧ gv = g ∧ p = .int .i64 j ∧ Hid (wr.ownsRow B 46 4 gv (i + j) xs) ∧ Hid (Wp (.slice va i vc) X wr) ∧ Hid (gv.ownBlock = (Value.slice va i vc).ownBlock ∨ ∃ k, gv.ownBlock = some k ∧ X.heap.size ≤ k) ∧ Hid (wr.heap[bp]? = some (.cells #[.int .i64 kd, .string tx, .int .i64 nu, .slice none 0 0] 46 (0, 0)))) (fun _ p _ => 80 - (intOf p).toNat)
   case atStart => exact ⟨0, _, _, by decide, rfl, rfl, HO, HW, hid (Or.inl rfl), HX⟩
   case round =>
    obtain ⟨j, xs, gv, hj, rfl, rfl, HG, HW, HGB, HX⟩ := hrel
    by_cases hlt : j < 80
    ·have g1 : (j : Int) < 80 := by omega
     have HB1 := hid (belowA wr (.cells #[.int .i64 kd, .string tx, .int .i64 nu, .slice none 0 0] 46))
     have HA := hid (show ∀ jj u, ([.int .i64 kd, .string tx, .int .i64 nu, .slice none 0 0] : List Value)[jj]? = some u → (wr.alloc (.cells #[.int .i64 kd, .string tx, .int .i64 nu, .slice none 0 0] 46)).cell? ((⟨wr.heap.size, 0, none⟩ : Addr).add jj) = some u from fun jj u hu => (by rw [Go.WideShapes.add_plain]; show (wr.alloc (.cells #[.int .i64 kd, .string tx, .int .i64 nu, .slice none 0 0] 46)).cell? ⟨wr.heap.size, 0 + jj, none⟩ = _; rw [Nat.zero_add, cell_of_row _ _ jj _ _ _ (heap_alloc_new wr (.cells #[.int .i64 kd, .string tx, .int .i64 nu, .slice none 0 0] 46)), List.getElem?_toArray]; exact hu))
     have ⟨x0, x1, x2, x3⟩ := cells4 HX.out
     go_upto_region 10 with fail
     refine wp_region_lit ?_
     refine wpList_plain rfl fun K hK => ?_
     have HK := hid hK
     clear hK
     go_simp
     refine HK.out _ _ ?_
     clear HK
     try simp only [Act.put, List.setIfInBounds_toArray, List.set_cons_zero, List.set_cons_succ]
     refine wpList_plain rfl fun K hK => ?_
     have HK := hid hK
     clear hK
     go_simp
     refine HK.out _ _ ?_
     clear HK
     try simp only [Act.put, List.setIfInBounds_toArray, List.set_cons_zero, List.set_cons_succ]
     refine wpList_plain rfl fun K hK => ?_
     have HK := hid hK
     clear hK
     go_simp
     refine HK.out _ _ ?_
     clear HK
     try simp only [Act.put, List.setIfInBounds_toArray, List.set_cons_zero, List.set_cons_succ]
     refine Ap.wpList_append_stays _ rfl _ _ 23 rfl B 46 i4 (.agg #[.int .i64 0, .string ByteArray.empty, .int .i64 0, .slice none 0 0]) 4 56 Tryz.underlying23 hi hz0 hz1 hz2 rfl (by decide) gv (i + j) xs rfl (row_kept HG.out (fun k hk => HB1.out.block k (row_at HG.out hk).2.1)) ⟨wr.heap.size, 0, none⟩ 1 1 [.int .i64 kd, .string tx, .int .i64 nu, .slice none 0 0] rfl rfl HA.out (fun u hu => four_one hu) (by unfold maxLen; omega) (by omega) (by have h7 := (show B ≤ X.heap.size by have h6 := HBB.out; have h5 := HSZ.out; omega); have h8 := HW.out.size; have h9 := HB1.out.size; omega) (by decide) ?_
     intro g2 w2 ho hg hst hgb
     have HG2 := hid ho
     have HW2 := hid (HW.out.grow HB1.out hg HGB.out)
     have HX2 := hid ((hg.block bp (Nat.lt_of_lt_of_le (lt_blk HX.out) HB1.out.size) (fun e => by rcases HGB.out with h | ⟨k, h, hk⟩; (exact HBN.out (h.symm.trans e.symm)); (rw [h] at e; injection e with e; exact HBK.out (by omega)))).trans ((HB1.out.block bp (lt_blk HX.out)).trans HX.out))
     have HGB2 := hid (show g2.ownBlock = (Value.slice va i vc).ownBlock ∨ ∃ k, g2.ownBlock = some k ∧ X.heap.size ≤ k from (by rcases hgb with h | h; (rw [h]; exact HGB.out); (exact Or.inr ⟨_, h, Nat.le_trans HW.out.size HB1.out.size⟩)))
     clear ho hg hst hgb HA
     try simp only [Act.put, List.setIfInBounds_toArray, List.set_cons_zero, List.set_cons_succ]
     refine wpList_plain rfl fun K hK => ?_
     have HK := hid hK
     clear hK
     go_simp
     refine HK.out _ _ ?_
     clear HK
     try simp only [Act.put, List.setIfInBounds_toArray, List.set_cons_zero, List.set_cons_succ]
     refine wpList_nil ?_
     go_wp2_with fail
     refine ⟨⟨j + 1, _, g2, by omega, rfl, by go_num, hid HG2.out, hid HW2.out, hid HGB2.out, hid HX2.out⟩, by simp [intOf]; omega⟩
    ·have hje : j = 80 := by omega
     subst hje
     go_wp2_with fail
     exact ⟨rfl, .tuple #[], by first | rfl | kernel_rfl, rfl, HW.out.low HB0.out⟩
end Go.Proofs.YtcldglilhhhdoaaGreatDoor.L
namespace Go.Proofs.YtcldglilhhhdoaaGreatDoor.L
open Go.RowKit
set_option linter.unusedVariables false
set_option linter.unusedSimpArgs false
set_option maxHeartbeats 16000000 in
set_option maxRecDepth 100000 in
theorem mleaf_any {mb B : Nat} {tv : Value} {T : List Tok} {W : World} {s : PS} {ws : List Wn} {fr : List Int} {fl : Array Value} {wv v o f : Value} {ks : Nat → Value} (h : MM mb B tv T W s ws fr fl wv v o f ks) (kd nu pos : Int) (tx : ByteArray) (hf1 : fr.length ≤ 100000) (hp1 : s.ps.length ≤ 100000) (ho1 : s.os.length ≤ 100000) : Calls Tryz.prog 58 #[.pointer (some ⟨mb, 0, none⟩), .agg #[.int .i64 kd, .string tx, .int .i64 nu, .slice none 0 0], .int .i64 pos] W fun e W' => e = .returned (.tuple #[]) ∧ (∃ v' o' f' ks', MM mb B tv T W' { s with ps := s.ps ++ [⟨kd, tx, nu, []⟩], os := s.os ++ [pos] } ws (fr ++ [(s.ps.length : Int)]) fl wv v' o' f' ks') ∧ Fmm B W W' := by
 obtain ⟨N, hN⟩ : ∃ N, N = fr.length := ⟨_, rfl⟩
 have HNN := hid hN
 rw [← hN] at hf1
 obtain ⟨fa, fc, hf⟩ := own_form h.free
 rw [← hN] at hf
 have HFE := hid hf
 have HB0 := hid (belowA W (.cells #[.int .i64 kd, .string tx, .int .i64 nu, .slice none 0 0] 46))
 have HX0 := hid (heap_alloc_new W (.cells #[.int .i64 kd, .string tx, .int .i64 nu, .slice none 0 0] 46))
 have HP := hid (h.low HB0.out)
 have HF0 := hid (Fmm.of HB0.out h.size)
 have hNm : N ≤ maxLen := by unfold maxLen; omega
 clear h hN hf
 go_enter Tryz.func58, Tryz.ntmps58
 go_upto_region 1 with (fail)
 generalize W.alloc (.cells #[.int .i64 kd, .string tx, .int .i64 nu, .slice none 0 0] 46) = X at *
 generalize W.heap.size = bp at *
 have HF0 := hid (HF0.out.trans (Fmm.of (show Below X.heap.size X X.drew from (Below.refl _ _).drew) HP.out.size))
 have HMZ := hid (HP.out.low (show Below X.heap.size X X.drew from (Below.refl _ _).drew))
 have HXZ := hid (show X.drew.heap[bp]? = _ from HX0.out)
 refine wp_region_held_drew (S := (fun _ => True)) (by kernel_rfl) trivial (fun hHeld => ?_)
 generalize X.drew = Z0 at *
 refine wpAnyH_take (i := 0) (v := ?_) rfl (by kernel_rfl) (by kernel_rfl) (by kernel_rfl) (fun _ _ _ h => h) (Or.inl ⟨by rfl, ?_⟩) (by assumption) ?_
 rotate_left
 ·(intro w hSw; (try dsimp only at hSw); go_simp; try with_reducible rfl)
 try simp only [Act.put, List.setIfInBounds_toArray, List.set_cons_zero, List.set_cons_succ]
 refine wpAnyH_take (i := 2) (v := ?_) rfl (by kernel_rfl) (by kernel_rfl) (by kernel_rfl) (fun _ _ _ h => h) (Or.inl ⟨by rfl, ?_⟩) (by assumption) ?_
 rotate_left
 ·(intro w hSw; (try dsimp only at hSw); go_simp; try with_reducible rfl)
 try simp only [Act.put, List.setIfInBounds_toArray, List.set_cons_zero, List.set_cons_succ]
 refine wpAnyH_take (i := 3) (v := ?_) rfl (by kernel_rfl) (by kernel_rfl) (by kernel_rfl) (fun _ _ _ h => h) (Or.inl ⟨by rfl, ?_⟩) (by assumption) ?_
 rotate_left
 ·(intro w hSw; (try dsimp only at hSw); go_simp; try with_reducible rfl)
 try simp only [Act.put, List.setIfInBounds_toArray, List.set_cons_zero, List.set_cons_succ]
 refine wpAnyH_take (i := 4) (v := ?_) rfl (by kernel_rfl) (by kernel_rfl) (by kernel_rfl) (fun _ _ _ h => h) (Or.inl ⟨by rfl, ?_⟩) (by assumption) ?_
 rotate_left
 ·(intro w hSw; (try dsimp only at hSw); go_simp; try with_reducible rfl)
 try simp only [Act.put, List.setIfInBounds_toArray, List.set_cons_zero, List.set_cons_succ]
 refine wpAnyH_take (i := 5) (v := ?_) rfl (by kernel_rfl) (by kernel_rfl) (by kernel_rfl) (fun _ _ _ h => h) (Or.inl ⟨by rfl, ?_⟩) (by assumption) ?_
 rotate_left
 ·(intro w hSw; (try dsimp only at hSw); go_simp; try with_reducible rfl)
 try simp only [Act.put, List.setIfInBounds_toArray, List.set_cons_zero, List.set_cons_succ]
 refine wpAnyH_ready (rs := [1, 6]) (by kernel_rfl) (by simp) ?_
 refine AllReadyH.cons rfl (fun K hK => ?_) ?_
 ·have ⟨x0, x1, x2, x3⟩ := cells4 HXZ.out
  go_simp
  clear x0 x1 x2 x3
  refine hK.out _ _ trivial (fun hHeld => ?_)
  clear hK K hHeld
  try simp only [Act.put, List.setIfInBounds_toArray, List.set_cons_zero, List.set_cons_succ]
  have hHeld := trivial
  refine wpAnyH_ready (rs := [6]) (by kernel_rfl) (by simp) ?_
  refine AllReadyH.cons rfl (fun K hK => ?_) AllReadyH.nil
  have c5 : Z0.cell? ⟨mb, 5, none⟩ = some (.slice fa N fc) := (HMZ.out.cell 5 (by decide)).trans (by rw [HFE.out]; rfl)
  go_simp
  clear c5
  refine hK.out _ _ trivial (fun hHeld => ?_)
  clear hK K hHeld
  try simp only [Act.put, List.setIfInBounds_toArray, List.set_cons_zero, List.set_cons_succ]
  have hHeld := trivial
  refine wpAnyH_take (i := 7) (v := ?_) rfl (by kernel_rfl) (by kernel_rfl) (by kernel_rfl) (fun _ _ _ h => h) (Or.inl ⟨by rfl, ?_⟩) (by assumption) ?_
  rotate_left
  ·(intro w hSw; (try dsimp only at hSw); go_simp; try with_reducible rfl)
  try simp only [Act.put, List.setIfInBounds_toArray, List.set_cons_zero, List.set_cons_succ]
  refine wpAnyH_ready (rs := [8]) (by kernel_rfl) (by simp) ?_
  refine AllReadyH.cons rfl (fun K hK => ?_) AllReadyH.nil
  go_simp
  refine (mlay_any HMZ.out kd nu pos tx N (by rw [HNN.out]; exact Nat.le_refl _) (by rw [← HNN.out]; exact hf1) hp1 ho1).mono ?_
  rintro e Y ⟨rfl, h2, h3⟩
  have HE := hid h2
  have HF := hid (HF0.out.trans h3)
  clear h2 h3
  refine hK.out _ _ trivial (fun hHeld => ?_)
  clear hK K hHeld
  try simp only [Act.put, List.setIfInBounds_toArray, List.set_cons_zero, List.set_cons_succ]
  refine wpAnyH_done (by kernel_rfl) ?_ _
  rw [HNN.out, List.drop_length, List.take_length] at HE
  go_wp2_with fail
  exact ⟨rfl, .tuple #[], by first | rfl | kernel_rfl, rfl, HE.out, HF.out⟩
 refine AllReadyH.cons rfl (fun K hK => ?_) AllReadyH.nil
 have c5 : Z0.cell? ⟨mb, 5, none⟩ = some (.slice fa N fc) := (HMZ.out.cell 5 (by decide)).trans (by rw [HFE.out]; rfl)
 go_simp
 clear c5
 refine hK.out _ _ trivial (fun hHeld => ?_)
 clear hK K hHeld
 try simp only [Act.put, List.setIfInBounds_toArray, List.set_cons_zero, List.set_cons_succ]
 have hHeld := trivial
 refine wpAnyH_take (i := 7) (v := ?_) rfl (by kernel_rfl) (by kernel_rfl) (by kernel_rfl) (fun _ _ _ h => h) (Or.inl ⟨by rfl, ?_⟩) (by assumption) ?_
 rotate_left
 ·(intro w hSw; (try dsimp only at hSw); go_simp; try with_reducible rfl)
 try simp only [Act.put, List.setIfInBounds_toArray, List.set_cons_zero, List.set_cons_succ]
 refine wpAnyH_ready (rs := [1]) (by kernel_rfl) (by simp) ?_
 refine AllReadyH.cons rfl (fun K hK => ?_) AllReadyH.nil
 have ⟨x0, x1, x2, x3⟩ := cells4 HXZ.out
 go_simp
 clear x0 x1 x2 x3
 refine hK.out _ _ trivial (fun hHeld => ?_)
 clear hK K hHeld
 try simp only [Act.put, List.setIfInBounds_toArray, List.set_cons_zero, List.set_cons_succ]
 have hHeld := trivial
 refine wpAnyH_ready (rs := [8]) (by kernel_rfl) (by simp) ?_
 refine AllReadyH.cons rfl (fun K hK => ?_) AllReadyH.nil
 go_simp
 refine (mlay_any HMZ.out kd nu pos tx N (by rw [HNN.out]; exact Nat.le_refl _) (by rw [← HNN.out]; exact hf1) hp1 ho1).mono ?_
 rintro e Y ⟨rfl, h2, h3⟩
 have HE := hid h2
 have HF := hid (HF0.out.trans h3)
 clear h2 h3
 refine hK.out _ _ trivial (fun hHeld => ?_)
 clear hK K hHeld
 try simp only [Act.put, List.setIfInBounds_toArray, List.set_cons_zero, List.set_cons_succ]
 refine wpAnyH_done (by kernel_rfl) ?_ _
 rw [HNN.out, List.drop_length, List.take_length] at HE
 go_wp2_with fail
 exact ⟨rfl, .tuple #[], by first | rfl | kernel_rfl, rfl, HE.out, HF.out⟩
end Go.Proofs.YtcldglilhhhdoaaGreatDoor.L
