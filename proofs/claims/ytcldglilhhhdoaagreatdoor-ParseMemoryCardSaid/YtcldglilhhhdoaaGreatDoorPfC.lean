import Derived.Test.YtcldglilhhhdoaaGreatDoorMgAQ
import Derived.Test.YtcldglilhhhdoaaGreatDoorMgAL
namespace Go.Proofs.YtcldglilhhhdoaaGreatDoor.L
open Go.RowKit
set_option linter.unusedVariables false
set_option linter.unusedSimpArgs false
/-- The machine's cells. -/
def mc (tv : Value) (nx : Nat) (wv v o f : Value) (ns : Nat) (fl : Array Value) : Array Value := #[tv, .int .i64 (nx : Int), wv, v, o, f, .int .i64 (ns : Int)] ++ fl
def cellsW (l : List Wn) : List Value := l.flatMap fun w => [.int .i64 w.w, .int .i64 w.kd, .int .i64 w.pos, .string w.text, .int .i64 w.num, .int .i64 (w.base : Int)]
/-- The document's machine in memory: what is awaited next lies last. -/
structure MM (mb B : Nat) (tv : Value) (T : List Tok) (W : World) (s : PS) (ws : List Wn) (fr : List Int) (fl : Array Value) (wv v o f : Value) (ks : Nat → Value) : Prop where
 box : W.heap[mb]? = some (.cells (mc tv s.nx wv v o f s.ns fl) 71 (0, 0))
 fl19 : fl.size = 19
 tok : OwnT W B tv T
 wants : W.ownsRow B 74 6 wv ws.length (cellsW ws.reverse)
 parts : OwnP W B v s.ps ks s.ps.length
 offs : OwnI W B o s.os
 free : OwnI W B f fr
 mbB : B ≤ mb
 nx : s.nx < T.length
 ns : s.ns ≤ 32
 tl : T.length ≤ 4097
 fin : ∀ k, k < T.length → (tk T k).kind ≠ 0 → k + 1 < T.length
 ko : ∀ j, j < s.ps.length → ∀ k, (ks j).ownBlock = some k → o.ownBlock ≠ some k
 kf : ∀ j, j < s.ps.length → ∀ k, (ks j).ownBlock = some k → f.ownBlock ≠ some k
 of : ∀ k, o.ownBlock = some k → f.ownBlock ≠ some k
theorem MM.low {mb B : Nat} {tv : Value} {T : List Tok} {W : World} {s : PS} {ws : List Wn} {fr : List Int} {fl : Array Value} {wv v o f : Value} {ks : Nat → Value} {W' : World} (h : MM mb B tv T W s ws fr fl wv v o f ks) (hb : Below W.heap.size W W') : MM mb B tv T W' s ws fr fl wv v o f ks :=
 ⟨(hb.block _ (lt_blk h.box)).trans h.box, h.fl19, row_kept h.tok (fun k hk => hb.block k (row_at h.tok hk).2.1), row_kept h.wants (fun k hk => hb.block k (row_at h.wants hk).2.1), ⟨row_kept h.parts.row (fun k hk => hb.block k (row_at h.parts.row hk).2.1), fun j hj => row_kept (h.parts.kids j hj) (fun k hk => hb.block k (row_at (h.parts.kids j hj) hk).2.1)⟩, row_kept h.offs (fun k hk => hb.block k (row_at h.offs hk).2.1), row_kept h.free (fun k hk => hb.block k (row_at h.free hk).2.1), h.mbB, h.nx, h.ns, h.tl, h.fin, h.ko, h.kf, h.of⟩
theorem MM.cell {mb B : Nat} {tv : Value} {T : List Tok} {W : World} {s : PS} {ws : List Wn} {fr : List Int} {fl : Array Value} {wv v o f : Value} {ks : Nat → Value} (h : MM mb B tv T W s ws fr fl wv v o f ks) (i : Nat) (hi : i < 7) : W.cell? ⟨mb, i, none⟩ = ([tv, .int .i64 (s.nx : Int), wv, v, o, f, .int .i64 (s.ns : Int)] : List Value)[i]? := by
 rw [cell_of_row _ _ i _ _ _ h.box]
 unfold mc
 rw [Array.getElem?_append_left (by simpa using hi)]
 simp
theorem MM.tokc {mb B : Nat} {tv : Value} {T : List Tok} {W : World} {s : PS} {ws : List Wn} {fr : List Int} {fl : Array Value} {wv v o f : Value} {ks : Nat → Value} (h : MM mb B tv T W s ws fr fl wv v o f ks) : ∃ g cap, tv = .slice (some ⟨g, 0, none⟩) T.length cap ∧ g < W.heap.size ∧ ∀ j r, j < T.length → r < 5 → W.cell? ⟨g, j * 5 + r, none⟩ = ([.int .i64 ((tk T j).kind : Int), .string (tk T j).text, .int .i64 (tk T j).num, .int .i64 ((tk T j).a : Int), .int .i64 ((tk T j).e : Int)] : List Value)[r]? := by
 rcases h.tok.2 with ⟨_, n0⟩ | ⟨g, cap, cur, rfl, hb, hg, h3, h4, h5, h6⟩
 ·have := h.nx; omega
 ·refine ⟨g, cap, rfl, lt_blk hg, fun j r hj hr => ?_⟩
  rw [cell_of_row W g _ _ _ _ hg, ← cellsT_get T j r hr hj, ← h6, List.getElem?_take_of_lt (by omega), Array.getElem?_toList]
theorem tk5 {V : World} {b : Nat} {t : Tok} (h : V.heap[b]? = some (.cells #[.int .i64 (t.kind : Int), .string t.text, .int .i64 t.num, .int .i64 (t.a : Int), .int .i64 (t.e : Int)] 53 (0, 0))) : V.cell? ⟨b, 0, none⟩ = some (.int .i64 (t.kind : Int)) ∧ V.cell? ⟨b, 1, none⟩ = some (.string t.text) ∧ V.cell? ⟨b, 2, none⟩ = some (.int .i64 t.num) ∧ V.cell? ⟨b, 3, none⟩ = some (.int .i64 (t.a : Int)) ∧ V.cell? ⟨b, 4, none⟩ = some (.int .i64 (t.e : Int)) :=
 ⟨cell_of_row _ _ 0 _ _ _ h, cell_of_row _ _ 1 _ _ _ h, cell_of_row _ _ 2 _ _ _ h, cell_of_row _ _ 3 _ _ _ h, cell_of_row _ _ 4 _ _ _ h⟩
set_option maxHeartbeats 4000000 in
set_option maxRecDepth 100000 in
theorem mmark_any {mb B : Nat} {tv : Value} {T : List Tok} {W : World} {s : PS} {ws : List Wn} {fr : List Int} {fl : Array Value} {wv v o f : Value} {ks : Nat → Value} (h : MM mb B tv T W s ws fr fl wv v o f ks) (m : ByteArray) : Calls Tryz.prog 56 #[.pointer (some ⟨mb, 0, none⟩), .string m] W fun e W' => e = .returned (.bool (decide ((tk T s.nx).kind = 4) && decide ((tk T s.nx).text.toList = m.toList))) ∧ Below W.heap.size W W' := by
 obtain ⟨g, cap, rfl, hgl, hc⟩ := h.tokc
 have hnx := h.nx
 have htl := h.tl
 have HP := hid h
 have HC := hid (fun r (hr : r < 5) => hc s.nx r hnx hr)
 have HGL := hid hgl
 have HC0 := hid (h.cell 0 (by decide))
 have HC1 := hid (h.cell 1 (by decide))
 have HML := hid (lt_blk h.box)
 clear hc h hgl
 obtain ⟨t, ht⟩ : ∃ t, t = tk T s.nx := ⟨_, rfl⟩
 have HT := hid ht
 rw [← ht] at HC
 obtain ⟨L, hL⟩ : ∃ L, L = T.length := ⟨_, rfl⟩
 have HLT := hid hL
 rw [← hL] at HC0 hnx htl
 obtain ⟨n, hn⟩ : ∃ n, n = s.nx := ⟨_, rfl⟩
 have HN := hid hn
 rw [← hn] at HC HC1 hnx
 clear hL hn
 have g1 : (n : Int) < (L : Int) := by omega
 have g0 : (0 : Int) ≤ (n : Int) := by omega
 have MS := hid (show ∀ Y, Below W.heap.size W Y → (fun Y => (Y.cell? ⟨mb, 0, none⟩ = some (.slice (some ⟨g, 0, none⟩) L cap) ∧ Y.cell? ⟨mb, 1, none⟩ = some (.int .i64 (n : Int))) ∧ Y.cell? ⟨g, n * 5, none⟩ = some (.int .i64 (t.kind : Int)) ∧ Y.cell? ⟨g, n * 5 + 1, none⟩ = some (.string t.text) ∧ Y.cell? ⟨g, n * 5 + 2, none⟩ = some (.int .i64 t.num) ∧ Y.cell? ⟨g, n * 5 + 3, none⟩ = some (.int .i64 (t.a : Int)) ∧ Y.cell? ⟨g, n * 5 + 4, none⟩ = some (.int .i64 (t.e : Int))) Y from fun Y hb => ⟨⟨(hb.cell (p := ⟨mb, 0, none⟩) HML.out).trans HC0.out, (hb.cell (p := ⟨mb, 1, none⟩) HML.out).trans HC1.out⟩, (hb.cell (p := ⟨g, n * 5, none⟩) HGL.out).trans (HC.out 0 (by decide)), (hb.cell (p := ⟨g, n * 5 + 1, none⟩) HGL.out).trans (HC.out 1 (by decide)), (hb.cell (p := ⟨g, n * 5 + 2, none⟩) HGL.out).trans (HC.out 2 (by decide)), (hb.cell (p := ⟨g, n * 5 + 3, none⟩) HGL.out).trans (HC.out 3 (by decide)), (hb.cell (p := ⟨g, n * 5 + 4, none⟩) HGL.out).trans (HC.out 4 (by decide))⟩)
 clear ht
 go_enter Tryz.func56, Tryz.ntmps56
 go_upto_region 1 with fail
 have HD := hid (show Below W.heap.size W W.drew from (Below.refl _ W).drew)
 refine wp_region_held_drew (S := (fun Y => (Y.cell? ⟨mb, 0, none⟩ = some (.slice (some ⟨g, 0, none⟩) L cap) ∧ Y.cell? ⟨mb, 1, none⟩ = some (.int .i64 (n : Int))) ∧ Y.cell? ⟨g, n * 5, none⟩ = some (.int .i64 (t.kind : Int)) ∧ Y.cell? ⟨g, n * 5 + 1, none⟩ = some (.string t.text) ∧ Y.cell? ⟨g, n * 5 + 2, none⟩ = some (.int .i64 t.num) ∧ Y.cell? ⟨g, n * 5 + 3, none⟩ = some (.int .i64 (t.a : Int)) ∧ Y.cell? ⟨g, n * 5 + 4, none⟩ = some (.int .i64 (t.e : Int)))) (by kernel_rfl) ?_ (fun hHeld => ?_)
 ·exact MS.out _ HD.out
 generalize W.drew = Z at *
 refine wpAnyH_take (i := 0) (v := ?_) rfl (by kernel_rfl) (by kernel_rfl) (by kernel_rfl) (fun _ _ _ h => h) (Or.inl ⟨by rfl, ?_⟩) (by assumption) ?_
 rotate_left
 ·(intro w hSw; (try dsimp only at hSw); go_simp; try with_reducible rfl)
 try simp only [Act.put, List.setIfInBounds_toArray, List.set_cons_zero, List.set_cons_succ]
 refine wpAnyH_take (i := 1) (v := ?_) rfl (by kernel_rfl) (by kernel_rfl) (by kernel_rfl) (fun _ _ _ h => h) (Or.inl ⟨by rfl, ?_⟩) (by assumption) ?_
 rotate_left
 ·(intro w hSw; (try dsimp only at hSw); go_simp; try with_reducible rfl)
 try simp only [Act.put, List.setIfInBounds_toArray, List.set_cons_zero, List.set_cons_succ]
 refine wpAnyH_take (i := 2) (v := ?_) rfl (by kernel_rfl) (by kernel_rfl) (by kernel_rfl) (fun _ _ _ h => h) (Or.inl ⟨by rfl, ?_⟩) (by assumption) ?_
 rotate_left
 ·(intro w hSw; (try dsimp only at hSw); go_simp; try with_reducible rfl)
 try simp only [Act.put, List.setIfInBounds_toArray, List.set_cons_zero, List.set_cons_succ]
 refine wpAnyH_take (i := 3) (v := ?_) rfl (by kernel_rfl) (by kernel_rfl) (by kernel_rfl) (fun _ _ _ h => h) (Or.inl ⟨by rfl, ?_⟩) (by assumption) ?_
 rotate_left
 ·(intro w hSw; (try dsimp only at hSw); go_simp; try with_reducible rfl)
 try simp only [Act.put, List.setIfInBounds_toArray, List.set_cons_zero, List.set_cons_succ]
 refine wpAnyH_take (i := 4) (v := ?_) rfl (by kernel_rfl) (by kernel_rfl) (by kernel_rfl) (fun _ _ _ h => h) (Or.inl ⟨by rfl, ?_⟩) (by assumption) ?_
 rotate_left
 ·(intro w hSw; (try dsimp only at hSw); go_simp; try with_reducible rfl)
 try simp only [Act.put, List.setIfInBounds_toArray, List.set_cons_zero, List.set_cons_succ]
 refine wpAnyH_take (i := 5) (v := ?_) rfl (by kernel_rfl) (by kernel_rfl) (by kernel_rfl) (fun _ _ _ h => h) (Or.inl ⟨by rfl, ?_⟩) (by assumption) ?_
 rotate_left
 ·(intro w hSw; (try dsimp only at hSw); go_simp; try with_reducible rfl)
 try simp only [Act.put, List.setIfInBounds_toArray, List.set_cons_zero, List.set_cons_succ]
 refine wpAnyH_take (i := 6) (v := ?_) rfl (by kernel_rfl) (by kernel_rfl) (by kernel_rfl) (fun _ _ _ h => h) (Or.inl ⟨by rfl, ?_⟩) (by assumption) ?_
 rotate_left
 ·(intro w hSw; (try dsimp only at hSw); go_simp; try with_reducible rfl)
 try simp only [Act.put, List.setIfInBounds_toArray, List.set_cons_zero, List.set_cons_succ]
 refine wpAnyH_take (i := 7) (v := ?_) rfl (by kernel_rfl) (by kernel_rfl) (by kernel_rfl) (fun _ _ _ h => h) (Or.inl ⟨by rfl, ?_⟩) (by assumption) ?_
 rotate_left
 ·(intro w hSw; (try dsimp only at hSw); go_simp; try with_reducible rfl)
 try simp only [Act.put, List.setIfInBounds_toArray, List.set_cons_zero, List.set_cons_succ]
 refine wpAnyH_take (i := 8) (v := ?_) rfl (by kernel_rfl) (by kernel_rfl) (by kernel_rfl) (fun _ _ _ h => h) (Or.inl ⟨by rfl, ?_⟩) (by assumption) ?_
 rotate_left
 ·(intro w hSw; (try dsimp only at hSw); go_simp; try with_reducible rfl)
 try simp only [Act.put, List.setIfInBounds_toArray, List.set_cons_zero, List.set_cons_succ]
 refine wpAnyH_take (i := 9) (v := ?_) rfl (by kernel_rfl) (by kernel_rfl) (by kernel_rfl) (fun _ _ _ h => h) (Or.inl ⟨by rfl, ?_⟩) (by assumption) ?_
 rotate_left
 ·(intro w hSw; (try dsimp only at hSw); go_simp; try with_reducible rfl)
 try simp only [Act.put, List.setIfInBounds_toArray, List.set_cons_zero, List.set_cons_succ]
 refine wpAnyH_ready (rs := [10]) (by kernel_rfl) (by simp) ?_
 refine AllReadyH.cons rfl (fun K hK => ?_) AllReadyH.nil
 go_simp
 refine hK.out _ _ ?_ (fun hHeld => ?_)
 ·exact MS.out _ (HD.out.trans ((belowA Z (.cells #[.int .i64 0, .string ⟨#[]⟩, .int .i64 0, .int .i64 0, .int .i64 0] 53)).mono HD.out.size))
 clear hK K
 try simp only [Act.put, List.setIfInBounds_toArray, List.set_cons_zero, List.set_cons_succ]
 have HXN := hid (heap_alloc_new Z (.cells #[.int .i64 0, .string ⟨#[]⟩, .int .i64 0, .int .i64 0, .int .i64 0] 53))
 have HBN := hid (HD.out.trans ((belowA Z (.cells #[.int .i64 0, .string ⟨#[]⟩, .int .i64 0, .int .i64 0, .int .i64 0] 53)).mono HD.out.size))
 have HGE := hid HD.out.size
 generalize Z.alloc (.cells #[.int .i64 0, .string ⟨#[]⟩, .int .i64 0, .int .i64 0, .int .i64 0] 53) = X at *
 clear HD
 generalize Z.heap.size = b at *
 refine wpAnyH_ready (rs := [11]) (by kernel_rfl) (by simp) ?_
 refine AllReadyH.cons rfl (fun K hK => ?_) AllReadyH.nil
 rw [if_pos (by rfl)]
 refine wp_store_row 53 _ _ rfl b #[.int .i64 (t.kind : Int), .string t.text, .int .i64 t.num, .int .i64 (t.a : Int), .int .i64 (t.e : Int)] rfl rfl 53 _ HXN.out infoTk rfl (by kernel_rfl) ?_
 refine hK.out _ _ ?_ (fun hHeld => ?_)
 ·exact MS.out _ (below_row HBN.out _ _ HGE.out)
 clear hK K hHeld
 try simp only [Act.put, List.setIfInBounds_toArray, List.set_cons_zero, List.set_cons_succ]
 refine wpAnyH_done (by kernel_rfl) ?_ _
 have HV := hid (setRow_heap X _ _ #[.int .i64 (t.kind : Int), .string t.text, .int .i64 t.num, .int .i64 (t.a : Int), .int .i64 (t.e : Int)] _ _ HXN.out)
 have HBV := hid (below_row HBN.out b #[.int .i64 (t.kind : Int), .string t.text, .int .i64 t.num, .int .i64 (t.a : Int), .int .i64 (t.e : Int)] HGE.out)
 generalize X.setRow b #[.int .i64 (t.kind : Int), .string t.text, .int .i64 t.num, .int .i64 (t.a : Int), .int .i64 (t.e : Int)] = V at *
 clear HXN HBN MS
 have ⟨x0, x1, x2, x3, x4⟩ := tk5 HV.out
 by_cases hk : t.kind = 4
 ·have e1 : ((t.kind : Int) == 4) = true := by simp [hk]
  cases ht : (t.text.toList == m.toList)
  ·have HEQ := hid (show (decide ((tk T s.nx).kind = 4) && decide ((tk T s.nx).text.toList = m.toList)) = false by rw [← HT.out]; rw [show decide (t.text.toList = m.toList) = false by simpa using ht]; simp)
   clear hk
   go_wp2_with fail
   go_ret
   exact ⟨by rw [HEQ.out]; rfl, HBV.out⟩
  ·have HEQ := hid (show (decide ((tk T s.nx).kind = 4) && decide ((tk T s.nx).text.toList = m.toList)) = true by rw [← HT.out]; rw [show decide (t.text.toList = m.toList) = true by simpa using ht]; simp [hk])
   clear hk
   go_wp2_with fail
   go_ret
   exact ⟨by rw [HEQ.out]; rfl, HBV.out⟩
 ·have e1 : ((t.kind : Int) == 4) = false := by simp; omega
  have HEQ := hid (show (decide ((tk T s.nx).kind = 4) && decide ((tk T s.nx).text.toList = m.toList)) = false by rw [← HT.out]; simp [hk])
  clear hk
  go_wp2_with fail
  go_ret
  exact ⟨by rw [HEQ.out]; rfl, HBV.out⟩
set_option maxHeartbeats 4000000 in
set_option maxRecDepth 100000 in
theorem mword_any {mb B : Nat} {tv : Value} {T : List Tok} {W : World} {s : PS} {ws : List Wn} {fr : List Int} {fl : Array Value} {wv v o f : Value} {ks : Nat → Value} (h : MM mb B tv T W s ws fr fl wv v o f ks) (m : ByteArray) : Calls Tryz.prog 65 #[.pointer (some ⟨mb, 0, none⟩), .string m] W fun e W' => e = .returned (.bool (decide ((tk T s.nx).kind = 3) && decide ((tk T s.nx).text.toList = m.toList))) ∧ Below W.heap.size W W' := by
 obtain ⟨g, cap, rfl, hgl, hc⟩ := h.tokc
 have hnx := h.nx
 have htl := h.tl
 have HP := hid h
 have HC := hid (fun r (hr : r < 5) => hc s.nx r hnx hr)
 have HGL := hid hgl
 have HC0 := hid (h.cell 0 (by decide))
 have HC1 := hid (h.cell 1 (by decide))
 have HML := hid (lt_blk h.box)
 clear hc h hgl
 obtain ⟨t, ht⟩ : ∃ t, t = tk T s.nx := ⟨_, rfl⟩
 have HT := hid ht
 rw [← ht] at HC
 obtain ⟨L, hL⟩ : ∃ L, L = T.length := ⟨_, rfl⟩
 have HLT := hid hL
 rw [← hL] at HC0 hnx htl
 obtain ⟨n, hn⟩ : ∃ n, n = s.nx := ⟨_, rfl⟩
 have HN := hid hn
 rw [← hn] at HC HC1 hnx
 clear hL hn
 have g1 : (n : Int) < (L : Int) := by omega
 have g0 : (0 : Int) ≤ (n : Int) := by omega
 have MS := hid (show ∀ Y, Below W.heap.size W Y → (fun Y => (Y.cell? ⟨mb, 0, none⟩ = some (.slice (some ⟨g, 0, none⟩) L cap) ∧ Y.cell? ⟨mb, 1, none⟩ = some (.int .i64 (n : Int))) ∧ Y.cell? ⟨g, n * 5, none⟩ = some (.int .i64 (t.kind : Int)) ∧ Y.cell? ⟨g, n * 5 + 1, none⟩ = some (.string t.text) ∧ Y.cell? ⟨g, n * 5 + 2, none⟩ = some (.int .i64 t.num) ∧ Y.cell? ⟨g, n * 5 + 3, none⟩ = some (.int .i64 (t.a : Int)) ∧ Y.cell? ⟨g, n * 5 + 4, none⟩ = some (.int .i64 (t.e : Int))) Y from fun Y hb => ⟨⟨(hb.cell (p := ⟨mb, 0, none⟩) HML.out).trans HC0.out, (hb.cell (p := ⟨mb, 1, none⟩) HML.out).trans HC1.out⟩, (hb.cell (p := ⟨g, n * 5, none⟩) HGL.out).trans (HC.out 0 (by decide)), (hb.cell (p := ⟨g, n * 5 + 1, none⟩) HGL.out).trans (HC.out 1 (by decide)), (hb.cell (p := ⟨g, n * 5 + 2, none⟩) HGL.out).trans (HC.out 2 (by decide)), (hb.cell (p := ⟨g, n * 5 + 3, none⟩) HGL.out).trans (HC.out 3 (by decide)), (hb.cell (p := ⟨g, n * 5 + 4, none⟩) HGL.out).trans (HC.out 4 (by decide))⟩)
 clear ht
 go_enter Tryz.func65, Tryz.ntmps65
 go_upto_region 1 with fail
 have HD := hid (show Below W.heap.size W W.drew from (Below.refl _ W).drew)
 refine wp_region_held_drew (S := (fun Y => (Y.cell? ⟨mb, 0, none⟩ = some (.slice (some ⟨g, 0, none⟩) L cap) ∧ Y.cell? ⟨mb, 1, none⟩ = some (.int .i64 (n : Int))) ∧ Y.cell? ⟨g, n * 5, none⟩ = some (.int .i64 (t.kind : Int)) ∧ Y.cell? ⟨g, n * 5 + 1, none⟩ = some (.string t.text) ∧ Y.cell? ⟨g, n * 5 + 2, none⟩ = some (.int .i64 t.num) ∧ Y.cell? ⟨g, n * 5 + 3, none⟩ = some (.int .i64 (t.a : Int)) ∧ Y.cell? ⟨g, n * 5 + 4, none⟩ = some (.int .i64 (t.e : Int)))) (by kernel_rfl) ?_ (fun hHeld => ?_)
 ·exact MS.out _ HD.out
 generalize W.drew = Z at *
 refine wpAnyH_take (i := 0) (v := ?_) rfl (by kernel_rfl) (by kernel_rfl) (by kernel_rfl) (fun _ _ _ h => h) (Or.inl ⟨by rfl, ?_⟩) (by assumption) ?_
 rotate_left
 ·(intro w hSw; (try dsimp only at hSw); go_simp; try with_reducible rfl)
 try simp only [Act.put, List.setIfInBounds_toArray, List.set_cons_zero, List.set_cons_succ]
 refine wpAnyH_take (i := 1) (v := ?_) rfl (by kernel_rfl) (by kernel_rfl) (by kernel_rfl) (fun _ _ _ h => h) (Or.inl ⟨by rfl, ?_⟩) (by assumption) ?_
 rotate_left
 ·(intro w hSw; (try dsimp only at hSw); go_simp; try with_reducible rfl)
 try simp only [Act.put, List.setIfInBounds_toArray, List.set_cons_zero, List.set_cons_succ]
 refine wpAnyH_take (i := 2) (v := ?_) rfl (by kernel_rfl) (by kernel_rfl) (by kernel_rfl) (fun _ _ _ h => h) (Or.inl ⟨by rfl, ?_⟩) (by assumption) ?_
 rotate_left
 ·(intro w hSw; (try dsimp only at hSw); go_simp; try with_reducible rfl)
 try simp only [Act.put, List.setIfInBounds_toArray, List.set_cons_zero, List.set_cons_succ]
 refine wpAnyH_take (i := 3) (v := ?_) rfl (by kernel_rfl) (by kernel_rfl) (by kernel_rfl) (fun _ _ _ h => h) (Or.inl ⟨by rfl, ?_⟩) (by assumption) ?_
 rotate_left
 ·(intro w hSw; (try dsimp only at hSw); go_simp; try with_reducible rfl)
 try simp only [Act.put, List.setIfInBounds_toArray, List.set_cons_zero, List.set_cons_succ]
 refine wpAnyH_take (i := 4) (v := ?_) rfl (by kernel_rfl) (by kernel_rfl) (by kernel_rfl) (fun _ _ _ h => h) (Or.inl ⟨by rfl, ?_⟩) (by assumption) ?_
 rotate_left
 ·(intro w hSw; (try dsimp only at hSw); go_simp; try with_reducible rfl)
 try simp only [Act.put, List.setIfInBounds_toArray, List.set_cons_zero, List.set_cons_succ]
 refine wpAnyH_take (i := 5) (v := ?_) rfl (by kernel_rfl) (by kernel_rfl) (by kernel_rfl) (fun _ _ _ h => h) (Or.inl ⟨by rfl, ?_⟩) (by assumption) ?_
 rotate_left
 ·(intro w hSw; (try dsimp only at hSw); go_simp; try with_reducible rfl)
 try simp only [Act.put, List.setIfInBounds_toArray, List.set_cons_zero, List.set_cons_succ]
 refine wpAnyH_take (i := 6) (v := ?_) rfl (by kernel_rfl) (by kernel_rfl) (by kernel_rfl) (fun _ _ _ h => h) (Or.inl ⟨by rfl, ?_⟩) (by assumption) ?_
 rotate_left
 ·(intro w hSw; (try dsimp only at hSw); go_simp; try with_reducible rfl)
 try simp only [Act.put, List.setIfInBounds_toArray, List.set_cons_zero, List.set_cons_succ]
 refine wpAnyH_take (i := 7) (v := ?_) rfl (by kernel_rfl) (by kernel_rfl) (by kernel_rfl) (fun _ _ _ h => h) (Or.inl ⟨by rfl, ?_⟩) (by assumption) ?_
 rotate_left
 ·(intro w hSw; (try dsimp only at hSw); go_simp; try with_reducible rfl)
 try simp only [Act.put, List.setIfInBounds_toArray, List.set_cons_zero, List.set_cons_succ]
 refine wpAnyH_take (i := 8) (v := ?_) rfl (by kernel_rfl) (by kernel_rfl) (by kernel_rfl) (fun _ _ _ h => h) (Or.inl ⟨by rfl, ?_⟩) (by assumption) ?_
 rotate_left
 ·(intro w hSw; (try dsimp only at hSw); go_simp; try with_reducible rfl)
 try simp only [Act.put, List.setIfInBounds_toArray, List.set_cons_zero, List.set_cons_succ]
 refine wpAnyH_take (i := 9) (v := ?_) rfl (by kernel_rfl) (by kernel_rfl) (by kernel_rfl) (fun _ _ _ h => h) (Or.inl ⟨by rfl, ?_⟩) (by assumption) ?_
 rotate_left
 ·(intro w hSw; (try dsimp only at hSw); go_simp; try with_reducible rfl)
 try simp only [Act.put, List.setIfInBounds_toArray, List.set_cons_zero, List.set_cons_succ]
 refine wpAnyH_ready (rs := [10]) (by kernel_rfl) (by simp) ?_
 refine AllReadyH.cons rfl (fun K hK => ?_) AllReadyH.nil
 go_simp
 refine hK.out _ _ ?_ (fun hHeld => ?_)
 ·exact MS.out _ (HD.out.trans ((belowA Z (.cells #[.int .i64 0, .string ⟨#[]⟩, .int .i64 0, .int .i64 0, .int .i64 0] 53)).mono HD.out.size))
 clear hK K
 try simp only [Act.put, List.setIfInBounds_toArray, List.set_cons_zero, List.set_cons_succ]
 have HXN := hid (heap_alloc_new Z (.cells #[.int .i64 0, .string ⟨#[]⟩, .int .i64 0, .int .i64 0, .int .i64 0] 53))
 have HBN := hid (HD.out.trans ((belowA Z (.cells #[.int .i64 0, .string ⟨#[]⟩, .int .i64 0, .int .i64 0, .int .i64 0] 53)).mono HD.out.size))
 have HGE := hid HD.out.size
 generalize Z.alloc (.cells #[.int .i64 0, .string ⟨#[]⟩, .int .i64 0, .int .i64 0, .int .i64 0] 53) = X at *
 clear HD
 generalize Z.heap.size = b at *
 refine wpAnyH_ready (rs := [11]) (by kernel_rfl) (by simp) ?_
 refine AllReadyH.cons rfl (fun K hK => ?_) AllReadyH.nil
 rw [if_pos (by rfl)]
 refine wp_store_row 53 _ _ rfl b #[.int .i64 (t.kind : Int), .string t.text, .int .i64 t.num, .int .i64 (t.a : Int), .int .i64 (t.e : Int)] rfl rfl 53 _ HXN.out infoTk rfl (by kernel_rfl) ?_
 refine hK.out _ _ ?_ (fun hHeld => ?_)
 ·exact MS.out _ (below_row HBN.out _ _ HGE.out)
 clear hK K hHeld
 try simp only [Act.put, List.setIfInBounds_toArray, List.set_cons_zero, List.set_cons_succ]
 refine wpAnyH_done (by kernel_rfl) ?_ _
 have HV := hid (setRow_heap X _ _ #[.int .i64 (t.kind : Int), .string t.text, .int .i64 t.num, .int .i64 (t.a : Int), .int .i64 (t.e : Int)] _ _ HXN.out)
 have HBV := hid (below_row HBN.out b #[.int .i64 (t.kind : Int), .string t.text, .int .i64 t.num, .int .i64 (t.a : Int), .int .i64 (t.e : Int)] HGE.out)
 generalize X.setRow b #[.int .i64 (t.kind : Int), .string t.text, .int .i64 t.num, .int .i64 (t.a : Int), .int .i64 (t.e : Int)] = V at *
 clear HXN HBN MS
 have ⟨x0, x1, x2, x3, x4⟩ := tk5 HV.out
 by_cases hk : t.kind = 3
 ·have e1 : ((t.kind : Int) == 3) = true := by simp [hk]
  cases ht : (t.text.toList == m.toList)
  ·have HEQ := hid (show (decide ((tk T s.nx).kind = 3) && decide ((tk T s.nx).text.toList = m.toList)) = false by rw [← HT.out]; rw [show decide (t.text.toList = m.toList) = false by simpa using ht]; simp)
   clear hk
   go_wp2_with fail
   go_ret
   exact ⟨by rw [HEQ.out]; rfl, HBV.out⟩
  ·have HEQ := hid (show (decide ((tk T s.nx).kind = 3) && decide ((tk T s.nx).text.toList = m.toList)) = true by rw [← HT.out]; rw [show decide (t.text.toList = m.toList) = true by simpa using ht]; simp [hk])
   clear hk
   go_wp2_with fail
   go_ret
   exact ⟨by rw [HEQ.out]; rfl, HBV.out⟩
 ·have e1 : ((t.kind : Int) == 3) = false := by simp; omega
  have HEQ := hid (show (decide ((tk T s.nx).kind = 3) && decide ((tk T s.nx).text.toList = m.toList)) = false by rw [← HT.out]; simp [hk])
  clear hk
  go_wp2_with fail
  go_ret
  exact ⟨by rw [HEQ.out]; rfl, HBV.out⟩
end Go.Proofs.YtcldglilhhhdoaaGreatDoor.L
