import Derived.Test.YtodamoblnlcodaaDoorLv4
import Derived.Test.YtodamoblnlcodaaDoorLv5
import Derived.Test.YtodamoblnlcodaaDoorLv6
import Derived.Test.YtodamoblnlcodaaDoorLv8
import Derived.Test.YtodamoblnlcodaaDoorTr2
namespace Go.Proofs.YtodamoblnlcodaaDoor.L
open Go.RowKit Go.Shelf
set_option linter.unusedVariables false
attribute [local go_sem] Oper.semAt_some
theorem row_lk {w w' : World} {base b : Nat} {e : TypeId} {size : Nat} {v : Value} {n : Nat} {xs : List Value} (h : w.ownsRow base e size v n xs) (hk : Lk b w w') (hb : ∀ k, v.ownBlock = some k → k ≠ b) : w'.ownsRow base e size v n xs := by
  obtain ⟨h1, h2⟩ := h
  refine ⟨h1, ?_⟩
  rcases h2 with h2 | ⟨g, cap, cur, hv, hg, hh, r⟩
  · exact Or.inl h2
  · exact Or.inr ⟨g, cap, cur, hv, hg, (hk.block g (lt_blk hh) (hb g (by rw [hv]; rfl))).trans hh, r⟩
theorem Lk.mid {b m n : Nat} {W W' : World} (h : Lk b W W') (hb : b < m) (hn : n ≤ W.heap.size) : Mid m n W W' := ⟨h.size, fun k h1 h2 => h.block k (by omega) (by omega)⟩
theorem Lk.cell {b : Nat} {W W' : World} (h : Lk b W W') {p : Addr} (hp : p.block < W.heap.size) (hb : p.block ≠ b) : W'.cell? p = W.cell? p := World.cell?_of_block (h.block p.block hp hb)
/-- What the law has laid, when it has written its lists over. -/
theorem Pr.wf {w WA W W1 W2 : World} {b7 b12 B n0 g1 c1 g2 c2 : Nat} {E : Int} {wv x1 x2 : Value} {l1 l2 LA LC : List Lb} (h : Pr w WA W b7 b12 B n0 g1 c1 g2 c2 E wv x1 x2 l1 l2 LA LC) (k1 : Lk g1 W W1) (k2 : Lk g2 W1 W2) :
    Wf W2 w.heap.size (w.heap.size + 1) b7 b12 B n0 E wv x1 x2 LA LC ∧ Below WA.heap.size WA W2 := by
  have q1 := own_blk h.o1
  have q2 := own_blk h.o2
  have hg1 := h.hg1
  have hg2 := h.hg2
  have hB := h.hB
  have hn := h.hn
  have l12 := h.seq.lt
  have z1 := k1.size
  have z2 := k2.size
  have z0 := h.up.size
  have u1 : Below WA.heap.size WA W1 := k1.below h.up q1.1 h.up.size
  have u2 : Below WA.heap.size WA W2 := k2.below u1 q2.1 u1.size
  have m1 : Mid B n0 W W1 := k1.mid hg1 (by omega)
  have m2 : Mid B n0 W1 W2 := k2.mid hg2 (by omega)
  refine ⟨⟨boxed_low h.stp u2, boxed_low h.res u2, boxed_low h.want u2, boxed_lk (boxed_lk h.seq k1 (by omega)) k2 (by omega), ?_, ?_, ?_, (h.s1.low m1).low m2, (h.s2.low m1).low m2, hB, by omega, ?_⟩, u2⟩
  · rw [← h.eq]
    exact h.lst.low u2
  · exact (k2.cell (p := ⟨B, 0, none⟩) (by show B < _; omega) (by show B ≠ _; omega)).trans ((k1.cell (p := ⟨B, 0, none⟩) (by show B < _; omega) (by show B ≠ _; omega)).trans h.c1)
  · exact (k2.cell (p := ⟨B + 1, 0, none⟩) (by show B + 1 < _; omega) (by show B + 1 ≠ _; omega)).trans ((k1.cell (p := ⟨B + 1, 0, none⟩) (by show B + 1 < _; omega) (by show B + 1 ≠ _; omega)).trans h.c2)
  · rw [← h.eq]
    exact dfA_len l1 l2
theorem sf_9 : (rtC (rtC (rtC (rtC (rtC (rtC (rtC (rtC (rtC (Option.getD Tryd.f3.body Code.skip)))))))))) = .seq (hdC (rtC (rtC (rtC (rtC (rtC (rtC (rtC (rtC (rtC (Option.getD Tryd.f3.body Code.skip))))))))))) (rtC (rtC (rtC (rtC (rtC (rtC (rtC (rtC (rtC (rtC (Option.getD Tryd.f3.body Code.skip))))))))))) := by kernel_rfl
set_option maxHeartbeats 16000000 in
set_option maxRecDepth 100000 in
theorem seg_9 (R : Exit → Act → World → Prop) (v1 v2 : Value) (b5 b6 b7 b12 g1 c1 g2 c2 L1 L2 : Nat) (u : Nat → Value) (W : World)
    (nx : ∀ (a' : Act) (W' : World) (b15 : Nat), (∃ u' : Nat → Value, a' = { tmps := #[v1, v2, u' 2, u' 3, u' 4, .pointer (some ⟨b5, 0, none⟩), .pointer (some ⟨b6, 0, none⟩), .pointer (some ⟨b7, 0, none⟩), u' 8, u' 9, u' 10, u' 11, .pointer (some ⟨b12, 0, none⟩), u' 13, u' 14, .pointer (some ⟨b15, 0, none⟩), u' 16, u' 17, u' 18, u' 19, u' 20, u' 21, u' 22, u' 23, u' 24, u' 25, u' 26, u' 27, u' 28, u' 29, u' 30, u' 31, u' 32, u' 33, u' 34, u' 35, u' 36, u' 37, u' 38, u' 39, u' 40, u' 41, u' 42, u' 43, u' 44, u' 45, u' 46, u' 47, u' 48, u' 49, u' 50, u' 51, u' 52, u' 53, u' 54, u' 55, u' 56, u' 57, u' 58, u' 59, u' 60, u' 61, u' 62, u' 63, u' 64, u' 65, u' 66, u' 67, u' 68, u' 69, u' 70, u' 71, u' 72, u' 73, u' 74, u' 75, u' 76, u' 77, u' 78, u' 79, u' 80, u' 81, u' 82, u' 83, u' 84, u' 85, u' 86, u' 87, u' 88, u' 89, u' 90, u' 91, u' 92, u' 93, u' 94, u' 95, u' 96, u' 97, u' 98, u' 99, u' 100, u' 101, u' 102, u' 103, u' 104, u' 105, u' 106, u' 107, u' 108, u' 109, u' 110, u' 111, u' 112, u' 113, u' 114, u' 115, u' 116, u' 117, u' 118, u' 119, u' 120, u' 121, u' 122, u' 123, u' 124, u' 125, u' 126, u' 127, u' 128, u' 129, u' 130, u' 131, u' 132, u' 133, u' 134, u' 135, u' 136, u' 137, u' 138, u' 139, u' 140, u' 141, u' 142, u' 143, u' 144, u' 145, u' 146, u' 147, u' 148, u' 149, u' 150, u' 151, u' 152, u' 153, u' 154, u' 155, u' 156, u' 157, u' 158, u' 159, u' 160, u' 161, u' 162, u' 163, u' 164, u' 165, u' 166], defers := [] } ∧ True) → b15 = W.heap.size → W' = W.alloc (.cells #[.int .i64 0] 3) → (rtC (rtC (rtC (rtC (rtC (rtC (rtC (rtC (rtC (rtC (Option.getD Tryd.f3.body Code.skip))))))))))).wpIn Fence.wide 4 Tryd.prog R a' W') :
    (rtC (rtC (rtC (rtC (rtC (rtC (rtC (rtC (rtC (Option.getD Tryd.f3.body Code.skip)))))))))).wpIn Fence.wide 4 Tryd.prog R { tmps := #[v1, v2, u 2, u 3, u 4, .pointer (some ⟨b5, 0, none⟩), .pointer (some ⟨b6, 0, none⟩), .pointer (some ⟨b7, 0, none⟩), u 8, .slice (some ⟨g1, 0, none⟩) L1 c1, u 10, .slice (some ⟨g2, 0, none⟩) L2 c2, .pointer (some ⟨b12, 0, none⟩), u 13, u 14, u 15, u 16, u 17, u 18, u 19, u 20, u 21, u 22, u 23, u 24, u 25, u 26, u 27, u 28, u 29, u 30, u 31, u 32, u 33, u 34, u 35, u 36, u 37, u 38, u 39, u 40, u 41, u 42, u 43, u 44, u 45, u 46, u 47, u 48, u 49, u 50, u 51, u 52, u 53, u 54, u 55, u 56, u 57, u 58, u 59, u 60, u 61, u 62, u 63, u 64, u 65, u 66, u 67, u 68, u 69, u 70, u 71, u 72, u 73, u 74, u 75, u 76, u 77, u 78, u 79, u 80, u 81, u 82, u 83, u 84, u 85, u 86, u 87, u 88, u 89, u 90, u 91, u 92, u 93, u 94, u 95, u 96, u 97, u 98, u 99, u 100, u 101, u 102, u 103, u 104, u 105, u 106, u 107, u 108, u 109, u 110, u 111, u 112, u 113, u 114, u 115, u 116, u 117, u 118, u 119, u 120, u 121, u 122, u 123, u 124, u 125, u 126, u 127, u 128, u 129, u 130, u 131, u 132, u 133, u 134, u 135, u 136, u 137, u 138, u 139, u 140, u 141, u 142, u 143, u 144, u 145, u 146, u 147, u 148, u 149, u 150, u 151, u 152, u 153, u 154, u 155, u 156, u 157, u 158, u 159, u 160, u 161, u 162, u 163, u 164, u 165, u 166], defers := [] } W := by
  have NX := hid nx
  clear nx
  rw [sf_9]
  generalize hT : (rtC (rtC (rtC (rtC (rtC (rtC (rtC (rtC (rtC (rtC (Option.getD Tryd.f3.body Code.skip))))))))))) = TL at *
  clear hT
  simp only [hdC, rtC, Option.getD, Tryd.f3]
  refine (wpIn_wide (n := 4)).2 ?_
  go_wp2_with fail
  refine (wpIn_wide (n := 4)).1 ?_
  exact NX.out _ _ _ (ex_u rfl trivial) rfl rfl
theorem sf_11 : (rtC (rtC (rtC (rtC (rtC (rtC (rtC (rtC (rtC (rtC (rtC (Option.getD Tryd.f3.body Code.skip)))))))))))) = .seq (hdC (rtC (rtC (rtC (rtC (rtC (rtC (rtC (rtC (rtC (rtC (rtC (Option.getD Tryd.f3.body Code.skip))))))))))))) (rtC (rtC (rtC (rtC (rtC (rtC (rtC (rtC (rtC (rtC (rtC (rtC (Option.getD Tryd.f3.body Code.skip))))))))))))) := by kernel_rfl
theorem sf_12 : (rtC (rtC (rtC (rtC (rtC (rtC (rtC (rtC (rtC (rtC (rtC (rtC (Option.getD Tryd.f3.body Code.skip))))))))))))) = .seq (hdC (rtC (rtC (rtC (rtC (rtC (rtC (rtC (rtC (rtC (rtC (rtC (rtC (Option.getD Tryd.f3.body Code.skip)))))))))))))) (rtC (rtC (rtC (rtC (rtC (rtC (rtC (rtC (rtC (rtC (rtC (rtC (rtC (Option.getD Tryd.f3.body Code.skip)))))))))))))) := by kernel_rfl
set_option maxHeartbeats 16000000 in
set_option maxRecDepth 100000 in
theorem seg_11 (R : Exit → Act → World → Prop) (v1 v2 : Value) (b5 b6 b7 b12 b15 : Nat) (u : Nat → Value) (Dl : List Deferred) (W : World) (k : Int) (l1 l2 : List Lb) (m1 : Came W v1 l1) (m2 : Came W v2 l2) (gd1 : Good l1) (gd2 : Good l2) (hk : Boxed W b15 3 (.int .i64 k))
    (nx : ∀ (a' : Act) (W1 W' : World) (ov : Value), (∃ u' : Nat → Value, a' = { tmps := #[v1, v2, u' 2, u' 3, u' 4, .pointer (some ⟨b5, 0, none⟩), .pointer (some ⟨b6, 0, none⟩), .pointer (some ⟨b7, 0, none⟩), u' 8, u' 9, u' 10, u' 11, .pointer (some ⟨b12, 0, none⟩), u' 13, u' 14, .pointer (some ⟨b15, 0, none⟩), u' 16, ov, u' 18, u' 19, u' 20, u' 21, u' 22, u' 23, u' 24, u' 25, u' 26, u' 27, u' 28, u' 29, u' 30, u' 31, u' 32, u' 33, u' 34, u' 35, u' 36, u' 37, u' 38, u' 39, u' 40, u' 41, u' 42, u' 43, u' 44, u' 45, u' 46, u' 47, u' 48, u' 49, u' 50, u' 51, u' 52, u' 53, u' 54, u' 55, u' 56, u' 57, u' 58, u' 59, u' 60, u' 61, u' 62, u' 63, u' 64, u' 65, u' 66, u' 67, u' 68, u' 69, u' 70, u' 71, u' 72, u' 73, u' 74, u' 75, u' 76, u' 77, u' 78, u' 79, u' 80, u' 81, u' 82, u' 83, u' 84, u' 85, u' 86, u' 87, u' 88, u' 89, u' 90, u' 91, u' 92, u' 93, u' 94, u' 95, u' 96, u' 97, u' 98, u' 99, u' 100, u' 101, u' 102, u' 103, u' 104, u' 105, u' 106, u' 107, u' 108, u' 109, u' 110, u' 111, u' 112, u' 113, u' 114, u' 115, u' 116, u' 117, u' 118, u' 119, u' 120, u' 121, u' 122, u' 123, u' 124, u' 125, u' 126, u' 127, u' 128, u' 129, u' 130, u' 131, u' 132, u' 133, u' 134, u' 135, u' 136, u' 137, u' 138, u' 139, u' 140, u' 141, u' 142, u' 143, u' 144, u' 145, u' 146, u' 147, u' 148, u' 149, u' 150, u' 151, u' 152, u' 153, u' 154, u' 155, u' 156, u' 157, u' 158, u' 159, u' 160, u' 161, u' 162, u' 163, u' 164, u' 165, u' 166], defers := Dl } ∧ True) → Below W.heap.size W W1 → W1.ownsRow W.heap.size 35 5 ov (dfA l2 l1).length (cellsD (dfA l2 l1)) → W' = W1.setCell ⟨b15, 0, none⟩ (.int .i64 0) → (rtC (rtC (rtC (rtC (rtC (rtC (rtC (rtC (rtC (rtC (rtC (rtC (rtC (Option.getD Tryd.f3.body Code.skip)))))))))))))).wpIn Fence.wide 4 Tryd.prog R a' W') :
    (rtC (rtC (rtC (rtC (rtC (rtC (rtC (rtC (rtC (rtC (rtC (Option.getD Tryd.f3.body Code.skip)))))))))))).wpIn Fence.wide 4 Tryd.prog R { tmps := #[v1, v2, u 2, u 3, u 4, .pointer (some ⟨b5, 0, none⟩), .pointer (some ⟨b6, 0, none⟩), .pointer (some ⟨b7, 0, none⟩), u 8, u 9, u 10, u 11, .pointer (some ⟨b12, 0, none⟩), u 13, u 14, .pointer (some ⟨b15, 0, none⟩), u 16, u 17, u 18, u 19, u 20, u 21, u 22, u 23, u 24, u 25, u 26, u 27, u 28, u 29, u 30, u 31, u 32, u 33, u 34, u 35, u 36, u 37, u 38, u 39, u 40, u 41, u 42, u 43, u 44, u 45, u 46, u 47, u 48, u 49, u 50, u 51, u 52, u 53, u 54, u 55, u 56, u 57, u 58, u 59, u 60, u 61, u 62, u 63, u 64, u 65, u 66, u 67, u 68, u 69, u 70, u 71, u 72, u 73, u 74, u 75, u 76, u 77, u 78, u 79, u 80, u 81, u 82, u 83, u 84, u 85, u 86, u 87, u 88, u 89, u 90, u 91, u 92, u 93, u 94, u 95, u 96, u 97, u 98, u 99, u 100, u 101, u 102, u 103, u 104, u 105, u 106, u 107, u 108, u 109, u 110, u 111, u 112, u 113, u 114, u 115, u 116, u 117, u 118, u 119, u 120, u 121, u 122, u 123, u 124, u 125, u 126, u 127, u 128, u 129, u 130, u 131, u 132, u 133, u 134, u 135, u 136, u 137, u 138, u 139, u 140, u 141, u 142, u 143, u 144, u 145, u 146, u 147, u 148, u 149, u 150, u 151, u 152, u 153, u 154, u 155, u 156, u 157, u 158, u 159, u 160, u 161, u 162, u 163, u 164, u 165, u 166], defers := Dl } W := by
  have NX := hid nx
  have M1 := hid m1
  have M2 := hid m2
  have HK := hid hk
  have CP1 := hid (fun W (h : Came W v1 l1) => copied_any v1 l1 W h gd1)
  have CP2 := hid (fun W (h : Came W v2 l2) => copied_any v2 l2 W h gd2)
  have WK := hid (fun y2 y1 W (h2 : Came W y2 l2) (h1 : Came W y1 l1) => walk_all y2 y1 l2 l1 W h2 h1 gd2 gd1)
  clear nx m1 m2 hk gd1 gd2
  rw [sf_11, sf_12]
  generalize hT : (rtC (rtC (rtC (rtC (rtC (rtC (rtC (rtC (rtC (rtC (rtC (rtC (rtC (Option.getD Tryd.f3.body Code.skip)))))))))))))) = TL at *
  clear hT
  simp only [hdC, rtC, Option.getD, Tryd.f3]
  refine (wpIn_wide (n := 4)).2 ?_
  go_wp2_with fail
  refine (CP2.out _ M2.out).mono ?_
  rintro e w1 ⟨y2, rfl, h2, hb⟩
  have B1 := hid hb
  have C2 := hid h2
  clear hb h2
  go_wp2_with fail
  refine (CP1.out _ (M1.out.low B1.out)).mono ?_
  rintro e w2 ⟨y1, rfl, h1, hb⟩
  have B2 := hid (B1.out.trans (hb.mono B1.out.size))
  have C2' := hid (C2.out.low hb)
  have C1 := hid h1
  clear hb h1 C2 B1
  go_wp2_with fail
  refine (WK.out y2 y1 _ C2'.out C1.out).mono ?_
  rintro e w3 ⟨ov, rfl, ho, hb⟩
  have B3 := hid (B2.out.trans (hb.mono B2.out.size))
  have HO := hid (row_mono ho B2.out.size)
  have x15 := boxed_low HK.out B3.out
  have c15 := x15.cell
  have f15 := x15.frozen
  have l15 := x15.lt
  clear hb ho x15
  go_wp2_with fail
  refine (wpIn_wide (n := 4)).1 ?_
  exact NX.out _ _ _ _ (ex_u rfl trivial) B3.out HO.out rfl
theorem sf_14 : (rtC (rtC (rtC (rtC (rtC (rtC (rtC (rtC (rtC (rtC (rtC (rtC (rtC (rtC (Option.getD Tryd.f3.body Code.skip))))))))))))))) = .seq (hdC (rtC (rtC (rtC (rtC (rtC (rtC (rtC (rtC (rtC (rtC (rtC (rtC (rtC (rtC (Option.getD Tryd.f3.body Code.skip)))))))))))))))) (rtC (rtC (rtC (rtC (rtC (rtC (rtC (rtC (rtC (rtC (rtC (rtC (rtC (rtC (rtC (Option.getD Tryd.f3.body Code.skip)))))))))))))))) := by kernel_rfl
set_option maxHeartbeats 16000000 in
set_option maxRecDepth 100000 in
theorem seg_14 (R : Exit → Act → World → Prop) (v1 v2 ov : Value) (b5 b6 b7 b12 b15 : Nat) (u : Nat → Value) (Dl : List Deferred) (W : World) (k : Int) (hk : Boxed W b15 3 (.int .i64 k))
    (nx : ∀ (a' : Act), (∃ u' : Nat → Value, a' = { tmps := #[v1, v2, u' 2, u' 3, u' 4, .pointer (some ⟨b5, 0, none⟩), .pointer (some ⟨b6, 0, none⟩), .pointer (some ⟨b7, 0, none⟩), u' 8, u' 9, u' 10, u' 11, .pointer (some ⟨b12, 0, none⟩), u' 13, u' 14, .pointer (some ⟨b15, 0, none⟩), u' 16, ov, u' 18, u' 19, u' 20, u' 21, u' 22, u' 23, u' 24, u' 25, u' 26, u' 27, u' 28, u' 29, u' 30, u' 31, u' 32, u' 33, u' 34, u' 35, u' 36, u' 37, u' 38, u' 39, u' 40, u' 41, u' 42, u' 43, u' 44, u' 45, u' 46, u' 47, u' 48, u' 49, u' 50, u' 51, u' 52, u' 53, u' 54, u' 55, u' 56, u' 57, u' 58, u' 59, u' 60, u' 61, u' 62, u' 63, u' 64, u' 65, u' 66, u' 67, u' 68, u' 69, u' 70, u' 71, u' 72, u' 73, u' 74, u' 75, u' 76, u' 77, u' 78, u' 79, u' 80, u' 81, u' 82, u' 83, u' 84, u' 85, u' 86, u' 87, u' 88, u' 89, u' 90, u' 91, u' 92, u' 93, u' 94, u' 95, u' 96, u' 97, u' 98, u' 99, u' 100, u' 101, u' 102, u' 103, u' 104, u' 105, u' 106, u' 107, u' 108, u' 109, u' 110, u' 111, u' 112, u' 113, u' 114, u' 115, u' 116, u' 117, u' 118, u' 119, u' 120, u' 121, u' 122, u' 123, u' 124, u' 125, u' 126, u' 127, u' 128, u' 129, u' 130, u' 131, u' 132, u' 133, u' 134, u' 135, u' 136, u' 137, u' 138, u' 139, u' 140, u' 141, u' 142, u' 143, u' 144, u' 145, u' 146, u' 147, u' 148, u' 149, u' 150, u' 151, u' 152, u' 153, u' 154, u' 155, u' 156, u' 157, u' 158, u' 159, u' 160, u' 161, u' 162, u' 163, u' 164, u' 165, u' 166], defers := Dl } ∧ True) → (rtC (rtC (rtC (rtC (rtC (rtC (rtC (rtC (rtC (rtC (rtC (rtC (rtC (rtC (rtC (Option.getD Tryd.f3.body Code.skip)))))))))))))))).wpIn Fence.wide 4 Tryd.prog R a' (W.setCell ⟨b15, 0, none⟩ (.int .i64 0))) :
    (rtC (rtC (rtC (rtC (rtC (rtC (rtC (rtC (rtC (rtC (rtC (rtC (rtC (rtC (Option.getD Tryd.f3.body Code.skip))))))))))))))).wpIn Fence.wide 4 Tryd.prog R { tmps := #[v1, v2, u 2, u 3, u 4, .pointer (some ⟨b5, 0, none⟩), .pointer (some ⟨b6, 0, none⟩), .pointer (some ⟨b7, 0, none⟩), u 8, u 9, u 10, u 11, .pointer (some ⟨b12, 0, none⟩), u 13, u 14, .pointer (some ⟨b15, 0, none⟩), u 16, ov, u 18, u 19, u 20, u 21, u 22, u 23, u 24, u 25, u 26, u 27, u 28, u 29, u 30, u 31, u 32, u 33, u 34, u 35, u 36, u 37, u 38, u 39, u 40, u 41, u 42, u 43, u 44, u 45, u 46, u 47, u 48, u 49, u 50, u 51, u 52, u 53, u 54, u 55, u 56, u 57, u 58, u 59, u 60, u 61, u 62, u 63, u 64, u 65, u 66, u 67, u 68, u 69, u 70, u 71, u 72, u 73, u 74, u 75, u 76, u 77, u 78, u 79, u 80, u 81, u 82, u 83, u 84, u 85, u 86, u 87, u 88, u 89, u 90, u 91, u 92, u 93, u 94, u 95, u 96, u 97, u 98, u 99, u 100, u 101, u 102, u 103, u 104, u 105, u 106, u 107, u 108, u 109, u 110, u 111, u 112, u 113, u 114, u 115, u 116, u 117, u 118, u 119, u 120, u 121, u 122, u 123, u 124, u 125, u 126, u 127, u 128, u 129, u 130, u 131, u 132, u 133, u 134, u 135, u 136, u 137, u 138, u 139, u 140, u 141, u 142, u 143, u 144, u 145, u 146, u 147, u 148, u 149, u 150, u 151, u 152, u 153, u 154, u 155, u 156, u 157, u 158, u 159, u 160, u 161, u 162, u 163, u 164, u 165, u 166], defers := Dl } W := by
  have NX := hid nx
  have c15 := hk.cell
  have f15 := hk.frozen
  have l15 := hk.lt
  clear nx hk
  rw [sf_14]
  generalize hT : (rtC (rtC (rtC (rtC (rtC (rtC (rtC (rtC (rtC (rtC (rtC (rtC (rtC (rtC (rtC (Option.getD Tryd.f3.body Code.skip)))))))))))))))) = TL at *
  clear hT
  simp only [hdC, rtC, Option.getD, Tryd.f3]
  refine (wpIn_wide (n := 4)).2 ?_
  go_wp2_with fail
  refine (wpIn_wide (n := 4)).1 ?_
  exact NX.out _ (ex_u rfl trivial)
set_option maxHeartbeats 16000000 in
set_option maxRecDepth 100000 in
theorem seg_16 (R : Exit → Act → World → Prop) (v1 v2 ov wv : Value) (b5 b6 b7 b12 b15 : Nat) (u : Nat → Value) (Dl : List Deferred) (W : World) (N : Nat) (l1 l2 : List Lb) (m1 : Came W v1 l1) (m2 : Came W v2 l2) (gd1 : Good l1) (gd2 : Good l2) (hk : Boxed W b15 3 (.int .i64 N)) (hw : Boxed W b7 24 wv) (hr : Boxed W b6 4 (.bool false)) (hl : ∃ a c, wv = .slice a N c) (hN : N ≤ 64) (ho : ItemsD W ov (dfA l2 l1))
    (nx : ∀ (a' : Act) (W1 : World), (∃ u' : Nat → Value, a' = { tmps := #[v1, v2, u' 2, u' 3, u' 4, .pointer (some ⟨b5, 0, none⟩), .pointer (some ⟨b6, 0, none⟩), .pointer (some ⟨b7, 0, none⟩), u' 8, u' 9, u' 10, u' 11, .pointer (some ⟨b12, 0, none⟩), u' 13, u' 14, .pointer (some ⟨b15, 0, none⟩), u' 16, ov, u' 18, u' 19, u' 20, u' 21, u' 22, u' 23, u' 24, u' 25, u' 26, u' 27, u' 28, u' 29, u' 30, u' 31, u' 32, u' 33, u' 34, u' 35, u' 36, u' 37, u' 38, u' 39, u' 40, u' 41, u' 42, u' 43, u' 44, u' 45, u' 46, u' 47, u' 48, u' 49, u' 50, u' 51, u' 52, u' 53, u' 54, u' 55, u' 56, u' 57, u' 58, u' 59, u' 60, u' 61, u' 62, u' 63, u' 64, u' 65, u' 66, u' 67, u' 68, u' 69, u' 70, u' 71, u' 72, u' 73, u' 74, u' 75, u' 76, u' 77, u' 78, u' 79, u' 80, u' 81, u' 82, u' 83, u' 84, u' 85, u' 86, u' 87, u' 88, u' 89, u' 90, u' 91, u' 92, u' 93, u' 94, u' 95, u' 96, u' 97, u' 98, u' 99, u' 100, u' 101, u' 102, u' 103, u' 104, u' 105, u' 106, u' 107, u' 108, u' 109, u' 110, u' 111, u' 112, u' 113, u' 114, u' 115, u' 116, u' 117, u' 118, u' 119, u' 120, u' 121, u' 122, u' 123, u' 124, u' 125, u' 126, u' 127, u' 128, u' 129, u' 130, u' 131, u' 132, u' 133, u' 134, u' 135, u' 136, u' 137, u' 138, u' 139, u' 140, u' 141, u' 142, u' 143, u' 144, u' 145, u' 146, u' 147, u' 148, u' 149, u' 150, u' 151, u' 152, u' 153, u' 154, u' 155, u' 156, u' 157, u' 158, u' 159, u' 160, u' 161, u' 162, u' 163, u' 164, u' 165, u' 166], defers := Dl } ∧ True) → Below W.heap.size W W1 → R .ret a' (W1.setCell ⟨b6, 0, none⟩ (.bool true))) :
    (rtC (rtC (rtC (rtC (rtC (rtC (rtC (rtC (rtC (rtC (rtC (rtC (rtC (rtC (rtC (rtC (Option.getD Tryd.f3.body Code.skip))))))))))))))))).wpIn Fence.wide 4 Tryd.prog R { tmps := #[v1, v2, u 2, u 3, u 4, .pointer (some ⟨b5, 0, none⟩), .pointer (some ⟨b6, 0, none⟩), .pointer (some ⟨b7, 0, none⟩), u 8, u 9, u 10, u 11, .pointer (some ⟨b12, 0, none⟩), u 13, u 14, .pointer (some ⟨b15, 0, none⟩), u 16, ov, u 18, u 19, u 20, u 21, u 22, u 23, u 24, u 25, u 26, u 27, u 28, u 29, u 30, u 31, u 32, u 33, u 34, u 35, u 36, u 37, u 38, u 39, u 40, u 41, u 42, u 43, u 44, u 45, u 46, u 47, u 48, u 49, u 50, u 51, u 52, u 53, u 54, u 55, u 56, u 57, u 58, u 59, u 60, u 61, u 62, u 63, u 64, u 65, u 66, u 67, u 68, u 69, u 70, u 71, u 72, u 73, u 74, u 75, u 76, u 77, u 78, u 79, u 80, u 81, u 82, u 83, u 84, u 85, u 86, u 87, u 88, u 89, u 90, u 91, u 92, u 93, u 94, u 95, u 96, u 97, u 98, u 99, u 100, u 101, u 102, u 103, u 104, u 105, u 106, u 107, u 108, u 109, u 110, u 111, u 112, u 113, u 114, u 115, u 116, u 117, u 118, u 119, u 120, u 121, u 122, u 123, u 124, u 125, u 126, u 127, u 128, u 129, u 130, u 131, u 132, u 133, u 134, u 135, u 136, u 137, u 138, u 139, u 140, u 141, u 142, u 143, u 144, u 145, u 146, u 147, u 148, u 149, u 150, u 151, u 152, u 153, u 154, u 155, u 156, u 157, u 158, u 159, u 160, u 161, u 162, u 163, u 164, u 165, u 166], defers := Dl } W := by
  have NX := hid nx
  have RD := hid (rdiff_all v2 v1 l2 l1 W m2.items m1.items gd2 gd1)
  have HO := hid ho
  have HR := hid hr
  have hdl := dfA_len l2 l1
  have SD := hid (fun v2 W (h1 : ItemsD W ov (dfA l2 l1)) (h2 : ItemsD W v2 (dfA l2 l1)) => samediffs_any ov v2 (dfA l2 l1) W h1 h2 (by omega))
  obtain ⟨wa, wc, rfl⟩ := hl
  have c15 := hk.cell
  have c7 := hw.cell
  have l15 := hk.lt
  have l7 := hw.lt
  clear nx m1 m2 gd1 gd2 hk hw hr ho
  simp only [rtC, Option.getD, Tryd.f3]
  refine (wpIn_wide (n := 4)).2 ?_
  go_wp2_with fail
  refine RD.out.mono ?_
  rintro e w1 ⟨rv, rfl, hi, hb⟩
  have B1 := hid hb
  have HI := hid hi
  have HO1 := hid (HO.out.low hb)
  clear hb hi
  go_wp2_with fail
  refine (SD.out rv _ HO1.out HI.out).mono ?_
  rintro e w2 ⟨rfl, hb⟩
  have B2 := hid (B1.out.trans (hb.mono B1.out.size))
  have x6 := boxed_low HR.out B2.out
  have c6 := x6.cell
  have f6 := x6.frozen
  have l6 := x6.lt
  clear hb x6
  go_wp2_with fail
  exact NX.out _ _ (ex_u rfl trivial) B2.out
set_option maxHeartbeats 16000000 in
set_option maxRecDepth 100000 in
/-- THE LAW: a Diff tells of the lists as at its call, as often as it is gone over. -/
theorem labelswalk_any (v1 v2 : Value) (l1 l2 : List Lb) (E : Int) (w : World) (hE : -9223372036854775808 ≤ E ∧ E ≤ 9223372036854775807) (m1 : Came w v1 l1) (m2 : Came w v2 l2) (gd1 : Good l1) (gd2 : Good l2) :
    Calls Tryd.prog 3 #[v1, v2, .int .i64 E] w fun e w' => e = .returned (.bool true) ∧ Below w.heap.size w w' := by
  refine (callsIn_wide (n := 4)).1 ?_
  refine callsIn_of_wp_marks Tryd.func3 rfl trivial ?_ rfl
  simp only [Tryd.ntmps3, List.size_toArray, List.length_cons, List.length_nil, Nat.reduceAdd, Nat.reduceSub, Array.replicate_succ, Array.replicate_zero, List.push_toArray, List.append_toArray, List.nil_append, List.cons_append]
  have hl1 := gd1.1.2
  have hl2 := gd2.1.2
  refine seg_0 _ v1 v2 l1 l2 l1.length l2.length rfl rfl E w hE m1 m2 gd1 gd2 ?_
  rintro a WA W9 b7 b12 B n0 g1 c1 g2 c2 wv x1 x2 LA LC ⟨u0, rfl, -⟩ PR
  refine seg_7 _ v1 v2 _ _ b7 b12 g1 c1 g2 c2 l1.length l2.length u0 W9 WA.heap.size l1 rfl hl1 PR.o1 ?_
  rintro a W10 ⟨u1, rfl, -⟩ K1
  have o2 : Own W10 WA.heap.size (.slice (some ⟨g2, 0, none⟩) (l2.length + 80) c2) (l2 ++ spr 80) := row_lk PR.o2 K1 (fun k hk => by injection hk with hk; subst hk; exact PR.ne.symm)
  refine seg_8 _ v1 v2 _ _ b7 b12 g1 c1 g2 c2 l1.length l2.length u1 W10 WA.heap.size l2 rfl hl2 o2 ?_
  rintro a W11 ⟨u2, rfl, -⟩ K2
  obtain ⟨F, BA⟩ := PR.wf K1 K2
  refine seg_9 _ v1 v2 _ _ b7 b12 g1 c1 g2 c2 l1.length l2.length u2 W11 ?_
  rintro a W12 b15 ⟨u3, rfl, -⟩ hb15 hW12
  have B0 : Below w.heap.size w W11 := PR.low.trans (BA.mono PR.low.size)
  have bA := belowA W11 (.cells #[.int .i64 0] 3)
  have x15 := Boxed.new W11 3 (.int .i64 0)
  rw [← hW12] at bA x15
  rw [← hb15] at x15
  have z12 : W12.heap.size = W11.heap.size + 1 := by rw [hW12]; simp
  refine seg_10 _ W11 W12 _ _ b7 b12 b15 B n0 E wv x1 x2 v1 v2 LA LC u3 [] hE F bA (by omega) (by omega) x15 ?_
  rintro a D1 W13 ⟨u4, rfl, -⟩ ⟨k, I1⟩ hD1 hd1
  have B13 : Below W11.heap.size W11 W13 := I1.lk.below bA (by omega) (by omega)
  have BW13 : Below w.heap.size w W13 := B0.trans (B13.mono B0.size)
  have z13 := I1.lk.size
  refine seg_11 _ v1 v2 _ _ b7 b12 b15 u4 _ W13 k l1 l2 (m1.low BW13) (m2.low BW13) gd1 gd2 I1.num ?_
  rintro a W16 W17 ov ⟨u5, rfl, -⟩ B16 O16 hW17
  have z16 := B16.size
  have x16 := boxed_low I1.num B16
  have K17 : Lk b15 W16 W17 := by rw [hW17]; exact (Lk.refl _ _).set _
  have x17 : Boxed W17 b15 3 (.int .i64 0) := by rw [hW17]; exact x16.set _
  have z17 := K17.size
  have B16' : Below W11.heap.size W11 W16 := B13.trans (B16.mono B13.size)
  have B17 : Below W11.heap.size W11 W17 := K17.below B16' (by omega) B16'.size
  have d17 : W17.heap[D1]? = some (.deferred (some [])) := (K17.block D1 (by have := lt_blk hd1; omega) (by omega)).trans ((B16.block D1 (lt_blk hd1)).trans hd1)
  refine seg_13 _ W11 W17 _ _ b7 b12 b15 B n0 E wv x1 x2 v1 v2 LA LC u5 _ hE F B17 (by omega) (by omega) ov x17 ?_
  rintro a D2 W18 ⟨u6, rfl, -⟩ I2 hD2 hd2
  have z18 := I2.lk.size
  refine seg_14 _ v1 v2 ov _ _ b7 b12 b15 u6 _ W18 _ I2.num ?_
  rintro a ⟨u7, rfl, -⟩
  obtain ⟨W19, hW19⟩ : ∃ W19, W19 = W18.setCell ⟨b15, 0, none⟩ (.int .i64 0) := ⟨_, rfl⟩
  rw [← hW19]
  have K19 : Lk b15 W18 W19 := by rw [hW19]; exact (Lk.refl _ _).set _
  have x19 : Boxed W19 b15 3 (.int .i64 0) := by rw [hW19]; exact I2.num.set _
  have z19 := K19.size
  have K79 : Lk b15 W17 W19 := I2.lk.trans K19
  have B19 : Below W11.heap.size W11 W19 := K79.below B17 (by omega) B17.size
  refine seg_15 _ W11 W19 _ _ b7 b12 b15 B n0 E wv x1 x2 v1 v2 LA LC u7 _ hE F B19 (by omega) (by omega) ov x19 ?_
  rintro a D3 W20 ⟨u8, rfl, -⟩ I3 hD3 hd3
  have z20 := I3.lk.size
  have K720 : Lk b15 W17 W20 := K79.trans I3.lk
  have B20 : Below W11.heap.size W11 W20 := I3.lk.below B19 (by omega) B19.size
  have BW20 : Below w.heap.size w W20 := B0.trans (B20.mono B0.size)
  have O20 : W20.ownsRow W13.heap.size 35 5 ov (dfA l2 l1).length (cellsD (dfA l2 l1)) := row_lk O16 (K17.trans K720) (fun k hk => by have := own_base O16 k hk; omega)
  have F20 := F.low B20
  refine seg_16 _ v1 v2 ov wv _ _ b7 b12 b15 u8 _ W20 (df LA LC).length l1 l2 (m1.low BW20) (m2.low BW20) gd1 gd2 I3.num F20.want F20.res (itemsD_form F20.lst) F.len (own_itemsD O20) ?_
  rintro a W21 ⟨u9, rfl, -⟩ B21
  have e1 : W20.heap[D1]? = some (.deferred (some [])) := (K720.block D1 (by have := lt_blk d17; omega) (by omega)).trans d17
  have l18 := lt_blk hd2
  have e2 : W20.heap[D2]? = some (.deferred (some [])) := ((K19.trans I3.lk).block D2 l18 (by omega)).trans hd2
  have l20 := lt_blk hd3
  have lD1 := lt_blk d17
  have r21 := boxed_low F20.res B21
  have BW21 : Below w.heap.size w W21 := BW20.trans (B21.mono BW20.size)
  refine leaveL _ _ (w.heap.size + 1) rfl w (fun w' h => ⟨rfl, h⟩) [D3, D2, D1] _ (by simp; omega) ?_ (r21.set _) (below_set BW21 _ _ _ (Nat.le_succ _))
  intro D hD
  have key : w.heap.size ≤ D ∧ W21.heap[D]? = some (.deferred (some [])) := by
    have q := B0.size
    simp at hD
    rcases hD with rfl | rfl | rfl
    · exact ⟨by omega, (B21.block _ l20).trans hd3⟩
    · exact ⟨by omega, (B21.block _ (lt_blk e2)).trans e2⟩
    · exact ⟨by omega, (B21.block _ (lt_blk e1)).trans e1⟩
  refine ⟨key.1, (block_set _ _ _ _ _ ?_).trans key.2⟩
  intro e
  have h2 := key.2
  unfold Boxed at r21
  rw [e, r21] at h2
  cases h2
end Go.Proofs.YtodamoblnlcodaaDoor.L
