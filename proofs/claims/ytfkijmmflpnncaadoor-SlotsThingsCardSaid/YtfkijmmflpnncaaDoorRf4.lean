import Derived.Test.YtfkijmmflpnncaaDoorMgAF
namespace Go.Proofs.YtfkijmmflpnncaaDoor.L
open Go.RowKit Bs Go.Maps
set_option linter.unusedVariables false
theorem infoD : (Tryd.prog.info? 52).map (fun i => (i.zero, i.size, i.bytes)) = some (some (.agg #[.int .i64 0, .string ByteArray.empty, .int .i64 0]), 3, 32) := by kernel_rfl
theorem cell_three_new (w : World) (x y z : Value) (t : TypeId) : ∀ j u, [x, y, z][j]? = some u → (w.alloc (.cells #[x, y, z] t)).cell? ((⟨w.heap.size, 0, none⟩ : Addr).add j) = some u := by
  intro j u hj
  match j, hj with
  | 0, hj => simp at hj; subst hj; simp [Addr.add]
  | 1, hj => simp at hj; subst hj; simp [Addr.add]
  | 2, hj => simp at hj; subst hj; simp [Addr.add]
theorem own_base {w : World} {base : Nat} {e : TypeId} {size n : Nat} {v : Value} {xs : List Value} (h : w.ownsRow base e size v n xs) : w.ownsRow 0 e size v n xs :=
  ⟨h.1, h.2.imp id fun ⟨g, cap, cur, e1, _, r⟩ => ⟨g, cap, cur, e1, Nat.zero_le _, r⟩⟩
theorem cellsD_oneCell : ∀ (d : List Dr), ∀ u ∈ cellsD d, u.oneCell' = true
  | [], u, h => by cases h
  | x :: d, u, h => by
    rw [cellsD_cons] at h
    simp only [List.mem_cons] at h
    rcases h with rfl | rfl | rfl | h
    · rfl
    · rfl
    · rfl
    · exact cellsD_oneCell d u h
theorem OwnD.low {w w' : World} {v : Value} {d : List Dr} (h : OwnD w v d) (hb : Below w.heap.size w w') : OwnD w' v d :=
  own_stays h (fun g hg => hb.block g (h.lt g hg).2)
theorem fresh_grown {w4 w5 : World} {t : TypeId} {c : Nat} (h : (w4.alloc (Obj.cells #[] t (0, 0))).grownBy w5 (Value.slice (some ⟨w4.heap.size, 0, none⟩) 0 c).ownBlock) : Below w4.heap.size w4 w5 :=
  ((Below.refl _ w4).alloc (Nat.le_refl _) _).grown h (by simp) (fun k hk => by simp [Value.ownBlock] at hk; omega)
theorem own_grown {B : Nat} {w4 w5 w7 : World} {e : TypeId} {size n : Nat} {v : Value} {xs : List Value} {o : Obj} (hB : B ≤ w5.heap.size) (b : Below B w4 w5) (ho : w5.ownsRow B e size v n xs) (h : (w5.alloc o).grownBy w7 v.ownBlock) : Below B w4 w7 :=
  (b.alloc hB o).grown h (by simp; omega) (fun k hk => (ho.lt k hk).1)
theorem atD_span {d : List Dr} {k : Nat} (h : atD d k ≠ -1) : k < spanD d := by
  rcases atD_cases d k with ⟨a, _⟩ | ⟨j, _, hj, hs⟩
  · exact absurd a h
  · have : ∀ n, j < n → ds d j < spn d n := by
      intro n
      induction n with
      | zero => intro c; omega
      | succ n ih =>
        intro c
        unfold spn
        by_cases e : j = n
        · subst e; omega
        · have := ih (by omega); omega
    have := this _ hj
    unfold spanD
    omega
theorem atD_ge (d : List Dr) (i : Int) (h : atD d i ≠ -1) : 0 ≤ atD d i := by
  rcases atD_cases d i with ⟨a, _⟩ | ⟨j, a, _⟩
  · exact absurd a h
  · rw [a]; omega
/-- The lowest slot that no row has. -/
def LowD (d : List Dr) (r : Nat) : Prop := atD d r = -1 ∧ ∀ k : Nat, k < r → atD d k ≠ -1
theorem findL {w W : World} {a : Option Addr} {cap L : Nat} {d : List Dr} (hL : L = d.length) (m : Int) (s : ByteArray) (hi : ItD w a cap d) (hl : L ≤ 65536) (h : Below w.heap.size w W) :
    Calls Tryd.prog 35 #[.agg #[.int .i64 m, .slice a L cap], .string s] W fun e w' => e = .returned (.int .i64 (findD d s)) ∧ Below W.heap.size W w' := by
  subst hL; exact findW m s hi hl h
theorem atL {w W : World} {a : Option Addr} {cap L : Nat} {d : List Dr} (hL : L = d.length) (m i : Int) (hi : ItD w a cap d) (hl : L ≤ 65536) (h : Below w.heap.size w W) :
    Calls Tryd.prog 21 #[.agg #[.int .i64 m, .slice a L cap], .int .i64 i] W fun e w' => e = .returned (.int .i64 (atD d i)) ∧ Below W.heap.size W w' := by
  subst hL; exact atW m i hi hl h
theorem put_rows {w w4 w7 : World} {d : List Dr} {L k g7 c7 : Nat} {s : ByteArray} {x : Int} {o p : Value} (hL : L = d.length) (hz : w.heap.size + 1 < w4.heap.size)
    (h : w7.ownsRow w4.heap.size 52 3 (.slice (some ⟨g7, 0, none⟩) (0 + L + 1) c7) (0 + L + 1) ([] ++ cellsD d ++ [.int .i64 (k : Int), .string s, .int .i64 x])) :
    OwnD ((w7.setCell ⟨w.heap.size + 1, 0, none⟩ o).setCell ⟨w.heap.size + 1, 1, none⟩ p) (.slice (some ⟨g7, 0, none⟩) (0 + L + 1) c7) (d ++ [(k, s, x)]) := by
  have hg : w4.heap.size ≤ g7 := (h.lt g7 rfl).1
  unfold OwnD
  rw [cellsD_app, List.length_append, ← hL]
  have e : 0 + L + 1 = L + [(k, s, x)].length := by simp
  rw [List.nil_append] at h
  rw [← e]
  refine own_stays (own_base h) (fun g hg' => ?_)
  simp [Value.ownBlock] at hg'
  subst hg'
  rw [set_other _ _ (by omega), set_other _ _ (by omega)]
set_option maxHeartbeats 8000000 in
set_option maxRecDepth 100000 in
theorem rput_okL (m : Nat) (a : Option Addr) (cap L : Nat) (d : List Dr) (hL : L = d.length) (s : ByteArray) (x : Int) (w : World) (ho : OwnD w (.slice a L cap) d) (hm : m ≤ 65536) (hs : ∀ k, ds d k < 65536) (hb : badB s = false) (hj : findD d s = -1) (hl : L < m) : Calls Tryd.prog 11 #[.agg #[.int .i64 (m : Int), .slice a L cap], .string s, .int .i64 x] w fun e w' => ∃ r v', LowD d r ∧ e = .returned (.tuple #[.agg #[.int .i64 (m : Int), v'], .int .i64 (r : Int), .int .i64 0]) ∧ OwnD w' v' (d ++ [(r, s, x)]) ∧ Below w.heap.size w w' := by
  obtain ⟨i0, hi0, hz0, hz1, hz2⟩ := info_parts infoD
  have C := hid (fun W => rbad_any s W (maxLen_of hb))
  rw [hb] at C
  have hi : ItD w a cap d := own_itemsD (by rw [← hL]; exact ho)
  have F := hid (fun W h => findL hL (w := w) (W := W) (m : Int) s hi (by omega) h)
  have A := hid (fun W i h => atL hL (w := w) (W := W) (m : Int) i hi (by omega) h)
  have HO := hid ho
  rw [hj] at F
  have BO := Bp.mk2 w m (.slice a L cap) 35
  have hsp : spanD d ≤ 65536 := spn_le hs _
  have HL := hid hL
  clear hi hb hj ho hs hL
  generalize hQ : (fun e w' => ∃ r v', LowD d r ∧ e = Ending.returned (.tuple #[.agg #[.int .i64 (m : Int), v'], .int .i64 (r : Int), .int .i64 0]) ∧ OwnD w' v' (d ++ [(r, s, x)]) ∧ Below w.heap.size w w') = Q
  have HQ := hid hQ
  clear hQ
  go_enter Tryd.func11, Tryd.ntmps11
  go_wp2_with fail
  generalize (w.alloc _).alloc _ = W at *
  refine (C.out _).mono ?_
  rintro e w2 ⟨rfl, hww⟩; subst hww
  have t1 := BO.c1
  have t2 := BO.c2
  have BH := hid BO
  clear BO
  go_wp2_with (go_at_call 35; refine (F.out _ BH.out.lo).mono ?_; rintro e w3 ⟨rfl, hb3⟩; have B3 := BH.out.low hb3; clear t1 t2 hb3; have u1 := B3.c1; have u2 := B3.c2; have HB3 := hid B3; clear B3 BH)
  clear C F u1 u2
  rw [show decide (m ≤ L) = false from decide_eq_false (by omega)]
  go_loopw [9] (fun i wr => ∃ k : Nat, i = .int .i64 k ∧ k ≤ spanD d ∧ Hid (Bp w wr m (.slice a L cap)) ∧ Hid (∀ j : Nat, j < k → atD d j ≠ -1)) (fun i _ => spanD d - (intOf i).toNat)
  case atStart => exact ⟨0, rfl, Nat.zero_le _, HB3, hid (fun j hj => by omega)⟩
  case round =>
    obtain ⟨k, rfl, hk, HB, HN⟩ := hrel
    clear HB3
    have c1 := HB.out.c1
    have c2 := HB.out.c2
    have HK := hid (A.out wr (k : Int) HB.out.lo)
    by_cases hat : atD d (k : Int) = -1
    · rw [hat] at HK
      have LO := hid (show LowD d k from ⟨hat, HN.out⟩)
      clear hat
      rcases own_form HO.out with ⟨e0, h0⟩ | ⟨g, cap', e0, hle, hmx, hg⟩
      · injection e0 with e1 e2 e3
        subst e1 e2 e3
        have hd : d = [] := List.length_eq_zero_iff.1 h0
        have HD := hid hd
        clear h0 hd
        go_wp2_with (first
          | (go_at_call 21
             refine HK.out.mono ?_
             rintro e w4 ⟨rfl, hb4⟩
             have B4 := HB.out.low hb4
             clear c1 c2 hb4 HB
             have d1 := B4.c1
             have d2 := B4.c2
             have d0 := B4.sz
             have d3 := (B4.low (w := w) ((Below.refl _ w4).alloc (Nat.le_refl _) (Obj.cells #[] 52 (0, 0)))).c2
             have HB4 := hid B4
             clear B4)
          | (at_builtin
             refine wpList_append_own_none rfl _ _ 33 rfl w4.heap.size 52 i0 3 Tryd.underlying33 hi0 _ 0 [] rfl (World.ownsRow_made w4 #[] 0 (Nat.le_refl _) (Nat.zero_le _) rfl) rfl ?_
             clear d1 d2 d3
             have b5 : Below w4.heap.size w4 (w4.alloc (Obj.cells #[] 52 (0, 0))) := (Below.refl _ w4).alloc (Nat.le_refl _) _
             have d1 := (HB4.out.low b5).c1
             have HB5 := hid (And.intro b5.size b5)
             have O5 : Hid ((w4.alloc (Obj.cells #[] 52 (0, 0))).ownsRow w4.heap.size 52 3 (.slice (some ⟨w4.heap.size, 0, none⟩) 0 0) (0 + 0) ([] ++ cellsD [])) := hid (World.ownsRow_made w4 #[] 0 (Nat.le_refl _) (Nat.zero_le _) rfl)
             have d5 := b5.size
             clear b5
             generalize w4.alloc (Obj.cells #[] 52 (0, 0)) = w5 at *)
          | (at_builtin
             refine wpList_append_own _ rfl _ _ 33 rfl w4.heap.size 52 i0 (.agg #[.int .i64 0, .string ByteArray.empty, .int .i64 0]) 3 32 Tryd.underlying33 hi0 hz0 hz1 hz2 rfl (by decide) _ _ _ rfl (O5.out.alloc _) ⟨w5.heap.size, 0, none⟩ 1 1 [.int .i64 (k : Int), .string s, .int .i64 x] rfl rfl (cell_three_new _ _ _ _ _) (fun u hu => by simp at hu; rcases hu with rfl | rfl | rfl <;> rfl) (by unfold maxLen; omega) (by omega) (by simp; omega) ?_
             intro v7 w7 hown7 hgrow7 hnil7
             clear hnil7
             have b7 := own_grown HB5.out.1 HB5.out.2 O5.out hgrow7
             obtain ⟨g7, c7, e7⟩ := own_some hown7 (by omega)
             subst e7
             have B7 := HB4.out.low b7
             have q3 := B7.c3
             have q4 := B7.c4
             have q5 := B7.f3
             have q6 := B7.f4
             have q1 := B7.c1
             have L7 := hid B7.lo
             have O7 := hid hown7
             clear B7 hown7 hgrow7 b7))
        (try simp only [Exit.inBlock, Exit.then])
        rw [← HQ.out]
        refine bodyPost_ret (v := .tuple #[.agg #[.int .i64 (m : Int), .slice (some ⟨g7, 0, none⟩) (0 + 0 + 1) c7], .int .i64 (k : Int), .int .i64 0]) ?_ rfl ⟨k, _, LO.out, rfl, ?_, below_set (below_set L7.out _ _ _ (Nat.le_succ _)) _ _ _ (Nat.le_succ _)⟩
        · rw [results_cell_tmp3 rfl]
          go_simp
        · rw [HD.out]
          refine put_rows (o := .int .i64 (m : Int)) (d := []) rfl d0 O7.out
      · injection e0 with e1 e2 e3
        clear e2 hle hmx
        subst e1 e3
        have SRC := hid (fun W (h : Below w.heap.size w W) => (HO.out.low h).cells (g := g) rfl)
        go_wp2_with (first
          | (go_at_call 21
             refine HK.out.mono ?_
             rintro e w4 ⟨rfl, hb4⟩
             have B4 := HB.out.low hb4
             clear c1 c2 hb4 HB
             have d1 := B4.c1
             have d2 := B4.c2
             have d0 := B4.sz
             have d3 := (B4.low (w := w) ((Below.refl _ w4).alloc (Nat.le_refl _) (Obj.cells #[] 52 (0, 0)))).c2
             have SR := hid (SRC.out (w4.alloc (Obj.cells #[] 52 (0, 0))) (B4.lo.alloc (by omega) _))
             have CL := hid (show (cellsD d).length = L * 3 by rw [cellsD_len, HL.out])
             have HB4 := hid B4
             clear B4 SRC)
          | (at_builtin
             refine wpList_append_own _ rfl _ _ 33 rfl w4.heap.size 52 i0 (.agg #[.int .i64 0, .string ByteArray.empty, .int .i64 0]) 3 32 Tryd.underlying33 hi0 hz0 hz1 hz2 rfl (by decide) _ 0 [] rfl (World.ownsRow_made w4 #[] 0 (Nat.le_refl _) (Nat.zero_le _) rfl) ⟨g, 0, none⟩ L cap (cellsD d) rfl CL.out SR.out (cellsD_oneCell d) (by unfold maxLen; omega) (by omega) (by simp) ?_
             intro v5 w5 hown5 hgrow5 hnil5
             clear hnil5 d1 d2 d3
             have b5 : Below w4.heap.size w4 w5 := fresh_grown hgrow5
             have d1 := (HB4.out.low b5).c1
             have HB5 := hid (And.intro b5.size b5)
             have O5 := hid hown5
             have d5 := b5.size
             clear hown5 hgrow5 b5)
          | (at_builtin
             refine wpList_append_own _ rfl _ _ 33 rfl w4.heap.size 52 i0 (.agg #[.int .i64 0, .string ByteArray.empty, .int .i64 0]) 3 32 Tryd.underlying33 hi0 hz0 hz1 hz2 rfl (by decide) _ _ _ rfl (O5.out.alloc _) ⟨w5.heap.size, 0, none⟩ 1 1 [.int .i64 (k : Int), .string s, .int .i64 x] rfl rfl (cell_three_new _ _ _ _ _) (fun u hu => by simp at hu; rcases hu with rfl | rfl | rfl <;> rfl) (by unfold maxLen; omega) (by omega) (by simp; omega) ?_
             intro v7 w7 hown7 hgrow7 hnil7
             clear hnil7
             have b7 := own_grown HB5.out.1 HB5.out.2 O5.out hgrow7
             obtain ⟨g7, c7, e7⟩ := own_some hown7 (by omega)
             subst e7
             have B7 := HB4.out.low b7
             have q3 := B7.c3
             have q4 := B7.c4
             have q5 := B7.f3
             have q6 := B7.f4
             have q1 := B7.c1
             have L7 := hid B7.lo
             have O7 := hid hown7
             clear B7 hown7 hgrow7 b7))
        (try simp only [Exit.inBlock, Exit.then])
        rw [← HQ.out]
        refine bodyPost_ret (v := .tuple #[.agg #[.int .i64 (m : Int), .slice (some ⟨g7, 0, none⟩) (0 + L + 1) c7], .int .i64 (k : Int), .int .i64 0]) ?_ rfl ⟨k, _, LO.out, rfl, ?_, below_set (below_set L7.out _ _ _ (Nat.le_succ _)) _ _ _ (Nat.le_succ _)⟩
        · rw [results_cell_tmp3 rfl]
          go_simp
        · refine put_rows (o := .int .i64 (m : Int)) HL.out d0 O7.out
    · have hge := atD_ge d (k : Int) hat
      have hlt := atD_span hat
      have HN2 := hid (show ∀ j : Nat, j < k + 1 → atD d (j : Int) ≠ -1 from fun j hj => by
        by_cases e : j = k
        · subst e; exact hat
        · exact HN.out j (by omega))
      clear hat HN
      generalize atD d (k : Int) = y at *
      go_wp2_with (go_at_call 21
                   refine HK.out.mono ?_
                   rintro e w4 ⟨rfl, hb4⟩
                   have B4 := hid (HB.out.low hb4)
                   clear c1 c2 hb4 HB)
      exact ⟨⟨k + 1, by go_num, hlt, B4, HN2⟩, by simp [intOf]; omega⟩
end Go.Proofs.YtfkijmmflpnncaaDoor.L
