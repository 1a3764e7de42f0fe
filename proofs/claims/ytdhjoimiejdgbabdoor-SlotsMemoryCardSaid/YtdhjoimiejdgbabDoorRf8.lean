import Derived.Test.YtdhjoimiejdgbabDoorRf7
namespace Go.Proofs.YtdhjoimiejdgbabDoor.L
open Go.RowKit Bs Go.Maps
set_option linter.unusedVariables false
/-- One box: the table that was handed in. -/
structure Bq (w W : World) (m : Int) (v : Value) : Prop where
  c1 : W.cell? ⟨w.heap.size, 0, none⟩ = some (.int .i64 m)
  c2 : W.cell? ⟨w.heap.size, 1, none⟩ = some v
  sz : w.heap.size < W.heap.size
  lo : Below w.heap.size w W
theorem Bq.mk1 (w : World) (m : Int) (v : Value) (t : TypeId) : Bq w (w.alloc (.cells #[.int .i64 m, v] t)) m v := by
  have h2 : (w.alloc (.cells #[.int .i64 m, v] t)).heap[w.heap.size]? = some (.cells #[.int .i64 m, v] t) := heap_alloc_new w _
  refine ⟨?_, ?_, by simp, (Below.refl _ w).alloc (Nat.le_refl _) _⟩
  · unfold World.cell?; rw [h2]; rfl
  · unfold World.cell?; rw [h2]; rfl
theorem Bq.low {w W W' : World} {m : Int} {v : Value} (h : Bq w W m v) (hb : Below W.heap.size W W') : Bq w W' m v := by
  obtain ⟨a1, a2, a7, a8⟩ := h
  refine ⟨?_, ?_, Nat.lt_of_lt_of_le a7 hb.size, a8.trans (hb.mono (Nat.le_of_lt a7))⟩
  · exact (hb.cell (p := ⟨w.heap.size, 0, none⟩) a7).trans a1
  · exact (hb.cell (p := ⟨w.heap.size, 1, none⟩) a7).trans a2
theorem own_low {w w' : World} {base : Nat} {e : TypeId} {size n : Nat} {v : Value} {xs : List Value} (h : w.ownsRow base e size v n xs) (hb : Below w.heap.size w w') : w'.ownsRow base e size v n xs := own_stays h (fun g hg => hb.block g (h.lt g hg).2)
theorem own_mono {W : World} {base base' : Nat} {e : TypeId} {size : Nat} {v : Value} {k : Nat} {xs : List Value} (h : W.ownsRow base e size v k xs) (hb : base' ≤ base) : W.ownsRow base' e size v k xs := by
  obtain ⟨h1, h2⟩ := h
  refine ⟨h1, ?_⟩
  rcases h2 with h2 | ⟨g, cap, cur, rfl, hg, r⟩
  · exact Or.inl h2
  · exact Or.inr ⟨g, cap, cur, rfl, Nat.le_trans hb hg, r⟩
theorem spanL {w W : World} {a : Option Addr} {cap L : Nat} {d : List Dr} (hL : L = d.length) (m : Int) (hi : ItD w a cap d) (hl : L ≤ 65536) (hs : ∀ k, ds d k < 65536) (h : Below w.heap.size w W) :
    Calls Tryd.prog 31 #[.agg #[.int .i64 m, .slice a L cap]] W fun e w' => e = .returned (.int .i64 (spanD d : Int)) ∧ Below W.heap.size W w' := by
  subst hL; exact rspan_any m _ d W (hi.low h (Nat.le_refl _)) hl hs
/-- The rows by their slots, as far as slot k. -/
def bsD (d : List Dr) : Nat → List Dr
  | 0 => []
  | k + 1 => bsD d k ++ (if atD d (k : Int) = -1 then [] else [(ds d (atD d (k : Int)).toNat, dn d (atD d (k : Int)).toNat, dl d (atD d (k : Int)).toNat)])
theorem bsD_len (d : List Dr) : ∀ k, (bsD d k).length ≤ k
  | 0 => Nat.le_refl _
  | k + 1 => by
    rw [bsD, List.length_append]
    have := bsD_len d k
    split <;> simp <;> omega
set_option maxHeartbeats 8000000 in
set_option maxRecDepth 100000 in
theorem rbyslotL (m : Int) (a : Option Addr) (cap L : Nat) (d : List Dr) (hL : L = d.length) (w : World) (ho : OwnD w (.slice a L cap) d) (hl : L ≤ 65536) (hs : ∀ k, ds d k < 65536) : Calls Tryd.prog 34 #[.agg #[.int .i64 m, .slice a L cap]] w fun e w' => ∃ v', e = .returned v' ∧ w'.ownsRow w.heap.size 77 3 v' (bsD d (spanD d)).length (cellsD (bsD d (spanD d))) ∧ Below w.heap.size w w' := by
  obtain ⟨i0, hi0, hz0, hz1, hz2⟩ := info_parts infoD
  have hi : ItD w a cap d := own_itemsD (by rw [← hL]; exact ho)
  have A := hid (fun W i h => atL hL (w := w) (W := W) m i hi (by omega) h)
  have S := hid (fun W h => spanL hL (w := w) (W := W) m hi (by omega) hs h)
  have HO := hid ho
  have BO := Bq.mk1 w m (.slice a L cap) 49
  have hsp : spanD d ≤ 65536 := spn_le hs _
  have HL := hid hL
  have BL := hid (bsD_len d)
  clear hi ho hs hL
  generalize hQ : (fun e w' => ∃ v', e = Ending.returned v' ∧ w'.ownsRow w.heap.size 77 3 v' (bsD d (spanD d)).length (cellsD (bsD d (spanD d))) ∧ Below w.heap.size w w') = Q
  have HQ := hid hQ
  clear hQ
  obtain ⟨sp, hsp2⟩ : ∃ n, n = spanD d := ⟨_, rfl⟩
  rw [← hsp2] at hsp S HQ
  clear hsp2
  go_enter Tryd.func34, Tryd.ntmps34
  go_wp2_with fail
  have hze : (w.alloc (.cells #[.int .i64 m, .slice a L cap] 49)).heap.size = w.heap.size + 1 := World.size_alloc _ _
  generalize w.alloc (.cells #[.int .i64 m, .slice a L cap] _) = w1 at *
  have HZE := hid hze
  clear hze
  have b0 : Below w1.heap.size w1 (w1.alloc (Obj.cells #[] 77 (0, 0))) := (Below.refl _ w1).alloc (Nat.le_refl _) _
  have BH := hid (BO.low b0)
  have OL : Hid (Below w1.heap.size w1 (w1.alloc (Obj.cells #[] 77 (0, 0))) ∧ (w1.alloc (Obj.cells #[] 77 (0, 0))).ownsRow w1.heap.size 77 3 (.slice (some ⟨w1.heap.size, 0, none⟩) 0 0) (bsD d 0).length (cellsD (bsD d 0))) := hid ⟨b0, World.ownsRow_made w1 #[] 0 (Nat.le_refl _) (Nat.zero_le _) rfl⟩
  have hw1 := BO.sz
  have HB1 := hid BO
  clear b0 BO
  go_loopw [3, 4] (fun v i wr => ∃ k : Nat, k ≤ sp ∧ i = .int .i64 k ∧ Hid (Bq w wr m (.slice a L cap)) ∧ Hid (Below w1.heap.size w1 wr ∧ wr.ownsRow w1.heap.size 77 3 v (bsD d k).length (cellsD (bsD d k)))) (fun _ i _ => sp - (intOf i).toNat)
  case atStart => exact ⟨0, Nat.zero_le _, rfl, BH, by rw [← HZE.out]; exact OL⟩
  case round =>
    clear BH OL
    obtain ⟨k, hk, rfl, HB, HR⟩ := hrel
    have c1 := HB.out.c1
    have c2 := HB.out.c2
    have st : bsD d (k + 1) = bsD d k ++ (if atD d (k : Int) = -1 then [] else [(ds d (atD d (k : Int)).toNat, dn d (atD d (k : Int)).toNat, dl d (atD d (k : Int)).toNat)]) := rfl
    by_cases hlt : k < sp
    · rcases atD_cases d (k : Int) with ⟨hat, _⟩ | ⟨j, hat, hj, hjs⟩
      · have HK := hid (fun W h => A.out W (k : Int) h)
        rw [hat] at HK
        rw [if_pos hat, List.append_nil] at st
        have ST := hid st
        clear st hat
        go_wp2_with (first
          | (go_at_call 31
             refine (S.out _ HB.out.lo).mono ?_
             rintro e w4 ⟨rfl, hb4⟩
             have HB4 := hid (HB.out.low hb4)
             have HR4 := hid (And.intro (HR.out.1.trans (hb4.mono HR.out.1.size)) (own_low HR.out.2 hb4))
             clear c1 c2 HB HR hb4
             have c1 := HB4.out.c1
             have c2 := HB4.out.c2)
          | (go_at_call 30
             refine (HK.out _ HB4.out.lo).mono ?_
             rintro e w5 ⟨rfl, hb5⟩
             have HB := hid (HB4.out.low hb5)
             have HR := hid (And.intro (HR4.out.1.trans (hb5.mono HR4.out.1.size)) (own_low HR4.out.2 hb5))
             clear c1 c2 HB4 HR4 hb5
             have c1 := HB.out.c1
             have c2 := HB.out.c2))
        exact ⟨⟨k + 1, by omega, by go_num, HB, hid ⟨HR.out.1, by rw [ST.out]; exact HR.out.2⟩⟩, by simp [intOf]; omega⟩
      · have HK := hid (fun W h => A.out W (k : Int) h)
        rw [hat] at HK
        rw [if_neg (by omega), hat, Int.toNat_natCast] at st
        have ST := hid st
        have hjl : j < L := by rw [HL.out]; exact hj
        have LE := BL.out k
        clear st hat hj hjs
        rcases own_form HO.out with ⟨e0, h0⟩ | ⟨g, cap', e0, hle, hmx, hg⟩
        · have := HL.out; omega
        injection e0 with e1 e2 e3
        clear e2 hle hmx
        subst e1 e3
        have SRC := hid (fun W (h : Below w.heap.size w W) => rowsD HL.out (HO.out.low h))
        generalize hn : (bsD d k).length = n at *
        have HN := hid hn
        clear hn
        go_wp2_with (first
          | (go_at_call 31
             refine (S.out _ HB.out.lo).mono ?_
             rintro e w4 ⟨rfl, hb4⟩
             have HB4 := hid (HB.out.low hb4)
             have HR4 := hid (And.intro (HR.out.1.trans (hb4.mono HR.out.1.size)) (own_low HR.out.2 hb4))
             clear c1 c2 HB HR hb4
             have c1 := HB4.out.c1
             have c2 := HB4.out.c2)
          | (go_at_call 30
             refine (HK.out _ HB4.out.lo).mono ?_
             rintro e w5 ⟨rfl, hb5⟩
             have HB := hid (HB4.out.low hb5)
             have HR := hid (And.intro (HR4.out.1.trans (hb5.mono HR4.out.1.size)) (own_low HR4.out.2 hb5))
             clear c1 c2 HB4 HR4 hb5
             have c1 := HB.out.c1
             have c2 := HB.out.c2
             obtain ⟨r0, r1, r2⟩ := SRC.out w5 HB.out.lo j hjl
             have hsz := HR.out.1.size)
          | (at_builtin
             refine wpList_append_own _ rfl _ _ 47 rfl w1.heap.size 77 i0 (.agg #[.int .i64 0, .string ByteArray.empty, .int .i64 0]) 3 32 Tryd.underlying47 hi0 hz0 hz1 hz2 rfl (by decide) _ _ _ rfl (HR.out.2.alloc _) ⟨w5.heap.size, 0, none⟩ 1 1 [.int .i64 (ds d j : Int), .string (dn d j), .int .i64 (dl d j)] rfl rfl (cell_three_new _ _ _ _ _) (fun u hu => by simp at hu; rcases hu with rfl | rfl | rfl <;> rfl) (by unfold maxLen; omega) (by omega) (by simp; omega) ?_
             intro v7 w7 hown7 hgrow7 hnil7
             clear hnil7))
        have b7 := own_grown hsz HR.out.1 HR.out.2 hgrow7
        exact ⟨⟨k + 1, by omega, by go_num, hid (HB1.out.low b7), hid ⟨b7, by rw [ST.out, List.length_append, cellsD_app, HN.out]; exact hown7⟩⟩, by simp [intOf]; omega⟩
    · obtain rfl : k = sp := by omega
      clear st
      go_wp2_with (go_at_call 31
                   refine (S.out _ HB.out.lo).mono ?_
                   rintro e w4 ⟨rfl, hb4⟩
                   have HB4 := hid (HB.out.low hb4)
                   have HR4 := hid (And.intro (HR.out.1.trans (hb4.mono HR.out.1.size)) (own_low HR.out.2 hb4))
                   clear c1 c2 HB HR hb4)
      rw [← HQ.out]
      exact ⟨_, rfl, own_mono HR4.out.2 (Nat.le_of_lt hw1), HB4.out.lo⟩
end Go.Proofs.YtdhjoimiejdgbabDoor.L
