import Derived.Test.YtodamoblnlcodaaDoorPar
namespace Go.Proofs.YtodamoblnlcodaaDoor.L
open Go.RowKit
set_option linter.unusedVariables false
/-- What the items give: the labels so far, the place. -/
def pr : List ByteArray → List Lb → Nat → List Lb × Int × Int
  | [], done, _ => (done, 0, 0)
  | x :: xs, done, p => if done.length = 32 then ([], p, 34) else if itE x = 0 then (if (getN done (itK x)).2 = true then ([], p, 33) else pr xs (done ++ [(itK x, itV x)]) (p + x.size + 1)) else ([], p, itE x)
def parseN (t : ByteArray) : List Lb × Int × Int := if 8192 < t.size then ([], 0, 39) else if t.size = 0 then ([], 0, 0) else pr (pieces t 44) [] 0
set_option maxHeartbeats 4000000 in
theorem parse_long (t : ByteArray) (w : World) (hs : t.size ≤ maxLen) (h : 8192 < t.size) : Calls Tryd.prog 12 #[.string t] w fun e w' => e = .returned (.tuple #[.slice none 0 0, .int .i64 0, .int .i64 39]) ∧ w' = w := by
  unfold maxLen at hs
  have g : (8192 : Int) < (t.size : Int) := by omega
  go_enter Tryd.func12, Tryd.ntmps12
  go_wp2
  go_ret3
  exact ⟨rfl, rfl⟩
set_option maxHeartbeats 4000000 in
theorem parse_none (t : ByteArray) (w : World) (h : t.size = 0) : Calls Tryd.prog 12 #[.string t] w fun e w' => e = .returned (.tuple #[.slice none 0 0, .int .i64 0, .int .i64 0]) ∧ w' = w := by
  have hE := empty_yes h
  have g : ¬ (8192 : Int) < (t.size : Int) := by omega
  go_enter Tryd.func12, Tryd.ntmps12
  go_wp2
  go_ret3
  exact ⟨rfl, rfl⟩
theorem own_slice {w : World} {base : Nat} {v : Value} {l : List Lb} (h : Own w base v l) : ∃ a cap, v = .slice a l.length cap := by
  obtain ⟨a, cap, e, _⟩ := own_items h
  exact ⟨a, cap, e⟩
theorem itE_cases (x : ByteArray) : itE x = 0 ∨ itE x = 35 ∨ itE x = 31 ∨ itE x = 32 := by
  unfold itE
  split
  · exact Or.inr (Or.inl rfl)
  · rcases labE_cases (itK x) (itV x) with h | h | h
    · exact Or.inl h
    · exact Or.inr (Or.inr (Or.inl h))
    · exact Or.inr (Or.inr (Or.inr h))
set_option maxHeartbeats 8000000 in
set_option maxRecDepth 100000 in
theorem parse_some (t : ByteArray) (w : World) (h0 : t.size ≠ 0) (h : t.size ≤ 8192) : Calls Tryd.prog 12 #[.string t] w fun e w' => ∃ v' l', e = .returned (.tuple #[v', .int .i64 (parseN t).2.1, .int .i64 (parseN t).2.2]) ∧ Below w.heap.size w w' ∧ (((parseN t).2.2 ≠ 0 ∧ v' = .slice none 0 0) ∨ ((parseN t).2.2 = 0 ∧ Came w' v' l' ∧ Sorted (parseN t).1 l')) := by
  obtain ⟨i0, hi0, hz0, hz1, hz2⟩ := info_parts infoL
  have hE := empty_no h0
  have g : ¬ (8192 : Int) < (t.size : Int) := by omega
  have HR := hid (show parseN t = pr ((pieces t 44).drop 0) [] 0 by unfold parseN; rw [if_neg (by omega), if_neg h0]; rfl)
  have HS := hid (split_any t 44 w (by omega))
  have hpl := pieces_len t 44
  have hpc := pieces_count t 44
  have HP := hid (show ∀ x ∈ pieces t 44, x.size ≤ 8192 from fun x hx => Nat.le_trans (piece_small t 44 x hx) h)
  generalize hps : pieces t 44 = ps at *
  generalize parseN t = R at *
  obtain ⟨len, hlen⟩ : ∃ n, n = ps.length := ⟨_, rfl⟩
  have HLEN := hid hlen
  rw [← hlen] at HS hpl
  have hl : len ≤ 8193 := by omega
  clear hps hpl hpc hlen
  go_enter Tryd.func12, Tryd.ntmps12
  go_wp2_with fail
  refine HS.out.mono ?_
  rintro e w1 ⟨rfl, rfl⟩
  have HB := hid (belowA w (.cells (ps.map Value.string).toArray 9))
  have hcell : ∀ k, (hk : k < ps.length) → (w.alloc (.cells (ps.map Value.string).toArray 9)).cell? ⟨w.heap.size, k, none⟩ = some (.string ps[k]) := by
    intro k hk
    unfold World.cell?
    have h : (w.alloc (.cells (ps.map Value.string).toArray 9)).heap[w.heap.size]? = some (.cells (ps.map Value.string).toArray 9) := by
      show (w.heap.push _)[w.heap.size]? = _
      simp
    rw [h]
    simp [hk]
  have hsz : w.heap.size < (w.alloc (.cells (ps.map Value.string).toArray 9)).heap.size := by
    show w.heap.size < (w.heap.push _).size
    simp
  have HCELL := hid hcell
  generalize w.alloc (.cells (ps.map Value.string).toArray 9) = W1 at *
  clear hcell HS
  go_wp2_with fail
  go_loopw [5, 6, 19] (fun lv at_ i wr => ∃ (k p : Nat) (done : List Lb), k ≤ len ∧ at_ = .int .i64 p ∧ i = .int .i64 k ∧ Hid (done.length = k) ∧ k ≤ 32 ∧ p ≤ k * 8193 ∧ Hid (Below w.heap.size w wr) ∧ Hid (Below W1.heap.size W1 wr) ∧ Hid (Own wr W1.heap.size lv done) ∧ Hid (R = pr (ps.drop k) done p) ∧ Hid (∀ x ∈ done, x.1.size ≤ 8192 ∧ x.2.size ≤ 8192)) (fun _ _ i _ => len - (intOf i).toNat)
  case atStart => exact ⟨0, 0, [], Nat.zero_le _, rfl, rfl, hid rfl, by omega, by omega, HB, hid (Below.refl _ _), hid (World.ownsRow_nil _ _ _ _), HR, hid (fun x hx => by simp at hx)⟩
  case round =>
    obtain ⟨k, p, done, hk, rfl, rfl, DL, hk32, hp, HBr, HB1, OW, HK, DS⟩ := hrel
    by_cases hlt : k < len
    · have hkp : k < ps.length := by rw [← HLEN.out]; exact hlt
      have c0 := HCELL.out k hkp
      rw [← HB1.out.cell (p := ⟨w.heap.size, k, none⟩) hsz] at c0
      have hszr : w.heap.size < wr.heap.size := Nat.lt_of_lt_of_le hsz HB1.out.size
      have hx8 := HP.out ps[k] (List.getElem_mem hkp)
      have st := HK.out
      rw [List.drop_eq_getElem_cons hkp] at st
      generalize ps[k] = x at *
      obtain ⟨a, cap, rfl⟩ := own_slice OW.out
      simp only [pr] at st
      have dl := DL.out
      rw [dl] at OW ⊢
      by_cases h32 : k = 32
      · rw [if_pos (by omega)] at st
        have HF := hid st
        have h32' : ((k : Int) == 32) = true := by simp; omega
        clear st dl h32
        go_wp2_with fail
        go_ret3
        exact ⟨_, [], by rw [HF.out]; rfl, HBr.out, Or.inl ⟨by rw [HF.out]; simp, rfl⟩⟩
      · rw [if_neg (by omega)] at st
        have h32' : ((k : Int) == 32) = false := by simp; omega
        have HI := hid (fun W => item_any x W (by unfold maxLen; omega))
        have hz := it_size x
        have HH := hid (fun W v (ho : Own W W1.heap.size v done) => has_any v done (itK x) W (own_items ho) (by unfold maxLen; omega) (by unfold maxLen; omega))
        rcases itE_cases x with e1 | e1 | e1 | e1
        · rw [if_pos e1] at st
          rw [e1] at HI
          cases e2 : (getN done (itK x)).2
          · rw [if_neg (show ¬ (getN done (itK x)).2 = true by rw [e2]; decide)] at st
            rw [e2] at HH
            have HF := hid st
            generalize itK x = key at *
            generalize itV x = val at *
            clear st e1 e2 dl
            go_wp2_with fail
            refine (HI.out _).mono ?_
            rintro e w2 ⟨rfl, hb⟩
            have B2 := hid (HBr.out.trans (hb.mono HBr.out.size))
            have O2 := hid (own_low OW.out hb)
            have D2 := hid (HB1.out.trans (hb.mono HB1.out.size))
            clear hb OW
            go_wp2_with fail
            refine (HH.out _ _ (own_low O2.out (belowA w2 _))).mono ?_
            rintro e w3 ⟨rfl, hb⟩
            have hx0 : w3.cell? ⟨w2.heap.size, 0, none⟩ = some (.string key) := by
              rw [hb.cell (p := ⟨w2.heap.size, 0, none⟩) (by simp)]
              simp
            have hx1 : w3.cell? ⟨w2.heap.size, 1, none⟩ = some (.string val) := by
              rw [hb.cell (p := ⟨w2.heap.size, 1, none⟩) (by simp)]
              simp
            have B3 := hid ((B2.out.alloc B2.out.size _).trans (hb.mono (B2.out.alloc B2.out.size _).size))
            have D3 := hid ((D2.out.alloc D2.out.size _).trans (hb.mono (D2.out.alloc D2.out.size _).size))
            have O3 := hid (own_low (own_low O2.out (belowA w2 _)) hb)
            clear hb
            have hws : W1.heap.size ≤ w3.heap.size := D3.out.size
            go_wp2_with (first
              | (at_builtin; refine wpList_append_own _ rfl _ _ 22 rfl W1.heap.size 27 i0 (.agg #[.string ByteArray.empty, .string ByteArray.empty]) 2 32 Tryd.underlying22 hi0 hz0 hz1 hz2 rfl (by decide) _ _ _ rfl (World.ownsRow.alloc (show w3.ownsRow W1.heap.size 27 2 (.slice a k cap) k (cellsF done) from by have := O3.out; unfold Own at this; rw [DL.out] at this; exact this) _) ⟨w3.heap.size, 0, none⟩ 1 1 [.string key, .string val] rfl rfl (cell_two_at _ _ _ _ _ (by simp)) (fun x hx => by simp at hx; rcases hx with rfl | rfl <;> rfl) (by unfold maxLen; omega) (by omega) (by simp; omega) ?_; intro v' w4 hown' hgrow4 hnil4)
              | go_in)
            clear hnil4
            have D4 : Below W1.heap.size W1 w4 := (D3.out.alloc hws _).grown hgrow4 (by simp; omega) (fun j hj => own_base O3.out j hj)
            have B4 : Below w.heap.size w w4 := HB.out.trans (D4.mono HB.out.size)
            refine ⟨⟨k + 1, p + x.size + 1, done ++ [(key, val)], by omega, by go_num, by go_num, hid (by simp [DL.out]), by omega, by omega, hid B4, hid D4, hid (own_snoc (x := (key, val)) (by rw [DL.out]; exact hown')), HF, hid ?_⟩, by simp [intOf]; omega⟩
            intro y hy
            rcases List.mem_append.1 hy with hy | hy
            · exact DS.out y hy
            · rw [List.mem_singleton.1 hy]
              show key.size ≤ 8192 ∧ val.size ≤ 8192
              exact ⟨by omega, by omega⟩
          · rw [if_pos e2] at st
            rw [e2] at HH
            have HF := hid st
            generalize itK x = key at *
            generalize itV x = val at *
            clear st e1 e2 dl
            go_wp2_with fail
            refine (HI.out _).mono ?_
            rintro e w2 ⟨rfl, hb⟩
            have B2 := hid (HBr.out.trans (hb.mono HBr.out.size))
            have O2 := hid (own_low OW.out hb)
            have D2 := hid (HB1.out.trans (hb.mono HB1.out.size))
            clear hb OW
            go_wp2_with fail
            refine (HH.out _ _ (own_low O2.out (belowA w2 _))).mono ?_
            rintro e w3 ⟨rfl, hb⟩
            have hx0 : w3.cell? ⟨w2.heap.size, 0, none⟩ = some (.string key) := by
              rw [hb.cell (p := ⟨w2.heap.size, 0, none⟩) (by simp)]
              simp
            have hx1 : w3.cell? ⟨w2.heap.size, 1, none⟩ = some (.string val) := by
              rw [hb.cell (p := ⟨w2.heap.size, 1, none⟩) (by simp)]
              simp
            have B3 := hid ((B2.out.alloc B2.out.size _).trans (hb.mono (B2.out.alloc B2.out.size _).size))
            have D3 := hid ((D2.out.alloc D2.out.size _).trans (hb.mono (D2.out.alloc D2.out.size _).size))
            have O3 := hid (own_low (own_low O2.out (belowA w2 _)) hb)
            clear hb
            go_wp2_with fail
            go_ret3
            exact ⟨_, [], by rw [HF.out]; rfl, B3.out, Or.inl ⟨by rw [HF.out]; simp, rfl⟩⟩
        · rw [if_neg (by rw [e1]; decide), e1] at st
          rw [e1] at HI
          have HF := hid st
          generalize itK x = key at *
          generalize itV x = val at *
          clear st e1 dl
          go_wp2_with fail
          refine (HI.out _).mono ?_
          rintro e w2 ⟨rfl, hb⟩
          have B2 := hid (HBr.out.trans (hb.mono HBr.out.size))
          have O2 := hid (own_low OW.out hb)
          have D2 := hid (HB1.out.trans (hb.mono HB1.out.size))
          clear hb OW
          go_wp2_with fail
          go_ret3
          exact ⟨_, [], by rw [HF.out]; rfl, B2.out.alloc B2.out.size _, Or.inl ⟨by rw [HF.out]; simp, rfl⟩⟩
        · rw [if_neg (by rw [e1]; decide), e1] at st
          rw [e1] at HI
          have HF := hid st
          generalize itK x = key at *
          generalize itV x = val at *
          clear st e1 dl
          go_wp2_with fail
          refine (HI.out _).mono ?_
          rintro e w2 ⟨rfl, hb⟩
          have B2 := hid (HBr.out.trans (hb.mono HBr.out.size))
          have O2 := hid (own_low OW.out hb)
          have D2 := hid (HB1.out.trans (hb.mono HB1.out.size))
          clear hb OW
          go_wp2_with fail
          go_ret3
          exact ⟨_, [], by rw [HF.out]; rfl, B2.out.alloc B2.out.size _, Or.inl ⟨by rw [HF.out]; simp, rfl⟩⟩
        · rw [if_neg (by rw [e1]; decide), e1] at st
          rw [e1] at HI
          have HF := hid st
          generalize itK x = key at *
          generalize itV x = val at *
          clear st e1 dl
          go_wp2_with fail
          refine (HI.out _).mono ?_
          rintro e w2 ⟨rfl, hb⟩
          have B2 := hid (HBr.out.trans (hb.mono HBr.out.size))
          have O2 := hid (own_low OW.out hb)
          have D2 := hid (HB1.out.trans (hb.mono HB1.out.size))
          clear hb OW
          go_wp2_with fail
          go_ret3
          exact ⟨_, [], by rw [HF.out]; rfl, B2.out.alloc B2.out.size _, Or.inl ⟨by rw [HF.out]; simp, rfl⟩⟩
    · obtain rfl : k = len := by omega
      have HF := hid (show R = (done, 0, 0) by rw [HK.out, HLEN.out, List.drop_length]; rfl)
      have gd : Good done := ⟨⟨by rw [DL.out]; unfold maxLen; omega, by rw [DL.out]; omega⟩, fun x hx => by have := DS.out x hx; unfold maxLen; omega⟩
      have HSR := hid (sorted_any _ done wr (own_came OW.out) gd)
      clear gd
      go_wp2_with fail
      refine HSR.out.mono ?_
      rintro e w2 ⟨v', l', rfl, hcm, hst, hb⟩
      have RR := hid (show Came w2 v' l' ∧ Sorted done l' ∧ Below w.heap.size w w2 from ⟨hcm, hst, HBr.out.trans (hb.mono HBr.out.size)⟩)
      clear hcm hst hb
      go_wp2_with fail
      go_ret3
      exact ⟨_, l', by rw [HF.out]; rfl, RR.out.2.2, Or.inr ⟨by rw [HF.out], RR.out.1, by rw [HF.out]; exact RR.out.2.1⟩⟩
theorem parse_any (t : ByteArray) (w : World) (hs : t.size ≤ maxLen) : Calls Tryd.prog 12 #[.string t] w fun e w' => ∃ v' l', e = .returned (.tuple #[v', .int .i64 (parseN t).2.1, .int .i64 (parseN t).2.2]) ∧ Below w.heap.size w w' ∧ (((parseN t).2.2 ≠ 0 ∧ v' = .slice none 0 0) ∨ ((parseN t).2.2 = 0 ∧ Came w' v' l' ∧ Sorted (parseN t).1 l')) := by
  by_cases h : 8192 < t.size
  · refine (parse_long t w hs h).mono ?_
    rintro e w' ⟨rfl, rfl⟩
    have e : parseN t = ([], 0, 39) := by unfold parseN; rw [if_pos h]
    rw [e]
    exact ⟨_, [], rfl, Below.refl _ _, Or.inl ⟨by decide, rfl⟩⟩
  · by_cases h0 : t.size = 0
    · refine (parse_none t w h0).mono ?_
      rintro e w' ⟨rfl, rfl⟩
      have e : parseN t = ([], 0, 0) := by unfold parseN; rw [if_neg h, if_pos h0]
      rw [e]
      exact ⟨_, [], rfl, Below.refl _ _, Or.inr ⟨rfl, Or.inl ⟨rfl, rfl⟩, List.Perm.refl _, List.Pairwise.nil⟩⟩
    · exact parse_some t w h0 (by omega)
end Go.Proofs.YtodamoblnlcodaaDoor.L
