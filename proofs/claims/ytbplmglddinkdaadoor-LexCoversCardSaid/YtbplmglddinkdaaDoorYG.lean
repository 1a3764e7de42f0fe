import Derived.Test.YtbplmglddinkdaaDoorZC
import Derived.Test.YtbplmglddinkdaaDoorXW
import Derived.Deep.Cut
namespace Go.Proofs.YtbplmglddinkdaaDoor.L
open Go.RowKit Go.Shelf
set_option linter.unusedVariables false
set_option maxHeartbeats 4000000 in
theorem gaponly_any (g : ByteArray) (b r : Bool) (w : World) (hs : g.size ≤ 4096) (h : gapR g 0 g.size false = some r) (hr : r = false ∨ b = true) :
    Calls Tryd.prog 18 #[.string g, .bool b] w fun e w' => e = .returned (.bool true) ∧ w' = w := by
  go_enter Tryd.func18, Tryd.ntmps18
  go_wp2_with fail
  go_loop [5, 6] (fun x i => ∃ (k : Nat) (q : Bool), k ≤ g.size ∧ x = .bool q ∧ i = .int .i64 k ∧ Hid (gapR g k g.size q = some r)) (fun _ i => g.size - (intOf i).toNat)
  case atStart => exact ⟨0, false, Nat.zero_le _, rfl, rfl, hid h⟩
  case round =>
    obtain ⟨k, q, hk, rfl, rfl, HG⟩ := hrel
    by_cases hlt : k < g.size
    · have hc := iv_get g k hlt
      obtain ⟨x, hx⟩ : ∃ x, iv (bt g k) = x := ⟨_, rfl⟩
      rw [hx] at hc
      cases q
      · have hg := HG.out
        rw [gapR_f hlt] at hg
        by_cases c35 : x = 35
        · have i35 : bt g k = 35 := iv_eq (n := 35) hx c35 (by decide)
          rw [if_pos i35] at hg
          have H2 := hid hg
          clear hx i35 hg
          subst c35
          go_wp2
          exact ⟨⟨k + 1, true, by omega, rfl, by go_num, H2⟩, by simp [intOf]; omega⟩
        · have n35 : bt g k ≠ 35 := iv_ne (n := 35) hx c35 (by decide)
          have c35' : (x == 35) = false := by simpa using c35
          rw [if_neg n35] at hg
          split at hg
          · rename_i cb
            have H2 := hid hg
            rw [hx] at cb
            unfold blkB at cb
            simp only [Bool.or_eq_true, beq_iff_eq] at cb
            clear hx n35 hg
            rcases cb with ((e | e) | e) | e <;> subst e <;> go_wp2 <;> exact ⟨⟨k + 1, false, by omega, rfl, by go_num, H2⟩, by simp [intOf]; omega⟩
          · cases hg
      · have hg := HG.out
        rw [gapR_t hlt] at hg
        by_cases c10 : x = 10
        · have i10 : bt g k = 10 := iv_eq (n := 10) hx c10 (by decide)
          rw [i10, show ((10 : UInt8) != 10) = false by decide] at hg
          have H2 := hid hg
          clear hx i10 hg
          subst c10
          go_wp2
          exact ⟨⟨k + 1, false, by omega, rfl, by go_num, H2⟩, by simp [intOf]; omega⟩
        · have n10 : bt g k ≠ 10 := iv_ne (n := 10) hx c10 (by decide)
          have c10' : (x == 10) = false := by simpa using c10
          rw [show (bt g k != 10) = true by simpa using n10] at hg
          have H2 := hid hg
          clear hx n10 hg
          go_wp2
          exact ⟨⟨k + 1, true, by omega, by simp [bne, c10'], by go_num, H2⟩, by simp [intOf]; omega⟩
    · have hg := HG.out
      rw [gapR_end q hlt] at hg
      have := Option.some.inj hg
      subst this
      clear hg
      rcases hr with e | e
      · subst e
        go_wp2
        go_ret
        exact ⟨rfl, rfl⟩
      · subst e
        cases q
        · go_wp2
          go_ret
          exact ⟨rfl, rfl⟩
        · go_wp2
          go_ret
          exact ⟨rfl, rfl⟩
/-- The table on Itoa's road. -/
def TabW (w : World) : Prop := Lib.TabIs Tryd.prog w "internal/strconv.uint64pow10" .u64 Lib.pow10Tab
theorem TabW.low {w w' : World} (h : TabW w) (hb : Below w.heap.size w w') : TabW w' := var_low h hb
theorem below_grow (w : World) (k : Nat) (os : Array Obj) : Below w.heap.size w (Sort.grow (w.drewN k) os) := by
  refine ⟨rfl, rfl, rfl, ?_, fun j hj => ?_⟩
  · show w.heap.size ≤ (w.heap ++ os).size
    simp
  · show (w.heap ++ os)[j]? = _
    rw [Array.getElem?_append_left hj]
theorem itoa_any (n : Int) (t : ByteArray) (h0 : -9223372036854775808 ≤ n) (h1 : n ≤ 9223372036854775807) (w : World) (hv : TabW w) (ht : Lib.itoa n = t.data.toList) : Calls Tryd.prog 19 #[.int .i64 n] w fun e w' => e = .returned (.string t) ∧ Below w.heap.size w w' := by
  refine (show Calls Tryd.prog 19 _ _ _ from Any.strconv_Itoa laysM171 n h0 h1 w hv).mono ?_
  rintro e w' ⟨rfl, k, os, rfl⟩
  refine ⟨?_, below_grow w k os⟩
  rw [ht]
/-- What a token is, by its kind. -/
inductive Knd (s : ByteArray) (t : Tok) : Prop where
  | txt (h : t.kind = 1) (hn : t.num = 0) (l : List UInt8) (hl : t.text = ⟨l.toArray⟩) (hu : unqS (s.extract t.a t.e) = .ok l (t.e - t.a))
  | num (h : t.kind = 2) (ht : t.text = ⟨#[]⟩) (hi : Lib.itoa t.num = (s.extract t.a t.e).data.toList) (h0 : -1000000000000000000 < t.num) (h1 : t.num < 1000000000000000000)
  | wrd (h : t.kind = 3 ∨ t.kind = 4) (hn : t.num = 0) (ht : t.text = s.extract t.a t.e)
theorem knd_of {s : ByteArray} {k : Nat} {t : Tok} (hk : k < s.size) (hs : s.size ≤ 4096) (h : tokS s k = .ok t) : Knd s t := by
  have hin := tok_in hk h
  have hx := ext_sz s k t.e hin.2.2
  have hak := hin.1
  unfold tokS at h
  by_cases c34 : bt s k = 34
  · rw [if_pos c34] at h
    cases hx2 : txS s k (k + 1) [] with
    | bad c a => rw [hx2] at h; exact RR.noConfusion h
    | ok l e =>
      rw [hx2] at h
      have ht := RR.ok.inj h
      subst ht
      have hke : k < e := hin.2.1
      have hes : e ≤ s.size := hin.2.2
      have hx' : (s.extract k e).size = e - k := hx
      clear hx
      have E : Emb s (s.extract k e) k e 0 := by
        refine ⟨by omega, hes, by omega, ?_, Or.inl (bt_out _ _ (by omega))⟩
        intro j hj
        rw [Nat.zero_add]
        exact ext_bt s k e j hj hes
      have := emb_tx E k 0 _ (k + 1) [] l rfl (by omega) hx2
      rw [show 0 + (k + 1 - k) = 1 by omega, show 0 + (e - k) = e - k by omega] at this
      have h0 : bt (s.extract k e) 0 = 34 := by
        have e0 := E.at (Nat.le_refl k) hke
        rw [Nat.sub_self, Nat.add_zero] at e0
        rw [e0]
        exact c34
      refine Knd.txt rfl rfl l rfl ?_
      show unqS (s.extract k e) = .ok l (e - k)
      unfold unqS
      rw [if_neg (by omega), if_neg (by rw [h0]; decide), this]
      simp only []
      rw [if_neg (by omega)]
  · rw [if_neg c34] at h
    by_cases cd : digB (iv (bt s k)) = true ∨ (bt s k = 45 ∧ digB (iv (bt s (k + 1))) = true)
    · rw [if_pos cd] at h
      unfold numTok at h
      cases hn : numS (s.extract k (behW s (k + 1))) with
      | none => rw [hn] at h; exact RR.noConfusion h
      | some n =>
        rw [hn] at h
        have ht := RR.ok.inj h
        subst ht
        have := numS_itoa hn
        exact Knd.num rfl rfl this.1 this.2.1 this.2.2
    · rw [if_neg cd] at h
      split at h
      · have ht := RR.ok.inj h
        subst ht
        exact Knd.wrd (Or.inl rfl) rfl rfl
      · unfold markS at h
        split at h
        · have ht := RR.ok.inj h
          subst ht
          exact Knd.wrd (Or.inr rfl) rfl rfl
        · split at h
          · have ht := RR.ok.inj h
            subst ht
            exact Knd.wrd (Or.inr rfl) rfl rfl
          · exact RR.noConfusion h
end Go.Proofs.YtbplmglddinkdaaDoor.L
