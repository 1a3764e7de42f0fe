import Derived.Test.YtiddnjjaidiohaaGreatDoorHA
namespace Go.Proofs.YtiddnjjaidiohaaGreatDoor.L
open Go.RowKit
set_option linter.unusedVariables false
theorem inn_sm {T : List Pt} {L i : Nat} : ∀ (ks n : List Int), (∀ x, x ∈ ks → 0 ≤ x ∧ x < i) → i < n.length → Sm L n → Sm L (inn T i ks n)
  | [], n, _, _, h => h
  | x :: ks, n, hx, hi, h => by
    rw [inn_cons]
    have h0 := hx x (List.mem_cons_self ..)
    have hb := btw_le (pt T i).kind (pt T x.toNat).kind
    have hi0 := h i hi
    exact inn_sm ks _ (fun y hy => hx y (List.mem_cons_of_mem _ hy)) (by rw [List.length_set]; exact hi) (h.set hi (by omega) (by omega))
theorem nsts_sm {T : List Pt} {L : Nat} : ∀ (i : Nat) (n : List Int), i ≤ n.length → (∀ j, j < i → OkA T j) → Sm L n → Sm L (nsts T i n)
  | 0, n, _, _, h => h
  | i + 1, n, hi, hok, h => by
    rw [nsts]
    exact nsts_sm i _ (by rw [inn_len]; omega) (fun j hj => hok j (by omega)) (inn_sm _ _ (fun x hx => (hok i (by omega)).lt hx) (by omega) h)
theorem nests_sm {T : List Pt} (hok : Ok0 T) : Sm T.length (nests T) := by
  unfold nests
  refine nsts_sm _ _ (by simp) hok (fun j hj => ?_)
  have : (List.replicate T.length (0 : Int)).getD j 0 = 0 := by
    rw [List.getD_eq_getElem?_getD]
    by_cases h : j < T.length
    · simp [h]
    · simp [h]
  rw [this]
  rw [List.length_replicate] at hj
  omega
/-- The greatest nest. -/
def NestR (T : List Pt) (v : Int) : Prop := (∀ j, j < T.length → (nests T).getD j 0 ≤ v) ∧ ∃ j, j < T.length ∧ (nests T).getD j 0 = v
theorem NestR.one {T : List Pt} {u v : Int} (h : NestR T u) (k : NestR T v) : u = v := by
  obtain ⟨h1, i, hi, rfl⟩ := h
  obtain ⟨k1, j, hj, rfl⟩ := k
  have a := h1 j hj
  have b := k1 i hi
  omega
theorem FrmR.res {T : List Pt} {c i : Int} (h : FrmR T c i) (h0 : c ≠ 0) : ∃ a : Nat, c = 130 ∧ i = a ∧ Res T 130 a := by
  rcases h with ⟨h1, rfl, rfl⟩ | ⟨h1, rfl, rfl⟩ | ⟨h1, h2, ⟨j, rfl, hb, rfl⟩ | ⟨ho, hl, rfl, rfl⟩ | ⟨ho, hl, rfl, rfl⟩⟩
  · exact ⟨0, rfl, rfl, .inl ⟨h1, rfl, rfl⟩⟩
  · exact ⟨1000, rfl, rfl, .inr (.inl ⟨h1, rfl, rfl⟩)⟩
  · exact ⟨j, rfl, rfl, .inr (.inr ⟨h1, h2, .inl ⟨hb, rfl⟩⟩)⟩
  · exact ⟨T.length - 1, rfl, rfl, .inr (.inr ⟨h1, h2, .inr (.inl ⟨ho, hl, rfl, rfl⟩)⟩)⟩
  · exact absurd rfl h0
theorem FrmR.ok {T : List Pt} {i : Int} (h : FrmR T 0 i) : 1 ≤ T.length ∧ T.length ≤ 1000 ∧ Ok0 T ∧ ¬ Lst T := by
  rcases h with ⟨h1, e, _⟩ | ⟨h1, e, _⟩ | ⟨h1, h2, ⟨j, _, hb, e⟩ | ⟨ho, hl, e, _⟩ | ⟨ho, hl, _, _⟩⟩
  · cases e
  · cases e
  · cases e
  · cases e
  · exact ⟨h1, h2, ho, hl⟩
set_option maxHeartbeats 16000000 in
set_option maxRecDepth 100000 in
theorem rvalid_any (a : Option Addr) (T : List Pt) (cap : Nat) (w : World) (hT : PL w a T) (hG : GdT T) :
    Calls Tryz.prog 22 #[.agg #[.slice a T.length cap]] w fun e w' => ∃ c i : Nat, e = .returned (.tuple #[.int .i64 (c : Int), .int .i64 (i : Int)]) ∧ Res T c i ∧ Below w.heap.size w w' := by
  obtain ⟨L, hLe⟩ : ∃ L, L = T.length := ⟨_, rfl⟩
  have HT := hid hT
  have HL := hid hLe
  have HX0 := hid (Boxed.new w 26 (.slice a L cap))
  have HB0 := hid (belowA w (.cells #[.slice a L cap] 26))
  have HF := rform_any a T cap (w.alloc (.cells #[.slice a L cap] 26)) (hT.low HB0.out) hG
  have HNE := fun W hW h1 hL ok => rnests_any a T cap W (hT.low hW) h1 hL ok
  rw [← hLe] at HF HNE ⊢
  have HF2 := hid HF
  have HN2 := hid HNE
  clear hT hG hLe HF HNE
  go_enter Tryz.func22, Tryz.ntmps22
  go_upto_region 2 with (go_at_call 28; refine HF2.out.mono ?_; rintro e w1 ⟨c, i, rfl, hf, l1⟩; have L1 := hid l1; have HFR := hid hf; clear l1 hf)
  have B1 := hid (HB0.out.trans (L1.out.mono HB0.out.size))
  by_cases hc : c = 0
  · subst hc
    obtain ⟨h1, hL, ho, hl⟩ := HFR.out.ok
    have HOK := hid ho
    have HLS := hid hl
    have hL1 : L ≤ 1000 := by rw [HL.out]; exact hL
    have hL2 : 1 ≤ L := by rw [HL.out]; exact h1
    have xt := (show Boxed w1 w.heap.size 26 (.slice a L cap) from (L1.out.block _ HX0.out.lt).trans HX0.out).cell
    have HN3 := hid (HN2.out w1 B1.out hL2 hL1 ho)
    clear ho hl h1 hL HN2
    go_wp2_with (go_at_call 29; refine HN3.out.mono ?_; rintro e w2 ⟨v, rfl, o2, l2⟩; have L2 := hid l2; obtain ⟨va, vc, rfl⟩ := own_form o2; have O2 := hid o2; clear l2 o2)
    have HNL := hid (show (nests T).length = L by rw [nests_len, HL.out])
    rw [HNL.out] at O2 ⊢
    have B2 := hid (B1.out.trans (L2.out.mono B1.out.size))
    go_loopw [7] (fun i wr => ∃ k : Nat, k ≤ L ∧ i = .int .i64 k ∧ Hid (wr = w2) ∧ Hid (∀ j, j < k → (nests T).getD j 0 ≤ 32)) (fun i _ => L - (intOf i).toNat)
    case atStart => exact ⟨0, Nat.zero_le _, rfl, hid rfl, hid (fun j hj => by omega)⟩
    case round =>
      obtain ⟨k, hk, rfl, HW, HE⟩ := hrel
      obtain rfl := HW.out
      by_cases hlt : k < L
      · rcases (own_rdI O2.out).2.1 with h0 | ⟨b1, o1, rfl, hb1, hc1⟩
        · rw [HNL.out] at h0; omega
        have p0 := hc1 k (by rw [HNL.out]; exact hlt)
        obtain ⟨x, hx⟩ : ∃ x, x = (nests T).getD k 0 := ⟨_, rfl⟩
        rw [← hx] at p0
        have HX := hid hx
        clear hc1 hx
        have g1 : (k : Int) < (L : Int) := by omega
        have g2 : (0 : Int) ≤ (k : Int) := by omega
        by_cases hd : 32 < x
        · have d1 : decide (32 < x) = true := by simp; omega
          go_wp2_with fail
          (try simp only [Exit.inBlock, Exit.then])
          refine bodyPost_ret (results_tmp2 rfl _ _ _) rfl ⟨122, k, rfl, .inr (.inr ⟨by rw [← HL.out]; omega, by rw [← HL.out]; omega, .inr (.inr ⟨HOK.out, HLS.out, .inl ⟨⟨by rw [← HL.out]; exact hlt, by rw [← HX.out]; exact hd, HE.out⟩, rfl⟩⟩)⟩), B2.out⟩
        · have d1 : decide (32 < x) = false := by simp; omega
          go_wp2_with fail
          refine ⟨⟨k + 1, by omega, by go_num, hid (by first | trivial | rfl), hid (fun j hj => ?_)⟩, by simp [intOf]; omega⟩
          by_cases e : j = k
          · rw [e, ← HX.out]; omega
          · exact HE.out j (by omega)
      · obtain rfl : k = L := by omega
        go_wp2_with fail
        (try simp only [Exit.inBlock, Exit.then])
        refine bodyPost_ret (results_tmp2 rfl _ _ _) rfl ⟨0, 0, rfl, .inr (.inr ⟨by rw [← HL.out]; omega, by rw [← HL.out]; omega, .inr (.inr ⟨HOK.out, HLS.out, .inr ⟨fun j hj => HE.out j (by rw [HL.out]; exact hj), rfl, rfl⟩⟩)⟩), B2.out⟩
  · have e1 : (c != 0) = true := by simp [hc]
    obtain ⟨n, rfl, rfl, hr⟩ := HFR.out.res hc
    have HR := hid hr
    clear hr
    go_wp2_with fail
    (try simp only [Exit.inBlock, Exit.then])
    exact bodyPost_ret (results_tmp2 rfl _ _ _) rfl ⟨130, n, rfl, HR.out, B1.out⟩
theorem Res.ok {T : List Pt} {i : Nat} (h : Res T 0 i) : 1 ≤ T.length ∧ T.length ≤ 1000 ∧ Ok0 T ∧ i = 0 := by
  rcases h with ⟨_, e, _⟩ | ⟨_, e, _⟩ | ⟨h1, h2, ⟨_, e⟩ | ⟨_, _, e, _⟩ | ⟨ho, _, ⟨_, e⟩ | ⟨_, _, e⟩⟩⟩
  · cases e
  · cases e
  · cases e
  · cases e
  · cases e
  · exact ⟨h1, h2, ho, e⟩
end Go.Proofs.YtiddnjjaidiohaaGreatDoor.L
