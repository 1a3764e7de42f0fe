import Derived.Test.YtfbagkajbnomoaaQ19
namespace Go.Proofs.Ytfbagkajbnomoaa.L
open Go.RowKit Rg Qu
set_option linter.unusedVariables false
set_option linter.unusedSimpArgs false
/-- No pod was parked more often than there were calls. -/
theorem ply1_tries {s : List Wt × Int} {T : Int} (h : ∀ x, x ∈ s.1 → x.tries ≤ T) (h0 : 0 ≤ T) (o : Opq) : ∀ x, x ∈ (ply1 s o).1 → x.tries ≤ T + 1 := by
  have hT : ∀ x, x ∈ s.1 → x.tries ≤ T + 1 := fun x hx => by have := h x hx; omega
  unfold ply1
  split
  · intro x hx
    unfold pshL at hx
    split at hx
    · rcases mem_ins.1 hx with rfl | hx
      · show (0 : Int) ≤ _; omega
      · exact hT x hx
    · exact hT x hx
  · split
    · intro x hx
      unfold tkeL at hx
      split at hx
      · exact hT x ((List.eraseIdx_sublist _ _).mem hx)
      · exact hT x hx
    · split
      · intro x hx
        unfold prkL at hx
        split at hx
        · by_cases hk : fnd o.name s.1 < s.1.length
          · rw [prk_set hk] at hx
            rcases (List.mem_or_eq_of_mem_set hx) with hx | rfl
            · exact hT x hx
            · have := h _ (List.getElem_mem hk)
              unfold prkX
              dsimp only
              split <;> omega
          · have e : prk s.1 (fnd o.name s.1) o.now = s.1 := by
              unfold prk
              rw [List.getElem?_eq_none (by omega)]
            rw [e] at hx
            exact hT x hx
        · exact hT x hx
      · split
        · intro x hx
          unfold wks at hx
          obtain ⟨y, hy, rfl⟩ := List.mem_map.1 hx
          exact hT y hy
        · exact hT
theorem ply_tries : ∀ (sc : List Opq) {s : List Wt × Int} {T : Int}, (∀ x, x ∈ s.1 → x.tries ≤ T) → 0 ≤ T → ∀ x, x ∈ (ply s sc).1 → x.tries ≤ T + (sc.length : Int)
  | [], s, T, h, h0, x, hx => by simpa using h x hx
  | o :: r, s, T, h, h0, x, hx => by
    have := ply_tries r (ply1_tries h h0 o) (by omega) x hx
    rw [List.length_cons]
    push_cast
    omega
theorem fnd_self {l : List Wt} {nx : Int} (h : Okq l nx) {k : Nat} (hk : k < l.length) : fnd l[k].name l = k := by
  refine fnd_eq (Nat.le_of_lt hk) (fun j hj e => ?_) (fun _ => rfl)
  exact List.pairwise_iff_getElem.1 h.names j k (by omega) hk hj (bytes_ext e)
theorem box_set {W : World} {b : Nat} {cs : Array Value} {t : TypeId} (h : W.heap[b]? = some (.cells cs t (0, 0))) (j : Nat) (v : Value) : (W.setCell ⟨b, j, none⟩ v).heap[b]? = some (.cells (cs.setIfInBounds j v) t (0, 0)) ∧ W.grownBy (W.setCell ⟨b, j, none⟩ v) (some b) := by
  rw [setCell_eq_setRow _ _ _ _ _ _ _ h]
  exact ⟨setRow_heap _ _ _ _ _ _ h, ⟨rfl, rfl, rfl, by simp, fun k hk hn => setRow_other _ _ _ _ (fun e => hn (by rw [e]))⟩⟩
theorem chain3 {W : World} {b : Nat} {z : Wt} (h : W.heap[b]? = some (.cells #[.string z.name, .int .i64 z.pr, .int .i64 z.seq, .int .i64 z.tries, .int .i64 z.til, .bool z.asl] 40 (0, 0))) (t u : Int) :
    (((W.setCell ⟨b, 3, none⟩ (.int .i64 t)).setCell ⟨b, 5, none⟩ (.bool true)).setCell ⟨b, 4, none⟩ (.int .i64 u)).heap[b]? = some (.cells #[.string z.name, .int .i64 z.pr, .int .i64 z.seq, .int .i64 t, .int .i64 u, .bool true] 40 (0, 0)) ∧ W.grownBy (((W.setCell ⟨b, 3, none⟩ (.int .i64 t)).setCell ⟨b, 5, none⟩ (.bool true)).setCell ⟨b, 4, none⟩ (.int .i64 u)) (some b) := by
  have s1 := box_set h 3 (.int .i64 t)
  have s2 := box_set s1.1 5 (.bool true)
  have s3 := box_set s2.1 4 (.int .i64 u)
  exact ⟨s3.1, gb_trans s1.2 (gb_trans s2.2 s3.2)⟩
theorem chain4 {W : World} {b : Nat} {z : Wt} (h : W.heap[b]? = some (.cells #[.string z.name, .int .i64 z.pr, .int .i64 z.seq, .int .i64 z.tries, .int .i64 z.til, .bool z.asl] 40 (0, 0))) (t u1 u : Int) :
    ((((W.setCell ⟨b, 3, none⟩ (.int .i64 t)).setCell ⟨b, 5, none⟩ (.bool true)).setCell ⟨b, 4, none⟩ (.int .i64 u1)).setCell ⟨b, 4, none⟩ (.int .i64 u)).heap[b]? = some (.cells #[.string z.name, .int .i64 z.pr, .int .i64 z.seq, .int .i64 t, .int .i64 u, .bool true] 40 (0, 0)) ∧ W.grownBy ((((W.setCell ⟨b, 3, none⟩ (.int .i64 t)).setCell ⟨b, 5, none⟩ (.bool true)).setCell ⟨b, 4, none⟩ (.int .i64 u1)).setCell ⟨b, 4, none⟩ (.int .i64 u)) (some b) := by
  have s := chain3 h t u1
  have s3 := box_set s.1 4 (.int .i64 u)
  exact ⟨s3.1, gb_trans s.2 s3.2⟩
theorem wts_small {t now : Int} (h0 : 0 ≤ t) (h7 : t + 1 < 7) (hn0 : 0 ≤ now) (hn1 : now ≤ 1099511627776) : wrap64 (now + wrap64 (2 ^ t.toNat)) = now + wts (t + 1) := by
  have hc : t = 0 ∨ t = 1 ∨ t = 2 ∨ t = 3 ∨ t = 4 ∨ t = 5 := by omega
  have hw : ∀ z : Int, -9223372036854775808 ≤ z → z ≤ 9223372036854775807 → wrap64 z = z := fun z a b => by
    unfold wrap64
    omega
  rcases hc with rfl | rfl | rfl | rfl | rfl | rfl
  · rw [show wrap64 (2 ^ (0 : Int).toNat) = 1 from by decide +kernel, show wts (0 + 1) = 1 from by decide +kernel, hw _ (by omega) (by omega)]
  · rw [show wrap64 (2 ^ (1 : Int).toNat) = 2 from by decide +kernel, show wts (1 + 1) = 2 from by decide +kernel, hw _ (by omega) (by omega)]
  · rw [show wrap64 (2 ^ (2 : Int).toNat) = 4 from by decide +kernel, show wts (2 + 1) = 4 from by decide +kernel, hw _ (by omega) (by omega)]
  · rw [show wrap64 (2 ^ (3 : Int).toNat) = 8 from by decide +kernel, show wts (3 + 1) = 8 from by decide +kernel, hw _ (by omega) (by omega)]
  · rw [show wrap64 (2 ^ (4 : Int).toNat) = 16 from by decide +kernel, show wts (4 + 1) = 16 from by decide +kernel, hw _ (by omega) (by omega)]
  · rw [show wrap64 (2 ^ (5 : Int).toNat) = 32 from by decide +kernel, show wts (5 + 1) = 32 from by decide +kernel, hw _ (by omega) (by omega)]
theorem wts_big {t : Int} (h7 : ¬ t + 1 < 7) : wts (t + 1) = 64 := by
  unfold wts
  rw [if_neg (by omega), if_pos (by omega)]
set_option maxHeartbeats 8000000 in
set_option maxRecDepth 100000 in
theorem queuewaits_any (a : Option Addr) (sc : List Opq) (cap : Nat) (now : Int) (w : World) (hs : ScR w a sc) (hl : sc.length ≤ 1048576) :
    Calls Try.prog 6 #[.slice a sc.length cap, .int .i64 now] w fun e w' => e = .returned (.bool true) ∧ Below w.heap.size w w' := by
  have HS := hid hs
  have HAW := hid (awake_any w)
  obtain ⟨m, hm⟩ : ∃ n, n = sc.length := ⟨_, rfl⟩
  have HM := hid hm
  have HPL := hid (fun (w2 : World) (B qb : Nat) (v : Value) (h : Qm w2 B qb v [] 0) (hb : Below w.heap.size w w2) (hB0 : w.heap.size ≤ B) (hB : B ≤ w2.heap.size) => play_any h okq_nil a sc cap hs hb hB0 hB (by omega))
  rw [← hm] at hl HPL ⊢
  clear hm hs
  go_enter Try.func6, Try.ntmps6
  go_wp2_with fail
  refine HAW.out.mono ?_
  rintro e w1 ⟨rfl, b1⟩
  have HB1 := hid b1
  have HNW := hid (new_any w1)
  clear b1 HAW
  go_wp2_with fail
  refine HNW.out.mono ?_
  rintro e w2 ⟨rfl, m2, b2⟩
  obtain ⟨qb, hqb⟩ : ∃ b, b = w1.heap.size := ⟨_, rfl⟩
  rw [← hqb] at m2 ⊢
  have HPP := hid (HPL.out w2 qb qb _ m2 (bch HB1.out b2) (by rw [hqb]; exact HB1.out.size) (by rw [hqb]; exact b2.size))
  have HBB := hid (bch HB1.out b2)
  have HQB := hid (show w.heap.size ≤ qb from by rw [hqb]; exact HB1.out.size)
  have HM2 := hid m2
  clear m2 b2 HB1 HNW HPL hqb
  go_wp2_with fail
  refine HPP.out.mono ?_
  rintro e w3 ⟨rfl, v3, m3, f3, n3⟩
  have HB3 := hid (qf_below HBB.out HQB.out HM2.out f3)
  have HOK := hid (okq_ply sc (s := ([], 0)) okq_nil)
  have HTR := hid (ply_tries sc (s := ([], 0)) (T := 0) (fun x hx => by cases hx) (by omega))
  obtain ⟨L, hL⟩ : ∃ L, L = (ply ([], 0) sc).1 := ⟨_, rfl⟩
  obtain ⟨nx, hnx⟩ : ∃ L, L = (ply ([], 0) sc).2 := ⟨_, rfl⟩
  rw [← hL, ← hnx] at HOK m3
  rw [← hL] at HTR
  have HM3 := hid m3
  have HSZ3 := hid (Nat.le_trans HQB.out (show qb ≤ w3.heap.size from Nat.le_of_lt (lt_blk m3.box)))
  have HLI := hid (list_any m3 HOK.out.few)
  clear m3 f3 n3 hL hnx HPP HM2 HBB
  go_wp2_with fail
  refine HLI.out.mono ?_
  rintro e w4 ⟨v4, rfl, o4, b4⟩
  obtain ⟨_, a4, c4, rfl, r4⟩ := own_w o4
  have HM4 := hid (HM3.out.low b4)
  have HB4 := hid (bch HB3.out b4)
  have HO4 := hid o4
  clear o4 b4 r4 HLI HM3
  obtain ⟨n, hn⟩ : ∃ n, n = L.length := ⟨_, rfl⟩
  have HN := hid hn
  rw [← hn] at HO4 ⊢
  clear hn
  by_cases hz : n = 0
  · subst hz
    have hL0 : L = [] := List.eq_nil_of_length_eq_zero HN.out.symm
    have HPK := hid (park_any HM4.out HOK.out ⟨#[97]⟩ now (by exact Nat.le_of_lt (lt_blk HM4.out.box)))
    rw [show prkE L ⟨#[97]⟩ now = 252 from by rw [hL0]; rfl, show prkL L ⟨#[97]⟩ now = L from by rw [hL0]; rfl] at HPK
    clear hL0
    go_wp2_with fail
    refine HPK.out.mono ?_
    rintro e w5 ⟨rfl, v5, m5, f5, n5⟩
    have HB5 := hid (qf_below HB4.out HQB.out HM4.out f5)
    have HLE := hid (len_any m5 HOK.out.few)
    rw [← HN.out] at HLE
    clear m5 f5 n5 HPK
    go_wp2_with fail
    refine (num_any 252 w5).mono ?_
    rintro e w6 ⟨rfl, rfl⟩
    go_wp2_with fail
    refine HLE.out.mono ?_
    rintro e w7 ⟨rfl, rfl⟩
    go_wp2_with fail
    go_ret
    exact ⟨by first | rfl | simp, HB5.out⟩
  · have hz1 : ¬ (n : Int) = 0 := by omega
    obtain ⟨k, hkm, hkn⟩ : ∃ k : Nat, (m : Int) % (n : Int) = (k : Int) ∧ k < n := ⟨m % n, by omega, Nat.mod_lt _ (by omega)⟩
    have hkl : k < L.length := by rw [← HN.out]; exact hkn
    have g2 : (0 : Int) ≤ (k : Int) := by omega
    have g3 : (k : Int) < (n : Int) := by omega
    obtain ⟨ewn, a5, c5, e5, r5⟩ := own_w HO4.out
    clear ewn
    obtain ⟨g, off, ha, hgb, x0, x1, x2, x3, x4, x5⟩ := cell_w r5 hkl
    injection e5 with e5 e5n e6
    subst e5 ha
    have hoff : off = 0 := by
      rcases HO4.out.2 with ⟨e, _⟩ | ⟨g', cap', cur, e, _⟩
      · cases e
      · injection e with e _ _
        injection e with e
        injection e with _ e _
    subst hoff
    simp only [Nat.zero_add] at x0 x1 x2 x3 x4 x5
    have HKL := hid hkl
    clear e5n e6 r5 hz
    by_cases hnow : 0 ≤ now ∧ now ≤ 1099511627776
    · obtain ⟨y, hy⟩ : ∃ y, y = L[k]'hkl := ⟨_, rfl⟩
      rw [← hy] at x0 x1 x2 x3 x4 x5
      have HY := hid hy
      have n1 : ¬ now < 0 := by omega
      have n2 : ¬ 1099511627776 < now := by omega
      clear hy hgb
      have HBX := hid (belowA w4 (.cells #[.string y.name, .int .i64 y.pr, .int .i64 y.seq, .int .i64 y.tries, .int .i64 y.til, .bool y.asl] 40))
      have HXX := hid (heap_alloc_new w4 (.cells #[.string y.name, .int .i64 y.pr, .int .i64 y.seq, .int .i64 y.tries, .int .i64 y.til, .bool y.asl] 40))
      go_upto_region 12 with fail
      generalize w4.alloc (.cells #[.string y.name, .int .i64 y.pr, .int .i64 y.seq, .int .i64 y.tries, .int .i64 y.til, .bool y.asl] 40) = W5 at *
      obtain ⟨xb, hxb⟩ : ∃ b, b = w4.heap.size := ⟨_, rfl⟩
      rw [← hxb] at HXX ⊢
      have HXG := hid (show g ≠ xb ∧ w.heap.size ≤ xb from ⟨by have := (row_at HO4.out (k := g) rfl).2.1; omega, by rw [hxb]; exact HB4.out.size⟩)
      have HTB := hid (show 0 ≤ y.tries ∧ y.tries ≤ 1048576 from ⟨by rw [HY.out]; exact (HOK.out.tr _ (List.getElem_mem hkl)).1, by have := HTR.out y (by rw [HY.out]; exact List.getElem_mem hkl); have := HM.out; omega⟩)
      have HM5 := hid (HM4.out.low HBX.out)
      have HO5 := hid (row_low HO4.out HBX.out)
      have HB5 := hid (bch HB4.out HBX.out)
      clear hxb x0 x1 x2 x3 x4 x5 HBX HM4 HO4 HB4 HTR
      go_wp2_with fail
      go_loopw [9] (fun s8 wr => ∃ i : Nat, i ≤ 9 ∧ s8 = .int .i64 (i : Int) ∧ Hid (Below w.heap.size w wr ∧ ∃ (M : List Wt) (v : Value) (z : Wt), M.length = n ∧ Okq M nx ∧ M[k]? = some z ∧ z.name = y.name ∧ z.tries = y.tries + (i : Int) ∧ Qm wr qb qb v M nx ∧ wr.ownsRow w3.heap.size 40 6 (.slice (some ⟨g, 0, none⟩) n c4) n (rowX wtV M) ∧ wr.heap[xb]? = some (.cells #[.string z.name, .int .i64 z.pr, .int .i64 z.seq, .int .i64 z.tries, .int .i64 z.til, .bool z.asl] 40 (0, 0)))) (fun i _ => 9 - (intOf i).toNat)
      case atStart => exact ⟨0, by omega, rfl, hid ⟨HB5.out, L, v3, y, HN.out.symm, HOK.out, by rw [List.getElem?_eq_getElem HKL.out, HY.out], rfl, by simp, HM5.out, HO5.out, HXX.out⟩⟩
      case round =>
        obtain ⟨i, hi, rfl, HH⟩ := hrel
        clear HM5 HO5 HB5 HXX
        by_cases hlt : i < 9
        · have i1 : (i : Int) < 9 := by omega
          have i2 : (0 : Int) ≤ (i : Int) := by omega
          obtain ⟨hbl, M, v, z, hM, hok, hz, hnm, htr, hq, hrow, hbox⟩ := HH.out
          have hkM : k < M.length := by omega
          have hzk : M[k]'hkM = z := by rw [List.getElem?_eq_getElem hkM] at hz; exact Option.some.inj hz
          have hPE : prkE M z.name now = 0 := by
            unfold prkE
            rw [if_neg (by rw [← hzk, fnd_self hok hkM]; simpa using hkM), if_pos hnow]
          have hPL : prkL M z.name now = M.set k (prkX z now) := by
            unfold prkL
            rw [hPE, if_pos rfl, ← hzk, fnd_self hok hkM, prk_set hkM]
          have HPK := hid (park_any hq hok z.name now (Nat.le_of_lt (lt_blk hq.box)))
          rw [hPE, hPL] at HPK
          have HOK2 := hid (show Okq (M.set k (prkX z now)) nx from by rw [← hPL]; exact okq_prk hok _ _)
          have HST := hid (And.intro hbl (And.intro hM (And.intro hkM (And.intro hnm (And.intro htr (And.intro hq hrow))))))
          have x0 : wr.cell? ⟨xb, 0, none⟩ = some (.string z.name) := cell_of_row wr _ 0 _ _ _ hbox
          have HBX := hid hbox
          have ht0 : 0 ≤ z.tries := by have := HTB.out; omega
          have ht1 : z.tries ≤ 1048585 := by have := HTB.out; omega
          clear hbl hM hok hz hnm htr hq hrow hbox hzk hPE hPL HH
          go_wp2_with fail
          refine HPK.out.mono ?_
          rintro e w6 ⟨rfl, v6, m6, f6, n6⟩
          have HX6 := hid (f6.at HST.out.2.2.2.2.2.1 HBX.out (by decide) (by decide))
          have HO6 := hid (f6.row HST.out.2.2.2.2.2.1 HST.out.2.2.2.2.2.2 (by decide) (by decide))
          have HB6 := hid (qf_below HST.out.1 HQB.out HST.out.2.2.2.2.2.1 f6)
          have HM6 := hid m6
          clear m6 f6 n6 HPK x0 HBX
          go_wp2_with fail
          refine (num_any 0 w6).mono ?_
          rintro e w7 ⟨rfl, rfl⟩
          have y3 : w7.cell? ⟨xb, 3, none⟩ = some (.int .i64 z.tries) := cell_of_row w7 _ 3 _ _ _ HX6.out
          have y4 : w7.cell? ⟨xb, 4, none⟩ = some (.int .i64 z.til) := cell_of_row w7 _ 4 _ _ _ HX6.out
          have y5 : w7.cell? ⟨xb, 5, none⟩ = some (.bool z.asl) := cell_of_row w7 _ 5 _ _ _ HX6.out
          have fz : ∀ j, w7.frozen? ⟨xb, j, none⟩ = false := fun j => by have := HX6.out; simp [World.frozen?, this]
          have a1 : IntKind.i64.wrap (z.tries + 1) = z.tries + 1 := by rw [IntKind.wrap_i64]; omega
          have a2 : IntKind.i64.wrap (now + 64) = now + 64 := by rw [IntKind.wrap_i64]; omega
          have HE4 := hid (show z.tries + 1 < 7 → wrap64 (now + wrap64 (2 ^ z.tries.toNat)) = now + wts (z.tries + 1) from fun h7 => wts_small ht0 h7 hnow.1 hnow.2)
          have HE5 := hid (show ¬ z.tries + 1 < 7 → now + 64 = now + wts (z.tries + 1) from fun h7 => by rw [wts_big h7])
          have HC4 := hid (chain4 HX6.out (z.tries + 1) (now + 64) (now + wts (z.tries + 1)))
          have HC3 := hid (chain3 HX6.out (z.tries + 1) (now + wts (z.tries + 1)))
          have HPX := hid (show prkX z now = ⟨z.name, z.pr, z.seq, z.tries + 1, now + wts (z.tries + 1), true⟩ from by
            unfold prkX
            rw [if_pos (by omega)])
          have fin : Hid (∀ W22 : World, W22.heap[xb]? = some (.cells #[.string z.name, .int .i64 z.pr, .int .i64 z.seq, .int .i64 (z.tries + 1), .int .i64 (now + wts (z.tries + 1)), .bool true] 40 (0, 0)) → w7.grownBy W22 (some xb) →
              Qm W22 qb qb v6 (M.set k (prkX z now)) nx ∧ W22.ownsRow w3.heap.size 40 6 (.slice (some ⟨g, 0, none⟩) M.length c4) M.length (rowX wtV M) ∧ Below w.heap.size w W22) := hid (fun W22 hb hg => by
            have hm := HM6.out
            have nq : xb ≠ qb := fun e => by
              have h1 := HX6.out
              rw [e, hm.box] at h1
              injection h1 with h1
              injection h1 with _ h1
              exact absurd h1 (by decide)
            refine ⟨⟨(hg.block _ (lt_blk hm.box) (fun e => nq (by injection e with e; exact e.symm))).trans hm.box, row_kept hm.row (fun j hj => hg.block j (row_at hm.row hj).2.1 (fun e => ?_)), hm.lo⟩, ?_, ⟨hg.os.trans HB6.out.os, hg.tape.trans HB6.out.tape, hg.output.trans HB6.out.output, Nat.le_trans HB6.out.size hg.size, fun j hj => (hg.block j (Nat.lt_of_lt_of_le hj HB6.out.size) (fun e => by injection e with e; have := HXG.out.2; omega)).trans (HB6.out.block j hj)⟩⟩
            · injection e with e
              obtain ⟨_, _, cs, hc⟩ := row_at hm.row hj
              rw [e, HX6.out] at hc
              injection hc with hc
              injection hc with _ hc
              exact absurd hc (by decide)
            · rw [HST.out.2.1]
              exact row_kept HO6.out (fun j hj => hg.block j (row_at HO6.out hj).2.1 (fun e => by injection e with e; cases hj; exact HXG.out.1 e)))
          rcases Decidable.em (z.tries + 1 < 7) with h7 | h7
          all_goals go_upto_region 22 with fail
          all_goals first
            | rw [HE4.out h7]
            | rw [HE5.out h7]
          all_goals first
            | (obtain ⟨W22, hW22⟩ : ∃ W, W = ((((w7.setCell ⟨xb, 3, none⟩ (.int .i64 (z.tries + 1))).setCell ⟨xb, 5, none⟩ (.bool true)).setCell ⟨xb, 4, none⟩ (.int .i64 (now + 64))).setCell ⟨xb, 4, none⟩ (.int .i64 (now + wts (z.tries + 1)))) := ⟨_, rfl⟩
               rw [← hW22] at HC4
               rw [← hW22]
               have HCC : Hid (W22.heap[xb]? = some (.cells #[.string z.name, .int .i64 z.pr, .int .i64 z.seq, .int .i64 (z.tries + 1), .int .i64 (now + wts (z.tries + 1)), .bool true] 40 (0, 0)) ∧ w7.grownBy W22 (some xb)) := HC4)
            | (obtain ⟨W22, hW22⟩ : ∃ W, W = (((w7.setCell ⟨xb, 3, none⟩ (.int .i64 (z.tries + 1))).setCell ⟨xb, 5, none⟩ (.bool true)).setCell ⟨xb, 4, none⟩ (.int .i64 (now + wts (z.tries + 1)))) := ⟨_, rfl⟩
               rw [← hW22] at HC3
               rw [← hW22]
               have HCC : Hid (W22.heap[xb]? = some (.cells #[.string z.name, .int .i64 z.pr, .int .i64 z.seq, .int .i64 (z.tries + 1), .int .i64 (now + wts (z.tries + 1)), .bool true] 40 (0, 0)) ∧ w7.grownBy W22 (some xb)) := HC3)
          all_goals
            clear hW22 HC4 HC3 HE4 HE5 y3 y4 y5 fz a1 a2 h7
            obtain ⟨hm, hr, hbl⟩ := fin.out W22 HCC.out.1 HCC.out.2
            obtain ⟨tt, htt⟩ : ∃ t, t = z.tries + 1 := ⟨_, rfl⟩
            obtain ⟨uu, huu⟩ : ∃ t, t = now + wts (z.tries + 1) := ⟨_, rfl⟩
            have HCB := HCC.out.1
            rw [← huu, ← htt] at HPX
            rw [← huu, ← htt] at HCB
            have x0 : W22.cell? ⟨xb, 0, none⟩ = some (.string z.name) := cell_of_row W22 _ 0 _ _ _ HCB
            have x1 : W22.cell? ⟨xb, 1, none⟩ = some (.int .i64 z.pr) := cell_of_row W22 _ 1 _ _ _ HCB
            have x2 : W22.cell? ⟨xb, 2, none⟩ = some (.int .i64 z.seq) := cell_of_row W22 _ 2 _ _ _ HCB
            have x3 : W22.cell? ⟨xb, 3, none⟩ = some (.int .i64 tt) := cell_of_row W22 _ 3 _ _ _ HCB
            have x4 : W22.cell? ⟨xb, 4, none⟩ = some (.int .i64 uu) := cell_of_row W22 _ 4 _ _ _ HCB
            have x5 : W22.cell? ⟨xb, 5, none⟩ = some (.bool true) := cell_of_row W22 _ 5 _ _ _ HCB
            have hkM : k < M.length := HST.out.2.2.1
            obtain ⟨o, ho⟩ : ∃ o, o = M[k]'hkM := ⟨_, rfl⟩
            have d0 : W22.cell? ⟨g, k * 6, none⟩ = some (.string (M[k]'hkM).name) := row_cell hr hkM (q := 0) (by decide)
            have d1 : W22.cell? ⟨g, k * 6 + 1, none⟩ = some (.int .i64 (M[k]'hkM).pr) := row_cell hr hkM (q := 1) (by decide)
            have d2 : W22.cell? ⟨g, k * 6 + 2, none⟩ = some (.int .i64 (M[k]'hkM).seq) := row_cell hr hkM (q := 2) (by decide)
            have d3 : W22.cell? ⟨g, k * 6 + 3, none⟩ = some (.int .i64 (M[k]'hkM).tries) := row_cell hr hkM (q := 3) (by decide)
            have d4 : W22.cell? ⟨g, k * 6 + 4, none⟩ = some (.int .i64 (M[k]'hkM).til) := row_cell hr hkM (q := 4) (by decide)
            have d5 : W22.cell? ⟨g, k * 6 + 5, none⟩ = some (.bool (M[k]'hkM).asl) := row_cell hr hkM (q := 5) (by decide)
            rw [← ho] at d0 d1 d2 d3 d4 d5
            have fz : ∀ j, W22.frozen? ⟨g, j, none⟩ = false := row_soft hr
            have h6 : ((((((W22.setCell ⟨g, k * 6, none⟩ (.string z.name)).setCell ⟨g, k * 6 + 1, none⟩ (.int .i64 z.pr)).setCell ⟨g, k * 6 + 2, none⟩ (.int .i64 z.seq)).setCell ⟨g, k * 6 + 3, none⟩ (.int .i64 tt)).setCell ⟨g, k * 6 + 4, none⟩ (.int .i64 uu)).setCell ⟨g, k * 6 + 5, none⟩ (.bool true)).ownsRow w3.heap.size 40 6 (.slice (some ⟨g, 0, none⟩) (M.set k ⟨z.name, z.pr, z.seq, tt, uu, true⟩).length c4) (M.set k ⟨z.name, z.pr, z.seq, tt, uu, true⟩).length (rowX wtV (M.set k ⟨z.name, z.pr, z.seq, tt, uu, true⟩)) ∧ W22.grownBy ((((((W22.setCell ⟨g, k * 6, none⟩ (.string z.name)).setCell ⟨g, k * 6 + 1, none⟩ (.int .i64 z.pr)).setCell ⟨g, k * 6 + 2, none⟩ (.int .i64 z.seq)).setCell ⟨g, k * 6 + 3, none⟩ (.int .i64 tt)).setCell ⟨g, k * 6 + 4, none⟩ (.int .i64 uu)).setCell ⟨g, k * 6 + 5, none⟩ (.bool true)) (some g) := row_set6 hr hkM ⟨z.name, z.pr, z.seq, tt, uu, true⟩
            have H6 := hid h6
            clear h6
            have HBB := hid hbl
            have HROW := hid hr
            have HMM := hid hm
            have HCX := hid HCB
            have HTU := hid (And.intro htt huu)
            clear ho hkM hm hr hbl htt huu HCB HX6 HO6 HB6 HM6 HCC fin
            go_upto_region 23 with fail
          all_goals
            obtain ⟨o6, g6⟩ := H6.out
            rw [← HPX.out] at o6
            have HML := hid (show (M.set k (prkX z now)).length = n from by rw [List.length_set]; exact HST.out.2.1)
            rw [HML.out] at o6
            obtain ⟨W23, hW23⟩ : ∃ W, W = ((((((W22.setCell ⟨g, k * 6, none⟩ (.string z.name)).setCell ⟨g, k * 6 + 1, none⟩ (.int .i64 z.pr)).setCell ⟨g, k * 6 + 2, none⟩ (.int .i64 z.seq)).setCell ⟨g, k * 6 + 3, none⟩ (.int .i64 tt)).setCell ⟨g, k * 6 + 4, none⟩ (.int .i64 uu)).setCell ⟨g, k * 6 + 5, none⟩ (.bool true)) := ⟨_, rfl⟩
            rw [← hW23] at o6 g6
            rw [← hW23]
            have HM23 := hid (show Qm W23 qb qb v6 (M.set k (prkX z now)) nx from by
              have hm := HMM.out
              have hgr := row_at o6 (k := g) rfl
              refine ⟨(g6.block _ (lt_blk hm.box) (fun e => ?_)).trans hm.box, row_kept hm.row (fun j hj => g6.block j (row_at hm.row hj).2.1 (fun e => ?_)), hm.lo⟩
              · injection e with e
                obtain ⟨_, _, cs, hc⟩ := hgr
                have hb : W22.heap[g]? = _ := e ▸ hm.box
                obtain ⟨_, _, cs2, hc2⟩ := row_at HROW.out (k := g) rfl
                rw [hc2] at hb
                injection hb with hb
                injection hb with _ hb
                exact absurd hb (by decide)
              · injection e with e
                obtain ⟨_, _, cs, hc⟩ := row_at hm.row hj
                obtain ⟨_, _, cs2, hc2⟩ := row_at HROW.out (k := g) rfl
                rw [e, hc2] at hc
                injection hc with hc
                injection hc with _ hc
                exact absurd hc (by decide))
            have HO23 := hid o6
            have HX23 := hid ((g6.block xb (lt_blk HCX.out) (fun e => by injection e with e; exact HXG.out.1 e.symm)).trans HCX.out)
            have HB23 := hid (show Below w.heap.size w W23 from ⟨g6.os.trans HBB.out.os, g6.tape.trans HBB.out.tape, g6.output.trans HBB.out.output, Nat.le_trans HBB.out.size g6.size, fun j hj => (g6.block j (Nat.lt_of_lt_of_le hj HBB.out.size) (fun e => by
              injection e with e
              have := (row_at HROW.out (k := g) rfl).1
              have := HSZ3.out
              omega)).trans (HBB.out.block j hj)⟩)
            have HLI := hid (list_any HM23.out HOK2.out.few)
            clear o6 g6 H6 hW23 HMM HCX HBB x0 x1 x2 x3 x4 x5 d0 d1 d2 d3 d4 d5 fz HROW
            go_wp2_with fail
            refine HLI.out.mono ?_
            rintro e w8 ⟨v8, rfl, o8, b8⟩
            obtain ⟨ewn, a8, c8, rfl, r8⟩ := own_w o8
            clear ewn
            obtain ⟨ewn, a9, c9, e9, r9⟩ := own_w (row_low HO23.out b8)
            clear ewn
            injection e9 with e9 e9n e9c
            clear e9n e9c
            subst e9
            have HSM := hid (same_any a8 (some ⟨g, 0, none⟩) (M.set k (prkX z now)) (M.set k (prkX z now)) c8 c4 w8 r8 r9 (by have := HOK2.out.few; omega) (by have := HOK2.out.few; omega))
            rw [(smW_iff _ _).2 rfl, HML.out] at HSM
            rw [HML.out]
            have HM8 := hid (HM23.out.low b8)
            have HO8 := hid (row_low HO23.out b8)
            have HX8 := hid ((b8.block _ (lt_blk HX23.out)).trans HX23.out)
            have HB8 := hid (bch HB23.out b8)
            clear o8 b8 r8 r9 HLI HM23 HO23 HX23 HB23
            go_wp2_with fail
            refine HSM.out.mono ?_
            rintro e w9 ⟨rfl, b9⟩
            have HFN := hid (show Below w.heap.size w w9 ∧ ∃ (M : List Wt) (v : Value) (z : Wt), M.length = n ∧ Okq M nx ∧ M[k]? = some z ∧ z.name = y.name ∧ z.tries = y.tries + ((i + 1 : Nat) : Int) ∧ Qm w9 qb qb v M nx ∧ w9.ownsRow w3.heap.size 40 6 (.slice (some ⟨g, 0, none⟩) n c4) n (rowX wtV M) ∧ w9.heap[xb]? = some (.cells #[.string z.name, .int .i64 z.pr, .int .i64 z.seq, .int .i64 z.tries, .int .i64 z.til, .bool z.asl] 40 (0, 0)) from by
              refine ⟨bch HB8.out b9, M.set k (prkX z now), v6, prkX z now, HML.out, HOK2.out, ?_, ?_, ?_, HM8.out.low b9, row_low HO8.out b9, ?_⟩
              · rw [List.getElem?_set_self HST.out.2.2.1]
              · rw [HPX.out]; exact HST.out.2.2.2.1
              · rw [HPX.out]
                show tt = _
                have := HST.out.2.2.2.2.1
                rw [HTU.out.1]
                push_cast
                omega
              · rw [HPX.out]
                exact (b9.block _ (lt_blk HX8.out)).trans HX8.out)
            clear b9 HSM HM8 HO8 HX8 HB8
            go_wp2_with fail
            exact ⟨⟨i + 1, by omega, by go_num, HFN⟩, by simp [intOf]; omega⟩
        · have i1 : ¬ (i : Int) < 9 := by omega
          go_wp2_with fail
          go_ret
          exact ⟨by first | rfl | simp, HH.out.1⟩
    · have hcn : now < 0 ∨ 1099511627776 < now := by omega
      have HPK := hid (park_any HM4.out HOK.out (L[k]'hkl).name now (Nat.le_of_lt (lt_blk HM4.out.box)))
      have hE : prkE L (L[k]'hkl).name now = 254 := by
        unfold prkE
        rw [if_neg (by rw [fnd_self HOK.out hkl]; simpa using hkl), if_neg hnow]
      rw [hE, show prkL L (L[k]'hkl).name now = L from by unfold prkL; rw [hE, if_neg (by decide)]] at HPK
      obtain ⟨nm, hnm⟩ : ∃ s, s = (L[k]'hkl).name := ⟨_, rfl⟩
      rw [← hnm] at x0 HPK
      clear hE hnm x1 x2 x3 x4 x5 hgb
      rcases hcn with hcn | hcn
      all_goals
        go_wp2_with fail
        refine HPK.out.mono ?_
        rintro e w5 ⟨rfl, v5, m5, f5, n5⟩
        have HB5 := hid (qf_below HB4.out HQB.out HM4.out f5)
        have HO5 := hid (f5.row HM4.out HO4.out (by decide) (by decide))
        have HLI := hid (list_any m5 HOK.out.few)
        clear m5 f5 n5 HPK x0
        go_wp2_with fail
        refine (num_any 254 w5).mono ?_
        rintro e w6 ⟨rfl, rfl⟩
        go_wp2_with fail
        refine HLI.out.mono ?_
        rintro e w7 ⟨v7, rfl, o7, b7⟩
        obtain ⟨_, a7, c7, rfl, r7⟩ := own_w o7
        have HR := hid (own_w (row_low HO5.out b7))
        obtain ⟨ewn, a8, c8, e8, r8⟩ := HR.out
        clear ewn
        injection e8 with e8 e9 e10
        subst e8
        have HSM := hid (same_any a7 (some ⟨g, 0, none⟩) L L c7 c4 w7 r7 r8 (by have := HOK.out.few; omega) (by have := HOK.out.few; omega))
        rw [(smW_iff L L).2 rfl, ← HN.out] at HSM
        have HB7 := hid (bch HB5.out b7)
        rw [← HN.out]
        clear e9 e10 r7 r8 o7 b7 HR
        go_wp2_with fail
        refine HSM.out.mono ?_
        rintro e w8 ⟨rfl, b8⟩
        have HB8 := hid (bch HB7.out b8)
        clear b8
        go_wp2_with fail
        go_ret
        exact ⟨by first | rfl | simp, HB8.out⟩
end Go.Proofs.Ytfbagkajbnomoaa.L
