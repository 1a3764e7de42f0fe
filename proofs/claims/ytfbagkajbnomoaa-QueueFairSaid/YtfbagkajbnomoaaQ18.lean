import Derived.Test.YtfbagkajbnomoaaQ17
namespace Go.Proofs.Ytfbagkajbnomoaa.L
open Go.RowKit Rg Qu
set_option linter.unusedVariables false
set_option linter.unusedSimpArgs false
set_option maxHeartbeats 4000000 in
set_option maxRecDepth 100000 in
theorem queuenil_any (a : Option Addr) (sc : List Opq) (cap : Nat) (w : World) (hs : ScR w a sc) (hl : sc.length ≤ 140737488355328) :
    Calls Try.prog 8 #[.slice a sc.length cap] w fun e w' => e = .returned (.bool true) ∧ Below w.heap.size w w' := by
  have HS := hid hs
  obtain ⟨n, hn⟩ : ∃ n, n = sc.length := ⟨_, rfl⟩
  have HN := hid hn
  rw [← hn] at hl ⊢
  have hmax : n ≤ 9223372036854775807 := by omega
  have hnw := run_neW default default
  rw [show wtE default default = true from wtE_refl _] at hnw
  clear hn hs
  go_enter Try.func8, Try.ntmps8
  go_wp2_with fail
  refine (awake_any w).mono ?_
  rintro e w1 ⟨rfl, b1⟩
  have HB1 := hid b1
  clear b1
  go_wp2_with fail
  go_loopw [4] (fun s8 wr => ∃ k : Nat, k ≤ n ∧ s8 = .int .i64 (k : Int) ∧ Hid (Below w.heap.size w wr)) (fun i _ => n - (intOf i).toNat)
  case atStart => exact ⟨0, Nat.zero_le _, rfl, HB1⟩
  case round =>
    obtain ⟨k, hk, rfl, HB⟩ := hrel
    by_cases hlt : k < n
    · have g1 : (k : Int) < (n : Int) := by omega
      have g2 : (0 : Int) ≤ (k : Int) := by omega
      have k1 : k < sc.length := by rw [← HN.out]; exact hlt
      obtain ⟨b, off, hae, hbb, c0, c1, c2, c3, ra, rc, c4, _⟩ := scr_at (HS.out.low HB.out) k1
      subst hae
      obtain ⟨x, hx⟩ : ∃ x, x = sc[k]'k1 := ⟨_, rfl⟩
      rw [← hx] at c0 c1 c2 c3 c4
      obtain ⟨rl, hrl⟩ : ∃ r, r = x.rows.length := ⟨_, rfl⟩
      rw [← hrl] at c4
      have HBV := hid (belowA wr (.cells #[.int .i64 x.kind, .string x.name, .int .i64 x.pr, .int .i64 x.now, .slice ra rl rc] 34))
      have HXV := hid (heap_alloc_new wr (.cells #[.int .i64 x.kind, .string x.name, .int .i64 x.pr, .int .i64 x.now, .slice ra rl rc] 34))
      clear hbb hx hrl
      go_upto_region 8 with fail
      generalize wr.alloc (.cells #[.int .i64 x.kind, .string x.name, .int .i64 x.pr, .int .i64 x.now, .slice ra rl rc] 34) = V at *
      obtain ⟨pb, hpb⟩ : ∃ b, b = wr.heap.size := ⟨_, rfl⟩
      rw [← hpb] at HXV ⊢
      clear hpb c0 c1 c2 c3 c4
      have HB2 := hid (bch HB.out HBV.out)
      have d1 : V.cell? ⟨pb, 1, none⟩ = some (.string x.name) := cell_of_row V _ 1 _ _ _ HXV.out
      go_wp2_with fail
      refine (take_nil V x.name).mono ?_
      rintro e w3 ⟨he, b3⟩
      have he : e = .returned (.tuple #[.agg #[.string ⟨#[]⟩, .int .i64 0, .int .i64 0, .int .i64 0, .int .i64 0, .bool false], .int .i64 1]) := he
      subst he
      have HX3 := hid ((b3.block _ (lt_blk HXV.out)).trans HXV.out)
      have HB3 := hid (bch HB2.out b3)
      clear b3 d1
      go_upto_region 9 with fail
      have HBT := hid (belowA w3 (.cells #[.string ⟨#[]⟩, .int .i64 0, .int .i64 0, .int .i64 0, .int .i64 0, .bool false] 40))
      have HXT := hid (heap_alloc_new w3 (.cells #[.string ⟨#[]⟩, .int .i64 0, .int .i64 0, .int .i64 0, .int .i64 0, .bool false] 40))
      generalize w3.alloc (.cells #[.string ⟨#[]⟩, .int .i64 0, .int .i64 0, .int .i64 0, .int .i64 0, .bool false] 40) = V4 at *
      obtain ⟨tb, htb⟩ : ∃ b, b = w3.heap.size := ⟨_, rfl⟩
      rw [← htb] at HXT ⊢
      clear htb
      have HX4 := hid ((HBT.out.block _ (lt_blk HX3.out)).trans HX3.out)
      have HB4 := hid (bch HB3.out HBT.out)
      have d1 : V4.cell? ⟨pb, 1, none⟩ = some (.string x.name) := cell_of_row V4 _ 1 _ _ _ HX4.out
      have d2 : V4.cell? ⟨pb, 2, none⟩ = some (.int .i64 x.pr) := cell_of_row V4 _ 2 _ _ _ HX4.out
      have d3 : V4.cell? ⟨pb, 3, none⟩ = some (.int .i64 x.now) := cell_of_row V4 _ 3 _ _ _ HX4.out
      have t0 : V4.cell? ⟨tb, 0, none⟩ = some (.string ⟨#[]⟩) := cell_of_row V4 _ 0 _ _ _ HXT.out
      have t1 : V4.cell? ⟨tb, 1, none⟩ = some (.int .i64 0) := cell_of_row V4 _ 1 _ _ _ HXT.out
      have t2 : V4.cell? ⟨tb, 2, none⟩ = some (.int .i64 0) := cell_of_row V4 _ 2 _ _ _ HXT.out
      have t3 : V4.cell? ⟨tb, 3, none⟩ = some (.int .i64 0) := cell_of_row V4 _ 3 _ _ _ HXT.out
      have t4 : V4.cell? ⟨tb, 4, none⟩ = some (.int .i64 0) := cell_of_row V4 _ 4 _ _ _ HXT.out
      have t5 : V4.cell? ⟨tb, 5, none⟩ = some (.bool false) := cell_of_row V4 _ 5 _ _ _ HXT.out
      have hnw2 : ∀ (W : World), (binOp .neq 40 (.agg #[.string ⟨#[]⟩, .int .i64 0, .int .i64 0, .int .i64 0, .int .i64 0, .bool false]) (.agg #[.string ⟨#[]⟩, .int .i64 0, .int .i64 0, .int .i64 0, .int .i64 0, .bool false])).run Try.prog W = .ok (.bool false) W := hnw
      have gw := guardW
      have HPU := hid (push_nil · x.name x.pr)
      have HPK := hid (park_nil · x.name x.now)
      clear HX3 HXT
      go_wp2_with fail
      refine (ready_nil V4 x.now).mono ?_
      rintro e w5 ⟨rfl, rfl⟩
      go_wp2_with fail
      refine (wake_nil w5).mono ?_
      rintro e w6 ⟨rfl, rfl⟩
      go_wp2_with fail
      refine (HPU.out w6).mono ?_
      rintro e w7 ⟨rfl, rfl⟩
      go_wp2_with (first
        | (go_at_call 20; refine (num_any _ _).mono ?_; rintro e w8 ⟨rfl, rfl⟩)
        | (go_at_call 24; refine (HPK.out _).mono ?_; rintro e w8 ⟨rfl, rfl⟩))
      exact ⟨⟨k + 1, by omega, by go_num, HB4⟩, by simp [intOf]; omega⟩
    · have g1 : ¬ (k : Int) < (n : Int) := by omega
      go_wp2_with fail
      refine (len_nil wr).mono ?_
      rintro e w5 ⟨rfl, rfl⟩
      go_wp2_with fail
      refine (next_nil w5).mono ?_
      rintro e w6 ⟨rfl, rfl⟩
      go_wp2_with fail
      refine (list_nil w6).mono ?_
      rintro e w7 ⟨la, lc, rfl, b7⟩
      have HB7 := hid (bch HB.out b7)
      clear b7
      go_wp2_with fail
      go_ret
      exact ⟨by first | rfl | simp, HB7.out⟩
end Go.Proofs.Ytfbagkajbnomoaa.L
