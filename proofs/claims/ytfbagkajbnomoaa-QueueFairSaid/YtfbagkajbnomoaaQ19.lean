import Derived.Test.YtfbagkajbnomoaaQ18
namespace Go.Proofs.Ytfbagkajbnomoaa.L
open Go.RowKit Rg Qu
set_option linter.unusedVariables false
set_option linter.unusedSimpArgs false
theorem qf_below {n : Nat} {w0 W W' : World} {B qb : Nat} {v : Value} {l : List Wt} {nx : Int} (hb : Below n w0 W) (hn : n ≤ B) (hq : Qm W B qb v l nx) (h : Qf W W' qb v) : Below n w0 W' :=
  ⟨h.os.trans hb.os, h.tape.trans hb.tape, h.output.trans hb.output, Nat.le_trans hb.size h.size, fun j hj => by
    have hs := hq.lo
    by_cases hjs : j < W.heap.size
    · refine (h.block j hjs (by omega) (fun e => ?_)).trans (hb.block j hj)
      have := (row_at hq.row e).1
      omega
    · exfalso
      have := lt_blk hq.box
      omega⟩
/-- One call of a script. -/
def ply1 (s : List Wt × Int) (o : Opq) : List Wt × Int :=
  if o.kind = 4 then (pshL s.1 s.2 o.name o.pr, pshN s.1 s.2 o.name) else if o.kind = 5 then (tkeL s.1 o.name, s.2) else if o.kind = 7 then (prkL s.1 o.name o.now, s.2) else if o.kind = 8 then (wks s.1, s.2) else s
def ply (s : List Wt × Int) (sc : List Opq) : List Wt × Int := sc.foldl ply1 s
theorem okq_ply1 {s : List Wt × Int} (h : Okq s.1 s.2) (o : Opq) : Okq (ply1 s o).1 (ply1 s o).2 := by
  unfold ply1
  split
  · exact okq_psh h _ _
  · split
    · exact okq_tke h _
    · split
      · exact okq_prk h _ _
      · split
        · exact h.wake
        · exact h
theorem okq_ply : ∀ (sc : List Opq) {s : List Wt × Int}, Okq s.1 s.2 → Okq (ply s sc).1 (ply s sc).2
  | [], _, h => h
  | o :: r, s, h => okq_ply r (okq_ply1 h o)
theorem ply_take (s : List Wt × Int) (sc : List Opq) {k : Nat} (hk : k < sc.length) : ply s (sc.take (k + 1)) = ply1 (ply s (sc.take k)) sc[k] := by
  unfold ply
  rw [List.take_succ_eq_append_getElem hk, List.foldl_append]
  rfl
set_option maxHeartbeats 8000000 in
set_option maxRecDepth 100000 in
theorem play_any {w0 w : World} {B qb : Nat} {v : Value} {l : List Wt} {nx : Int} (h : Qm w B qb v l nx) (hok : Okq l nx) (a : Option Addr) (sc : List Opq) (cap : Nat) (hs : ScR w0 a sc) (hb : Below w0.heap.size w0 w) (hB0 : w0.heap.size ≤ B) (hB : B ≤ w.heap.size) (hl : sc.length ≤ 140737488355328) :
    Calls Try.prog 13 #[.pointer (some ⟨qb, 0, none⟩), .slice a sc.length cap] w fun e w' => e = .returned (.tuple #[]) ∧ Qr w B qb v (ply (l, nx) sc).1 (ply (l, nx) sc).2 w' := by
  have HS := hid hs
  have HQ := hid h
  have HOK := hid hok
  have HB0 := hid hb
  obtain ⟨n, hn⟩ : ∃ n, n = sc.length := ⟨_, rfl⟩
  have HN := hid hn
  rw [← hn] at hl ⊢
  have hmax : n ≤ 9223372036854775807 := by omega
  clear hn hs h hok hb
  go_enter Try.func13, Try.ntmps13
  go_wp2_with fail
  go_loopw [4] (fun s8 wr => ∃ k : Nat, k ≤ n ∧ s8 = .int .i64 (k : Int) ∧ Hid (Qr w B qb v (ply (l, nx) (sc.take k)).1 (ply (l, nx) (sc.take k)).2 wr)) (fun i _ => n - (intOf i).toNat)
  case atStart => exact ⟨0, Nat.zero_le _, rfl, hid (HQ.out.qr (Below.refl _ _))⟩
  case round =>
    obtain ⟨k, hk, rfl, HR⟩ := hrel
    by_cases hlt : k < n
    · have g1 : (k : Int) < (n : Int) := by omega
      have g2 : (0 : Int) ≤ (k : Int) := by omega
      have k1 : k < sc.length := by rw [← HN.out]; exact hlt
      obtain ⟨v1, m1, f1, n1⟩ := HR.out
      have HOK1 := hid (okq_ply (sc.take k) (s := (l, nx)) HOK.out)
      have HBW := hid (qf_below HB0.out hB0 HQ.out f1)
      obtain ⟨b, off, hae, hbb, c0, c1, c2, c3, ra, rc, c4, _⟩ := scr_at (HS.out.low HBW.out) k1
      subst hae
      obtain ⟨x, hx⟩ : ∃ x, x = sc[k]'k1 := ⟨_, rfl⟩
      rw [← hx] at c0 c1 c2 c3 c4
      obtain ⟨rl, hrl⟩ : ∃ r, r = x.rows.length := ⟨_, rfl⟩
      rw [← hrl] at c4
      obtain ⟨kd, hkd⟩ : ∃ r, r = x.kind := ⟨_, rfl⟩
      rw [← hkd] at c0
      have HNX := hid (show ply (l, nx) (sc.take (k + 1)) = ply1 (ply (l, nx) (sc.take k)) x from by rw [hx]; exact ply_take _ _ k1)
      have HM1 := hid m1
      have HF1 := hid (And.intro f1 n1)
      have HSZ := hid (show B ≤ wr.heap.size from Nat.le_trans hB f1.size)
      obtain ⟨L, hL⟩ : ∃ L, L = ply (l, nx) (sc.take k) := ⟨_, rfl⟩
      rw [← hL] at HNX HM1 HOK1
      have HBV := hid (belowA wr (.cells #[.int .i64 kd, .string x.name, .int .i64 x.pr, .int .i64 x.now, .slice ra rl rc] 34))
      have HXV := hid (heap_alloc_new wr (.cells #[.int .i64 kd, .string x.name, .int .i64 x.pr, .int .i64 x.now, .slice ra rl rc] 34))
      have HKD := hid hkd
      have HFIN := hid (show ∀ W', Qr wr B qb v1 (ply1 L x).1 (ply1 L x).2 W' → Qr w B qb v (ply (l, nx) (sc.take (k + 1))).1 (ply (l, nx) (sc.take (k + 1))).2 W' from fun W' hq => by
        rw [HNX.out]
        obtain ⟨v2, m2, f2, n2⟩ := hq
        exact ⟨v2, m2, HF1.out.1.trans HF1.out.2 f2, fun j hj => by
          rcases n2 j hj with e | e
          · exact HF1.out.2 j e
          · exact Or.inr (Nat.le_trans HF1.out.1.size e)⟩)
      clear hbb hx hrl m1 f1 n1 hkd hL HNX HR
      go_upto_region 4 with fail
      generalize wr.alloc (.cells #[.int .i64 kd, .string x.name, .int .i64 x.pr, .int .i64 x.now, .slice ra rl rc] 34) = V at *
      obtain ⟨pb, hpb⟩ : ∃ b, b = wr.heap.size := ⟨_, rfl⟩
      rw [← hpb] at HXV ⊢
      clear hpb c0 c1 c2 c3 c4
      have d0 : V.cell? ⟨pb, 0, none⟩ = some (.int .i64 kd) := cell_of_row V _ 0 _ _ _ HXV.out
      have d1 : V.cell? ⟨pb, 1, none⟩ = some (.string x.name) := cell_of_row V _ 1 _ _ _ HXV.out
      have d2 : V.cell? ⟨pb, 2, none⟩ = some (.int .i64 x.pr) := cell_of_row V _ 2 _ _ _ HXV.out
      have d3 : V.cell? ⟨pb, 3, none⟩ = some (.int .i64 x.now) := cell_of_row V _ 3 _ _ _ HXV.out
      have HMV := hid (HM1.out.low HBV.out)
      have HSV := hid (show B ≤ V.heap.size from Nat.le_trans HSZ.out HBV.out.size)
      clear HXV
      by_cases h4 : kd = 4
      · subst h4
        have HC := hid (push_any HMV.out HOK1.out x.name x.pr HSV.out)
        have HU := hid (show ∀ W', Qr wr B qb v1 (ply1 L x).1 (ply1 L x).2 W' ↔ Qr wr B qb v1 (pshL L.1 L.2 x.name x.pr) (pshN L.1 L.2 x.name) W' from fun W' => by unfold ply1; rw [if_pos HKD.out.symm])
        go_wp2_with fail
        refine HC.out.mono ?_
        rintro e w2 ⟨rfl, q2⟩
        have HQ2 := hid ((HU.out w2).2 (Qr.pre HBV.out q2))
        clear q2 HC
        go_wp2_with fail
        exact ⟨⟨k + 1, by omega, by go_num, hid (HFIN.out _ HQ2.out)⟩, by simp [intOf]; omega⟩
      by_cases h5 : kd = 5
      · subst h5
        have HC := hid (take_any HMV.out HOK1.out.few x.name HSV.out)
        have HU := hid (show ∀ W', Qr wr B qb v1 (ply1 L x).1 (ply1 L x).2 W' ↔ Qr wr B qb v1 (tkeL L.1 x.name) L.2 W' from fun W' => by unfold ply1; rw [if_neg (by rw [← HKD.out]; decide), if_pos HKD.out.symm])
        go_wp2_with fail
        refine HC.out.mono ?_
        rintro e w2 ⟨rfl, q2⟩
        have HQ2 := hid ((HU.out w2).2 (Qr.pre HBV.out q2))
        clear q2 HC
        go_wp2_with fail
        exact ⟨⟨k + 1, by omega, by go_num, hid (HFIN.out _ HQ2.out)⟩, by simp [intOf]; omega⟩
      by_cases h7 : kd = 7
      · subst h7
        have HC := hid (park_any HMV.out HOK1.out x.name x.now HSV.out)
        have HU := hid (show ∀ W', Qr wr B qb v1 (ply1 L x).1 (ply1 L x).2 W' ↔ Qr wr B qb v1 (prkL L.1 x.name x.now) L.2 W' from fun W' => by unfold ply1; rw [if_neg (by rw [← HKD.out]; decide), if_neg (by rw [← HKD.out]; decide), if_pos HKD.out.symm])
        go_wp2_with fail
        refine HC.out.mono ?_
        rintro e w2 ⟨rfl, q2⟩
        have HQ2 := hid ((HU.out w2).2 (Qr.pre HBV.out q2))
        clear q2 HC
        go_wp2_with fail
        exact ⟨⟨k + 1, by omega, by go_num, hid (HFIN.out _ HQ2.out)⟩, by simp [intOf]; omega⟩
      by_cases h8 : kd = 8
      · subst h8
        have HC := hid (wake_any HMV.out HOK1.out.few)
        have HU := hid (show ∀ W', Qr wr B qb v1 (ply1 L x).1 (ply1 L x).2 W' ↔ Qr wr B qb v1 (wks L.1) L.2 W' from fun W' => by unfold ply1; rw [if_neg (by rw [← HKD.out]; decide), if_neg (by rw [← HKD.out]; decide), if_neg (by rw [← HKD.out]; decide), if_pos HKD.out.symm])
        go_wp2_with fail
        refine HC.out.mono ?_
        rintro e w2 ⟨rfl, q2⟩
        have HQ2 := hid ((HU.out w2).2 (Qr.pre HBV.out q2))
        clear q2 HC
        go_wp2_with fail
        exact ⟨⟨k + 1, by omega, by go_num, hid (HFIN.out _ HQ2.out)⟩, by simp [intOf]; omega⟩
      have HU := hid (show ply1 L x = L from by
        unfold ply1
        rw [if_neg (by rw [← HKD.out]; exact h4), if_neg (by rw [← HKD.out]; exact h5), if_neg (by rw [← HKD.out]; exact h7), if_neg (by rw [← HKD.out]; exact h8)])
      go_wp2_with fail
      exact ⟨⟨k + 1, by omega, by go_num, hid (HFIN.out _ (by rw [HU.out]; exact HM1.out.qr HBV.out))⟩, by simp [intOf]; omega⟩
    · have g1 : ¬ (k : Int) < (n : Int) := by omega
      have HK := hid (show sc.take k = sc from by rw [List.take_of_length_le (by rw [← HN.out]; omega)])
      go_wp2_with fail
      go_end0
      refine ⟨by first | rfl | simp, ?_⟩
      have q := HR.out
      rw [HK.out] at q
      exact q
end Go.Proofs.Ytfbagkajbnomoaa.L
