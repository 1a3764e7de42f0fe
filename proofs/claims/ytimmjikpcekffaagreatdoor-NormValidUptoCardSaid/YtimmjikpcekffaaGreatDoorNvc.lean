import Derived.Test.YtimmjikpcekffaaGreatDoorMgAR
import Derived.Test.YtimmjikpcekffaaGreatDoorMgAN
namespace Go.Proofs.YtimmjikpcekffaaGreatDoor.L
open Go.RowKit
set_option linter.unusedVariables false
set_option linter.unusedSimpArgs false
/-- A part that may stand in a place, whatever its kids are. -/
def PartQ (mv ns : Int) (p : Pp) : Prop := PartP mv ns p.pk p.pn p.l.kd p.l.tk p.l.ts p.l.ty p.l.tl p.l.rl p.l.nu none p.l.tx.length 0 none p.l.nm.length 0 p.l.ok p.l.os p.l.oy p.l.ol p.l.of p.l.ky p.l.sl p.ks.length p.l.tx p.l.nm
theorem partq (mv ns : Int) (p : Pp) (xa : Option Addr) (xc : Nat) (na : Option Addr) (nc : Nat) : PartP mv ns p.pk p.pn p.l.kd p.l.tk p.l.ts p.l.ty p.l.tl p.l.rl p.l.nu xa p.l.tx.length xc na p.l.nm.length nc p.l.ok p.l.os p.l.oy p.l.ol p.l.of p.l.ky p.l.sl p.ks.length p.l.tx p.l.nm ↔ PartQ mv ns p := by
  unfold PartQ PartP LitP InP BareP pdB
  exact Iff.rfl
/-- What stands ahead of place i and is nobody's kid yet. -/
def frq (T : List Pp) : Nat → List Int
  | 0 => []
  | i + 1 => (frq T i).take ((frq T i).length - (pp T i).ks.length) ++ [(i : Int)]
theorem frq_len (T : List Pp) : ∀ i, (frq T i).length ≤ i
  | 0 => by simp [frq]
  | i + 1 => by
    have := frq_len T i
    simp [frq]
    omega
def OkQ (mv ns : Int) (T : List Pp) (k : Nat) : Prop := (pp T k).ks.length ≤ (frq T k).length ∧ (pp T k).ks = (frq T k).drop ((frq T k).length - (pp T k).ks.length) ∧ PartQ mv ns (pp T k)
/-- A list that may stand in a place. -/
def TkP (mv ns : Int) (T : List Pp) : Prop := (∀ j, j < T.length → OkQ mv ns T j) ∧ (frq T T.length).length = 1
/-- A part not too great for a machine. -/
def GdQ (p : Pp) : Prop := p.ks.length ≤ 140737488355328 ∧ p.l.tx.length ≤ 140737488355328 ∧ p.l.nm.length ≤ 140737488355328 ∧ p.l.ty.size ≤ maxLen ∧ p.l.oy.size ≤ maxLen ∧ p.l.ky.size ≤ maxLen ∧ ∀ k, (p.l.tx.getD k ByteArray.empty).size ≤ maxLen
def GdP (T : List Pp) : Prop := T.length ≤ 17592186044000 ∧ ∀ j, j < T.length → GdQ (pp T j)
theorem part_c (mv ns : Int) (p : Pp) (xa : Option Addr) (xc : Nat) (na : Option Addr) (nc : Nat) (ka : Option Addr) (kc : Nat) (w : World) (hg : GdQ p) (rx : RdS w xa p.l.tx) (rn : RdI w na p.l.nm) :
    Calls Tryz.prog 33 #[.agg #[.int .i64 mv, .int .i64 ns], .agg #[.int .i64 p.pk, .bool p.pn, .int .i64 p.l.kd, .int .i64 p.l.tk, .int .i64 p.l.ts, .string p.l.ty, .int .i64 p.l.tl, .int .i64 p.l.rl, .int .i64 p.l.nu, .slice xa p.l.tx.length xc, .slice na p.l.nm.length nc, .int .i64 p.l.ok, .int .i64 p.l.os, .string p.l.oy, .int .i64 p.l.ol, .int .i64 p.l.of, .string p.l.ky, .int .i64 p.l.sl, .slice ka p.ks.length kc]] w fun e w' => (∃ b, e = .returned (.bool b) ∧ (b = true ↔ PartQ mv ns p)) ∧ Below w.heap.size w w' := by
  obtain ⟨g1, g2, g3, g4, g5, g6, g7⟩ := hg
  refine (tpart_any mv ns p.pk p.pn p.l.kd p.l.tk p.l.ts p.l.ty p.l.tl p.l.rl p.l.nu xa p.l.tx.length xc na p.l.nm.length nc p.l.ok p.l.os p.l.oy p.l.ol p.l.of p.l.ky p.l.sl ka p.ks.length kc p.l.tx p.l.nm w g4 g5 g6 rfl rfl rx rn g2 g3 g7).mono ?_
  rintro e w' ⟨⟨b, rfl, hb⟩, hl⟩
  exact ⟨⟨b, rfl, hb.trans (partq mv ns p xa xc na nc)⟩, hl⟩
theorem RdS.drew {w : World} {a : Option Addr} {zs : List ByteArray} (h : RdS w a zs) (n : Nat) : RdS (w.drewN n) a zs := h
theorem cells21 {Y : World} {bx bp n : Nat} {mv ns : Int} {p : Pp} {xa : Option Addr} {xc : Nat} {na : Option Addr} {nc : Nat} {ka : Option Addr} {kc : Nat} (h : Bs Y bx [.int .i64 p.pk, .bool p.pn, .int .i64 p.l.kd, .int .i64 p.l.tk, .int .i64 p.l.ts, .string p.l.ty, .int .i64 p.l.tl, .int .i64 p.l.rl, .int .i64 p.l.nu, .slice xa p.l.tx.length xc, .slice na p.l.nm.length nc, .int .i64 p.l.ok, .int .i64 p.l.os, .string p.l.oy, .int .i64 p.l.ol, .int .i64 p.l.of, .string p.l.ky, .int .i64 p.l.sl, .slice ka n kc]) (h2 : Bs Y bp [.int .i64 mv, .int .i64 ns]) : Y.cell? ⟨bx, 0, none⟩ = some (.int .i64 p.pk) ∧ Y.cell? ⟨bx, 1, none⟩ = some (.bool p.pn) ∧ Y.cell? ⟨bx, 2, none⟩ = some (.int .i64 p.l.kd) ∧ Y.cell? ⟨bx, 3, none⟩ = some (.int .i64 p.l.tk) ∧ Y.cell? ⟨bx, 4, none⟩ = some (.int .i64 p.l.ts) ∧ Y.cell? ⟨bx, 5, none⟩ = some (.string p.l.ty) ∧ Y.cell? ⟨bx, 6, none⟩ = some (.int .i64 p.l.tl) ∧ Y.cell? ⟨bx, 7, none⟩ = some (.int .i64 p.l.rl) ∧ Y.cell? ⟨bx, 8, none⟩ = some (.int .i64 p.l.nu) ∧ Y.cell? ⟨bx, 9, none⟩ = some (.slice xa p.l.tx.length xc) ∧ Y.cell? ⟨bx, 10, none⟩ = some (.slice na p.l.nm.length nc) ∧ Y.cell? ⟨bx, 11, none⟩ = some (.int .i64 p.l.ok) ∧ Y.cell? ⟨bx, 12, none⟩ = some (.int .i64 p.l.os) ∧ Y.cell? ⟨bx, 13, none⟩ = some (.string p.l.oy) ∧ Y.cell? ⟨bx, 14, none⟩ = some (.int .i64 p.l.ol) ∧ Y.cell? ⟨bx, 15, none⟩ = some (.int .i64 p.l.of) ∧ Y.cell? ⟨bx, 16, none⟩ = some (.string p.l.ky) ∧ Y.cell? ⟨bx, 17, none⟩ = some (.int .i64 p.l.sl) ∧ Y.cell? ⟨bx, 18, none⟩ = some (.slice ka n kc) ∧ Y.cell? ⟨bp, 0, none⟩ = some (.int .i64 mv) ∧ Y.cell? ⟨bp, 1, none⟩ = some (.int .i64 ns) := ⟨h.2 0 _ rfl, h.2 1 _ rfl, h.2 2 _ rfl, h.2 3 _ rfl, h.2 4 _ rfl, h.2 5 _ rfl, h.2 6 _ rfl, h.2 7 _ rfl, h.2 8 _ rfl, h.2 9 _ rfl, h.2 10 _ rfl, h.2 11 _ rfl, h.2 12 _ rfl, h.2 13 _ rfl, h.2 14 _ rfl, h.2 15 _ rfl, h.2 16 _ rfl, h.2 17 _ rfl, h.2 18 _ rfl, h2.2 0 _ rfl, h2.2 1 _ rfl⟩
theorem held4 {Y : World} {bx bp n : Nat} {mv ns : Int} {p : Pp} {xa : Option Addr} {xc : Nat} {na : Option Addr} {nc : Nat} {ka : Option Addr} {kc : Nat} (h : Bs Y bx [.int .i64 p.pk, .bool p.pn, .int .i64 p.l.kd, .int .i64 p.l.tk, .int .i64 p.l.ts, .string p.l.ty, .int .i64 p.l.tl, .int .i64 p.l.rl, .int .i64 p.l.nu, .slice xa p.l.tx.length xc, .slice na p.l.nm.length nc, .int .i64 p.l.ok, .int .i64 p.l.os, .string p.l.oy, .int .i64 p.l.ol, .int .i64 p.l.of, .string p.l.ky, .int .i64 p.l.sl, .slice ka n kc]) (h2 : Bs Y bp [.int .i64 mv, .int .i64 ns]) : Y.cell? ⟨bx, 18, none⟩ = some (.slice ka n kc) ∧ Y.cell? ⟨bp, 0, none⟩ = some (.int .i64 mv) ∧ Y.cell? ⟨bp, 1, none⟩ = some (.int .i64 ns) ∧ Hid (Bs Y bx [.int .i64 p.pk, .bool p.pn, .int .i64 p.l.kd, .int .i64 p.l.tk, .int .i64 p.l.ts, .string p.l.ty, .int .i64 p.l.tl, .int .i64 p.l.rl, .int .i64 p.l.nu, .slice xa p.l.tx.length xc, .slice na p.l.nm.length nc, .int .i64 p.l.ok, .int .i64 p.l.os, .string p.l.oy, .int .i64 p.l.ol, .int .i64 p.l.of, .string p.l.ky, .int .i64 p.l.sl, .slice ka n kc]) := ⟨h.2 18 _ rfl, h2.2 0 _ rfl, h2.2 1 _ rfl, hid h⟩
set_option maxHeartbeats 16000000 in
set_option maxRecDepth 100000 in
theorem ptakes_any (mv ns : Int) (a : Option Addr) (T : List Pp) (L cap : Nat) (hLe : L = T.length) (w : World) (hT : PQ w a T) (hG : GdP T) :
    Calls Tryz.prog 21 #[.agg #[.int .i64 mv, .int .i64 ns], .slice a L cap] w fun e w' => (∃ b, e = .returned (.bool b) ∧ (b = true ↔ TkP mv ns T)) ∧ Below w.heap.size w w' := by
  obtain ⟨i3, hi, hz0, hz1i, hz2⟩ := info_parts info3
  have hL : L ≤ 17592186044000 := by rw [hLe]; exact hG.1
  have LX : Below w.heap.size w (w.alloc (.cells #[.int .i64 mv, .int .i64 ns] 61)) := belowA w _
  have X0 : Bs (w.alloc (.cells #[.int .i64 mv, .int .i64 ns] 61)) w.heap.size [.int .i64 mv, .int .i64 ns] := by simpa using bs_new w #[.int .i64 mv, .int .i64 ns] 61
  have HLX := hid LX
  have HX0 := hid X0
  have HT := hid (hT.low LX)
  have HL := hid hLe
  have HG := hid hG
  have HEQ := hid equal_any
  have HTP := hid part_c
  clear hT hLe hG LX X0
  go_enter Tryz.func21, Tryz.ntmps21
  go_wp2_with fail
  generalize w.alloc (.cells #[.int .i64 mv, .int .i64 ns] 61) = w1 at *
  generalize hbp : w.heap.size = bp at *
  have HBP := hid hbp
  clear hbp
  go_loopw [5, 11] (fun v i wr => ∃ k : Nat, k ≤ L ∧ i = .int .i64 k ∧ Hid (Below w1.heap.size w1 wr) ∧ Hid (OwnI wr w1.heap.size v (frq T k)) ∧ Hid (∀ j, j < k → OkQ mv ns T j)) (fun _ i _ => L - (intOf i).toNat)
  case atStart => exact ⟨0, Nat.zero_le _, rfl, hid (Below.refl _ _), hid (World.ownsRow_nil _ _ _ _), hid (fun j hj => by omega)⟩
  case round =>
    obtain ⟨k, hk, rfl, HB, OW, HE⟩ := hrel
    obtain ⟨va, vc, rfl⟩ := own_form OW.out
    have hfl := frq_len T k
    obtain ⟨m, hm⟩ : ∃ m, m = (frq T k).length := ⟨_, rfl⟩
    rw [← hm] at OW hfl ⊢
    have HM := hid hm
    clear hm
    by_cases hlt : k < L
    · rcases HT.out.low HB.out with h0 | ⟨b2, o2, rfl, hb2, hc2⟩
      · have := HL.out; omega
      obtain ⟨xa, xc, na, nc, ka, kc, c, rx, rn, rk⟩ := hc2 k (by rw [← HL.out]; exact hlt)
      have HGK := hid (HG.out.2 k (by rw [← HL.out]; exact hlt))
      obtain ⟨p, hp⟩ : ∃ p, p = pp T k := ⟨_, rfl⟩
      rw [← hp] at c rx rn rk HGK
      have HPT := hid hp
      clear hp hc2
      obtain ⟨cs, hcs⟩ : ∃ cs, cs = pvs p xa xc na nc ka kc := ⟨_, rfl⟩
      rw [← hcs] at c
      have hz9 : cs.length = 19 := by rw [hcs]; rfl
      have h1c : cs.toArray.all (·.oneCell') = true := by rw [hcs]; kernel_rfl
      have HCS := hid hcs
      have HC := hid c
      have RX := hid rx
      have RN := hid rn
      have RK := hid rk
      clear hcs c rx rn rk
      have g1 : (k : Int) < (L : Int) := by omega
      have g2 : (0 : Int) ≤ (k : Int) := by omega
      go_upto_region 4 with (fail)
      refine wp_region_lit ?_
      refine wpList_plain rfl fun K hK => ?_
      have HK := hid hK
      clear hK
      go_simp
      refine HK.out _ _ ?_
      clear HK
      try simp only [Act.put, List.setIfInBounds_toArray, List.set_cons_zero, List.set_cons_succ]
      refine wpList_plain rfl fun K hK => ?_
      have HK := hid hK
      clear hK
      go_simp
      refine HK.out _ _ ?_
      clear HK
      try simp only [Act.put, List.setIfInBounds_toArray, List.set_cons_zero, List.set_cons_succ]
      refine wpList_load_mid rfl 51 _ rfl b2 (o2 + k * 19) rfl cs _ HC.out Tryz.underlying51 rfl (by rw [hz9]; exact infoPP) ?_
      try simp only [Act.put, List.setIfInBounds_toArray, List.set_cons_zero, List.set_cons_succ]
      refine wpList_plain rfl fun K hK => ?_
      have HK := hid hK
      clear hK
      go_simp
      refine HK.out _ _ ?_
      clear HK
      try simp only [Act.put, List.setIfInBounds_toArray, List.set_cons_zero, List.set_cons_succ]
      refine wpList_plain rfl fun K hK => ?_
      have HK := hid hK
      clear hK
      go_simp
      refine HK.out _ _ ?_
      clear HK
      try simp only [Act.put, List.setIfInBounds_toArray, List.set_cons_zero, List.set_cons_succ]
      refine wpList_store_row rfl 51 _ _ rfl wr.heap.size cs.toArray rfl rfl 51 _ (heap_alloc_new wr _) (by simp only [List.size_toArray]; rw [hz9]; exact infoPP) (by simp only [List.size_toArray]; rw [hz9]; rfl) h1c ?_
      try simp only [Act.put, List.setIfInBounds_toArray, List.set_cons_zero, List.set_cons_succ]
      refine over_new (F := fun X => wpList _ _ _ _ _ X) ?_
      intro X nb nsz nc'
      obtain ⟨n, hn⟩ : ∃ n, n = p.ks.length := ⟨_, rfl⟩
      have q18 : X.cell? ⟨wr.heap.size, 18, none⟩ = some (.slice ka n kc) := nc'.2 18 _ (by rw [HCS.out, hn]; rfl)
      have HN := hid hn
      have HNB := hid nb
      have HNC := hid nc'
      have HNS := hid nsz
      clear nb nc' nsz h1c hn
      generalize hwr : wr.heap.size = bx at *
      have HWR := hid hwr
      clear hwr
      have HB19 := hid (show Bs X bx [.int .i64 p.pk, .bool p.pn, .int .i64 p.l.kd, .int .i64 p.l.tk, .int .i64 p.l.ts, .string p.l.ty, .int .i64 p.l.tl, .int .i64 p.l.rl, .int .i64 p.l.nu, .slice xa p.l.tx.length xc, .slice na p.l.nm.length nc, .int .i64 p.l.ok, .int .i64 p.l.os, .string p.l.oy, .int .i64 p.l.ol, .int .i64 p.l.of, .string p.l.ky, .int .i64 p.l.sl, .slice ka n kc] by rw [HN.out]; have h := HNC.out; rw [HCS.out] at h; exact h)
      have HB2 := hid (show Bs X bp [.int .i64 mv, .int .i64 ns] from (HX0.out.low HB.out).low (by rw [HWR.out]; exact HNB.out))
      have HBX := hid (show Below w.heap.size w X by rw [HBP.out]; exact (HLX.out.trans (HB.out.mono (by have h1 := HLX.out.size; have h4 := HBP.out; omega))).trans (HNB.out.mono (by have h1 := HLX.out.size; have h2 := HB.out.size; have h3 := HWR.out; have h4 := HBP.out; omega)))
      have HRX := hid (show RdS X xa p.l.tx from RX.out.low HNB.out (by rw [HWR.out]; exact Nat.le_refl _))
      have HRN := hid (show RdI X na p.l.nm from RN.out.low HNB.out (by rw [HWR.out]; exact Nat.le_refl _))
      have HRK := hid (show RdI X ka p.ks from RK.out.low HNB.out (by rw [HWR.out]; exact Nat.le_refl _))
      have hgn : n ≤ 140737488355328 := by rw [HN.out]; exact HGK.out.1
      by_cases hA : m < n
      · have d1 : decide ((m : Int) - (n : Int) < 0) = true := by simp; omega
        go_wp2_with fail
        go_quiet (fail)
        go_wp2_with fail
        go_ret
        refine ⟨⟨_, rfl, ?_⟩, below_drewN HBX.out nq⟩
        constructor
        · intro h; cases h
        · intro h
          have h5 := (h.1 k (by rw [← HL.out]; exact hlt)).1
          rw [← HM.out, ← HPT.out, ← HN.out] at h5
          omega
      · obtain ⟨h, hh⟩ : ∃ h, m = h + n := ⟨m - n, by omega⟩
        have hmn : (m : Int) - (n : Int) = (h : Int) := by omega
        have d1 : decide ((h : Int) < 0) = false := by simp
        obtain ⟨tx1, tc1, TR, TRD⟩ := tail_run OW.out HM.out hh
        have HD := hid (TRD X (by rw [HWR.out]; exact HNB.out))
        have hdl : ((frq T k).drop h).length = n := by rw [List.length_drop, ← HM.out]; omega
        have HQ := HEQ.out ka tx1 p.ks ((frq T k).drop h) kc tc1
        rw [hdl, ← HN.out] at HQ
        have HQ2 := hid HQ
        have HH := hid hh
        have HTK := HTP.out mv ns p xa xc na nc ka kc
        rw [← HN.out] at HTK
        have HTQ := hid HTK
        have HGN := hid hgn
        clear TRD HQ hh hdl HTK q18 hgn
        have x18 := (cells21 HB19.out HB2.out).2.2.2.2.2.2.2.2.2.2.2.2.2.2.2.2.2.2.1
        go_wp2_with fail
        clear x18
        by_cases hEq : p.ks = (frq T k).drop h
        · have eD : decide (p.ks = (frq T k).drop h) = true := by simp [hEq]
          rw [eD] at HQ2
          have HNE := hid hEq
          clear hEq eD
          have T1 := held4 HB19.out HB2.out
          refine wp_region_held_drew (S := (fun Y => Y.cell? ⟨bx, 18, none⟩ = some (.slice ka n kc) ∧ Y.cell? ⟨bp, 0, none⟩ = some (.int .i64 mv) ∧ Y.cell? ⟨bp, 1, none⟩ = some (.int .i64 ns) ∧ Hid (Bs Y bx [.int .i64 p.pk, .bool p.pn, .int .i64 p.l.kd, .int .i64 p.l.tk, .int .i64 p.l.ts, .string p.l.ty, .int .i64 p.l.tl, .int .i64 p.l.rl, .int .i64 p.l.nu, .slice xa p.l.tx.length xc, .slice na p.l.nm.length nc, .int .i64 p.l.ok, .int .i64 p.l.os, .string p.l.oy, .int .i64 p.l.ol, .int .i64 p.l.of, .string p.l.ky, .int .i64 p.l.sl, .slice ka n kc]))) (by kernel_rfl) ?_ (fun hHeld => ?_)
          · exact T1
          refine wpAnyH_take (i := 0) (oi := _) (v := ?_) rfl (by kernel_rfl) (by kernel_rfl) (by kernel_rfl) (fun _ _ _ h => h) (Or.inl ⟨by first | rfl | kernel_rfl, ?_⟩) (by assumption) ?_
          rotate_left
          · (intro w hSw; (try dsimp only at hSw); go_simp; try with_reducible rfl)
          try simp only [Act.put, List.setIfInBounds_toArray, List.set_cons_zero, List.set_cons_succ]
          refine wpAnyH_take (i := 1) (oi := _) (v := ?_) rfl (by kernel_rfl) (by kernel_rfl) (by kernel_rfl) (fun _ _ _ h => h) (Or.inl ⟨by first | rfl | kernel_rfl, ?_⟩) (by assumption) ?_
          rotate_left
          · (intro w hSw; (try dsimp only at hSw); go_simp; try with_reducible rfl)
          try simp only [Act.put, List.setIfInBounds_toArray, List.set_cons_zero, List.set_cons_succ]
          refine wpAnyH_take (i := 2) (oi := _) (v := ?_) rfl (by kernel_rfl) (by kernel_rfl) (by kernel_rfl) (fun _ _ _ h => h) (Or.inl ⟨by first | rfl | kernel_rfl, ?_⟩) (by assumption) ?_
          rotate_left
          · (intro w hSw; (try dsimp only at hSw); go_simp; try with_reducible rfl)
          try simp only [Act.put, List.setIfInBounds_toArray, List.set_cons_zero, List.set_cons_succ]
          refine wpAnyH_take (i := 3) (oi := _) (v := ?_) rfl (by kernel_rfl) (by kernel_rfl) (by kernel_rfl) (fun _ _ _ h => h) (Or.inl ⟨by first | rfl | kernel_rfl, ?_⟩) (by assumption) ?_
          rotate_left
          · (intro w hSw; (try dsimp only at hSw); go_simp; try with_reducible rfl)
          try simp only [Act.put, List.setIfInBounds_toArray, List.set_cons_zero, List.set_cons_succ]
          refine wpAnyH_take (i := 4) (oi := _) (v := ?_) rfl (by kernel_rfl) (by kernel_rfl) (by kernel_rfl) (fun _ _ _ h => h) (Or.inl ⟨by first | rfl | kernel_rfl, ?_⟩) (by assumption) ?_
          rotate_left
          · (intro w hSw; (try dsimp only at hSw); go_simp; try with_reducible rfl)
          try simp only [Act.put, List.setIfInBounds_toArray, List.set_cons_zero, List.set_cons_succ]
          refine wpAnyH_take (i := 5) (oi := _) (v := ?_) rfl (by kernel_rfl) (by kernel_rfl) (by kernel_rfl) (fun _ _ _ h => h) (Or.inl ⟨by first | rfl | kernel_rfl, ?_⟩) (by assumption) ?_
          rotate_left
          · (intro w hSw; (try dsimp only at hSw); go_simp; try with_reducible rfl)
          try simp only [Act.put, List.setIfInBounds_toArray, List.set_cons_zero, List.set_cons_succ]
          refine wpAnyH_take (i := 6) (oi := _) (v := ?_) rfl (by kernel_rfl) (by kernel_rfl) (by kernel_rfl) (fun _ _ _ h => h) (Or.inl ⟨by first | rfl | kernel_rfl, ?_⟩) (by assumption) ?_
          rotate_left
          · (intro w hSw; (try dsimp only at hSw); go_simp; try with_reducible rfl)
          try simp only [Act.put, List.setIfInBounds_toArray, List.set_cons_zero, List.set_cons_succ]
          refine wpAnyH_take (i := 7) (oi := _) (v := ?_) rfl (by kernel_rfl) (by kernel_rfl) (by kernel_rfl) (fun _ _ _ h => h) (Or.inl ⟨by first | rfl | kernel_rfl, ?_⟩) (by assumption) ?_
          rotate_left
          · (intro w hSw; (try dsimp only at hSw); go_simp; try with_reducible rfl)
          try simp only [Act.put, List.setIfInBounds_toArray, List.set_cons_zero, List.set_cons_succ]
          refine wpAnyH_ready (rs := [8]) (by kernel_rfl) (by simp) ?_
          refine AllReadyH.cons (o := _) rfl (fun K hK => ?_) AllReadyH.nil
          go_simp
          refine (HQ2.out _ (HRK.out.low (Below.refl _ _).drew (Nat.le_refl _)) (HD.out.low (Below.refl _ _).drew (Nat.le_refl _)) HGN.out).mono ?_
          rintro e w2 ⟨rfl, m2, hm2⟩
          have L2 := hid (show Below X.heap.size X w2 by rw [hm2]; exact ⟨rfl, rfl, rfl, Nat.le_refl _, fun _ _ => rfl⟩)
          have T2 := held4 (HB19.out.low L2.out) (HB2.out.low L2.out)
          clear hm2 hHeld
          go_wp2_with fail
          refine hK.out _ _ T2 (fun hHeld => ?_)
          clear hK K
          try simp only [Act.put, List.setIfInBounds_toArray, List.set_cons_zero, List.set_cons_succ]
          refine wpAnyH_take (i := 9) (oi := _) (v := ?_) rfl (by kernel_rfl) (by kernel_rfl) (by kernel_rfl) (fun _ _ _ h => h) (Or.inl ⟨by first | rfl | kernel_rfl, ?_⟩) (by assumption) ?_
          rotate_left
          · (intro w hSw; (try dsimp only at hSw); go_simp; try with_reducible rfl)
          try simp only [Act.put, List.setIfInBounds_toArray, List.set_cons_zero, List.set_cons_succ]
          refine wpAnyH_take (i := 10) (oi := _) (v := ?_) rfl (by kernel_rfl) (by kernel_rfl) (by kernel_rfl) (fun _ _ _ h => h) (Or.inl ⟨by first | rfl | kernel_rfl, ?_⟩) (by assumption) ?_
          rotate_left
          · (intro w hSw; (try dsimp only at hSw); go_simp; try with_reducible rfl)
          try simp only [Act.put, List.setIfInBounds_toArray, List.set_cons_zero, List.set_cons_succ]
          refine wpAnyH_take (i := 11) (oi := _) (v := ?_) rfl (by kernel_rfl) (by kernel_rfl) (by kernel_rfl) (fun _ _ _ h => h) (Or.inl ⟨by first | rfl | kernel_rfl, ?_⟩) (by assumption) ?_
          rotate_left
          · (intro w hSw; (try dsimp only at hSw); go_simp; try with_reducible rfl)
          try simp only [Act.put, List.setIfInBounds_toArray, List.set_cons_zero, List.set_cons_succ]
          refine wpAnyH_take (i := 12) (oi := _) (v := ?_) rfl (by kernel_rfl) (by kernel_rfl) (by kernel_rfl) (fun _ _ _ h => h) (Or.inl ⟨by first | rfl | kernel_rfl, ?_⟩) (by assumption) ?_
          rotate_left
          · (intro w hSw; (try dsimp only at hSw); go_simp; try with_reducible rfl)
          try simp only [Act.put, List.setIfInBounds_toArray, List.set_cons_zero, List.set_cons_succ]
          refine wpAnyH_take (i := 13) (oi := _) (v := .agg #[.int .i64 p.pk, .bool p.pn, .int .i64 p.l.kd, .int .i64 p.l.tk, .int .i64 p.l.ts, .string p.l.ty, .int .i64 p.l.tl, .int .i64 p.l.rl, .int .i64 p.l.nu, .slice xa p.l.tx.length xc, .slice na p.l.nm.length nc, .int .i64 p.l.ok, .int .i64 p.l.os, .string p.l.oy, .int .i64 p.l.ol, .int .i64 p.l.of, .string p.l.ky, .int .i64 p.l.sl, .slice ka n kc]) rfl (by kernel_rfl) (by kernel_rfl) (by kernel_rfl) (fun _ _ _ h => h) (yieldsIf_load_mid (by first | rfl | kernel_rfl) 51 _ rfl bx 0 rfl [.int .i64 p.pk, .bool p.pn, .int .i64 p.l.kd, .int .i64 p.l.tk, .int .i64 p.l.ts, .string p.l.ty, .int .i64 p.l.tl, .int .i64 p.l.rl, .int .i64 p.l.nu, .slice xa p.l.tx.length xc, .slice na p.l.nm.length nc, .int .i64 p.l.ok, .int .i64 p.l.os, .string p.l.oy, .int .i64 p.l.ol, .int .i64 p.l.of, .string p.l.ky, .int .i64 p.l.sl, .slice ka n kc] _ (fun W hS j v h => by simpa using hS.2.2.2.out.2 j v h) Tryz.underlying51 rfl infoPP) (by assumption) ?_
          try simp only [Act.put, List.setIfInBounds_toArray, List.set_cons_zero, List.set_cons_succ]
          refine wpAnyH_ready (rs := [14]) (by kernel_rfl) (by simp) ?_
          refine AllReadyH.cons (o := _) rfl (fun K hK => ?_) AllReadyH.nil
          go_simp
          refine (HTQ.out _ HGK.out (HRX.out.low L2.out (Nat.le_refl _)) (HRN.out.low L2.out (Nat.le_refl _))).mono ?_
          rintro e w3 ⟨⟨bb, rfl, hbb⟩, l3⟩
          have L3 := hid (show Below X.heap.size X w3 from L2.out.trans (l3.mono L2.out.size))
          have HBB := hid hbb
          have T3 := held4 (HB19.out.low L3.out) (HB2.out.low L3.out)
          clear l3 hbb hHeld
          go_wp2_with fail
          refine hK.out _ _ T3 (fun hHeld => ?_)
          clear hK K
          try simp only [Act.put, List.setIfInBounds_toArray, List.set_cons_zero, List.set_cons_succ]
          refine wpAnyH_take (i := 15) (oi := _) (v := ?_) rfl (by kernel_rfl) (by kernel_rfl) (by kernel_rfl) (fun _ _ _ h => h) (Or.inl ⟨by first | rfl | kernel_rfl, ?_⟩) (by assumption) ?_
          rotate_left
          · (intro w hSw; (try dsimp only at hSw); go_simp; try with_reducible rfl)
          try simp only [Act.put, List.setIfInBounds_toArray, List.set_cons_zero, List.set_cons_succ]
          refine wpAnyH_take (i := 16) (oi := _) (v := ?_) rfl (by kernel_rfl) (by kernel_rfl) (by kernel_rfl) (fun _ _ _ h => h) (Or.inl ⟨by first | rfl | kernel_rfl, ?_⟩) (by assumption) ?_
          rotate_left
          · (intro w hSw; (try dsimp only at hSw); go_simp; try with_reducible rfl)
          try simp only [Act.put, List.setIfInBounds_toArray, List.set_cons_zero, List.set_cons_succ]
          refine wpAnyH_done (by kernel_rfl) ?_ _
          clear hHeld
          have BW3 := hid (show Below w.heap.size w w3 from HBX.out.trans (L3.out.mono HBX.out.size))
          have BR3 := hid (show Below wr.heap.size wr w3 from (show Below wr.heap.size wr X by rw [HWR.out]; exact HNB.out).trans (L3.out.mono HNB.out.size))
          have BW13 := hid (show Below w1.heap.size w1 w3 from HB.out.trans (BR3.out.mono HB.out.size))
          clear T1 T2 T3 TR
          cases bb
          · go_wp2_with fail
            go_ret
            refine ⟨⟨_, rfl, ?_⟩, BW3.out⟩
            constructor
            · intro h; cases h
            · intro hc
              have h5 := (hc.1 k (by rw [← HL.out]; exact hlt)).2.2
              rw [← HPT.out] at h5
              exact absurd (HBB.out.2 h5) (by decide)
          · have HRU := head_run (h := h) OW.out HM.out (by have := HH.out; omega)
            have O0 := hid (own_take (show OwnI w3 w1.heap.size (.slice va (frq T k).length vc) (frq T k) by rw [← HM.out]; exact own_low OW.out BR3.out) h (by have := HH.out; have := HM.out; omega))
            have own0 := hid (own_block O0.out)
            have hhm : h ≤ 17592186044000 := by have := HH.out; omega
            have hmn2 : m - n = h := by have := HH.out; omega
            have HOKK := hid (show OkQ mv ns T k from ⟨by rw [← HPT.out, ← HM.out, ← HN.out]; have := HH.out; omega, by rw [← HPT.out, ← HM.out, ← HN.out, hmn2]; exact HNE.out, by rw [← HPT.out]; exact HBB.out.1 rfl⟩)
            have HFR := hid (show frq T (k + 1) = (frq T k).take h ++ [(k : Int)] by
              show (frq T k).take ((frq T k).length - (pp T k).ks.length) ++ _ = _
              rw [← HPT.out, ← HM.out, ← HN.out, hmn2])
            have hth : ((frq T k).take h).length = h := by rw [List.length_take, ← HM.out]; have := HH.out; omega
            have O1 : w3.ownsRow w1.heap.size 3 1 (.slice va h vc) h (((frq T k).take h).map (Value.int .i64)) := by
              have := O0.out
              unfold OwnI at this
              rw [hth] at this
              exact this
            have O2 := hid O1
            clear hmn O1 hth hmn2
            go_wp2_with (at_builtin; refine wpList_append_own _ rfl _ _ 29 rfl w1.heap.size 3 i3 (.int .i64 0) 1 8 Tryz.underlying29 hi hz0 hz1i hz2 rfl (by decide) _ _ _ rfl (O2.out.alloc _) ⟨w3.heap.size, 0, none⟩ 1 1 [.int .i64 k] rfl rfl ?c1 ?c2 ?c3 ?c4 ?c5 ?_)
            case c2 => rfl
            case c3 => unfold maxLen; omega
            case c4 => omega
            case c5 => have := BW13.out.size; simp; omega
            intro v' w4 hown' hgrow _
            have B4 := hid (show Below w1.heap.size w1 w4 from (BW13.out.alloc BW13.out.size _).grown hgrow (by have := BW13.out.size; simp; omega) (fun j e => (own0.out j e).1))
            have O4 := hid (show OwnI w4 w1.heap.size v' (frq T (k + 1)) by
              rw [HFR.out]
              unfold OwnI
              rw [List.map_append, List.length_append, List.length_take, ← HM.out, show min h m = h by have := HH.out; omega]
              rw [List.map_take]
              exact hown')
            clear hown' hgrow
            go_wp2_with fail
            refine ⟨⟨k + 1, by omega, by go_num, B4, O4, hid (fun j hj => ?_)⟩, by simp [intOf]; omega⟩
            by_cases e : j = k
            · rw [e]; exact HOKK.out
            · exact HE.out j (by omega)
        · have eD : decide (p.ks = (frq T k).drop h) = false := by simp [hEq]
          rw [eD] at HQ2
          have HNE := hid hEq
          have x18 := (held4 HB19.out HB2.out).1
          clear hEq eD
          go_quiet ((go_at_call 32; exact Calls.quiet_of (HQ2.out _ (HRK.out.drew _) (HD.out.drew _) HGN.out)))
          go_wp2_with fail
          go_ret
          refine ⟨⟨_, rfl, ?_⟩, below_drewN HBX.out nq⟩
          constructor
          · intro h; cases h
          · intro hc
            have h2 := (hc.1 k (by rw [← HL.out]; exact hlt)).2.1
            rw [← HPT.out, ← HM.out, ← HN.out, show m - n = h by have := HH.out; omega] at h2
            exact absurd h2 HNE.out
    · obtain rfl : k = L := by omega
      have HBE := hid (show Below w.heap.size w wr by rw [HBP.out]; exact HLX.out.trans (HB.out.mono (by have h1 := HLX.out.size; have h4 := HBP.out; omega)))
      go_wp2_with fail
      go_ret
      refine ⟨⟨_, rfl, ?_⟩, HBE.out⟩
      constructor
      · intro h
        refine ⟨fun j hj => HE.out j (by rw [HL.out]; exact hj), ?_⟩
        rw [← HL.out, ← HM.out]
        simp at h
        omega
      · intro h
        have h2 := h.2
        rw [← HL.out, ← HM.out] at h2
        simp
        omega
end Go.Proofs.YtimmjikpcekffaaGreatDoor.L
