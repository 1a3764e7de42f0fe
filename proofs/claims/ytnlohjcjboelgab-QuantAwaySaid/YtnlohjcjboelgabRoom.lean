import Derived.Test.YtnlohjcjboelgabOrder
import Derived.Test.YtnlohjcjboelgabCopied
namespace Go.Proofs.Ytnlohjcjboelgab.L
open Go.RowKit
set_option linter.unusedVariables false
theorem items_blk {W : World} {b cap : Nat} {l : List It} {arr : Array Value} {t : TypeId} {fz : Nat × Nat} (h : W.heap[b]? = some (.cells arr t fz)) (hc : arr.toList = cellsL l) : Items W (.slice (some ⟨b, 0, none⟩) l.length cap) l := by
  refine ⟨_, cap, rfl, ?_⟩
  by_cases hz : l.length = 0
  · exact Or.inl hz
  have hlt : b < W.heap.size := by
    apply Classical.byContradiction
    intro n
    rw [Array.getElem?_eq_none (by omega)] at h
    cases h
  refine Or.inr ⟨b, 0, rfl, hlt, fun j hj => ?_⟩
  have key : ∀ k u, (cellsL l)[k]? = some u → W.cell? ⟨b, k, none⟩ = some u := by
    intro k u hu
    unfold World.cell?
    rw [h]
    rw [← hc] at hu
    simpa using hu
  obtain ⟨a1, a2⟩ := cellsL_at l j hj
  exact ⟨by simpa using key _ _ a1, by simpa using key _ _ a2⟩
theorem belowA (w : World) (o : Obj) : Below w.heap.size w (w.alloc o) := (Below.refl _ _).alloc (Nat.le_refl _) _
theorem items_new (w : World) (l : List It) (arr : Array Value) (t : TypeId) (hc : arr.toList = cellsL l) : Items (w.alloc (.cells arr t)) (.slice (some ⟨w.heap.size, 0, none⟩) l.length l.length) l := by
  refine items_blk (arr := arr) (t := t) (fz := (0, 0)) ?_ hc
  show (w.heap.push _)[w.heap.size]? = _
  simp
theorem items_new' (w : World) (l : List It) (arr : Array Value) (t : TypeId) (b : Nat) (hb : b = w.heap.size) (hc : arr.toList = cellsL l) : Items (w.alloc (.cells arr t)) (.slice (some ⟨b, 0, none⟩) l.length l.length) l := by
  rw [hb]
  exact items_new w l arr t hc
def cpu : ByteArray := ⟨#[99, 112, 117]⟩
def mem : ByteArray := ⟨#[109, 101, 109]⟩
def fL : List It := [(cpu, 3), (mem, 9)]
def fC : List It := [(cpu, 4), (mem, 8)]
def fU : List It := [(cpu, 2)]
theorem fix_s : shortS fL fC fU = cpu := by kernel_rfl
theorem fix_e : shortE fL fC fU = 29 := by kernel_rfl
theorem good_of (l : List It) (h1 : l.length ≤ 16) (h2 : ∀ x ∈ l, x.1.size ≤ 32 ∧ 0 ≤ x.2 ∧ x.2 ≤ 100) : Good l := by
  refine ⟨⟨by unfold maxLen; omega, by omega⟩, fun j hj => ?_⟩
  have e : l.getD j (ByteArray.empty, 0) = l[j] := by simp [hj]
  have := h2 (l[j]) (List.getElem_mem hj)
  unfold nm am
  rw [e]
  refine ⟨by unfold maxLen; omega, by omega, by omega⟩
theorem fix_any (w : World) : Calls Try.prog 13 #[.slice (some ⟨w.heap.size, 0, none⟩) 2 2, .slice (some ⟨w.heap.size + 1, 0, none⟩) 2 2, .slice (some ⟨w.heap.size + 1 + 1, 0, none⟩) 1 1]
    (((w.alloc (.cells #[.string cpu, .int .i64 3, .string mem, .int .i64 9] 31)).alloc (.cells #[.string cpu, .int .i64 4, .string mem, .int .i64 8] 31)).alloc (.cells #[.string cpu, .int .i64 2] 31))
    fun e w' => e = .returned (.tuple #[.string cpu, .int .i64 29]) ∧ Below w.heap.size w w' := by
  have h := short_any (.slice (some ⟨w.heap.size, 0, none⟩) 2 2) (.slice (some ⟨w.heap.size + 1, 0, none⟩) 2 2) (.slice (some ⟨w.heap.size + 1 + 1, 0, none⟩) 1 1) fL fC fU
    (((w.alloc (.cells #[.string cpu, .int .i64 3, .string mem, .int .i64 9] 31)).alloc (.cells #[.string cpu, .int .i64 4, .string mem, .int .i64 8] 31)).alloc (.cells #[.string cpu, .int .i64 2] 31))
    (((items_new w fL _ _ rfl).low (belowA _ _)).low (belowA _ _)) ((items_new' _ fC _ _ _ (by simp) rfl).low (belowA _ _)) (items_new' _ fU _ _ _ (by simp) rfl)
    (good_of _ (by decide) (by decide)) (good_of _ (by decide) (by decide)) (good_of _ (by decide) (by decide))
  rw [fix_s, fix_e] at h
  refine h.mono ?_
  rintro e w' ⟨rfl, hb⟩
  exact ⟨rfl, ((((Below.refl _ _).alloc (Nat.le_refl _) _).alloc (by simp) _).alloc (by simp; omega) _).trans (hb.mono (by simp; omega))⟩
set_option maxHeartbeats 4000000 in
theorem room_walk (v1 v2 v3 : Value) (l c u : List It) (w : World) (m1 : Came w v1 l) (m2 : Came w v2 c) (m3 : Came w v3 u) (g1 : Good l) (g2 : Good c) (g3 : Good u) :
    Calls Try.prog 4 #[v1, v2, v3] w fun e w' => e = .returned (.bool true) ∧ Below w.heap.size w w' := by
  have M1 := hid m1
  have M2 := hid m2
  have M3 := hid m3
  have G1 := hid g1
  have G2 := hid g2
  have G3 := hid g3
  clear m1 m2 m3 g1 g2 g3
  have hcpu : cpu.toList = [99, 112, 117] := by kernel_rfl
  have CO := hid (fun W v x (h : Came W v x) (g : Good x) => copied_any v x W h g)
  have CK := hid (fun W v x (h : Items W v x) (g : Good x) => check_any v x W h g)
  obtain ⟨er, her⟩ : ∃ er, shortE l c u = er := ⟨_, rfl⟩
  obtain ⟨sS, hsS⟩ : ∃ sS, shortS l c u = sS := ⟨_, rfl⟩
  have SH := hid (fun W x y z (i1 : Items W x l) (i2 : Items W y c) (i3 : Items W z u) => short_any x y z l c u W i1 i2 i3 G1.out G2.out G3.out)
  rw [her, hsS] at SH
  have HER := hid her
  have HSS := hid hsS
  clear her hsS
  go_enter Try.func4, Try.ntmps4
  go_wp2_with fail
  refine (fix_any w).mono ?_
  rintro e w1 ⟨rfl, hb1⟩
  have B1 := hid hb1
  clear hb1
  go_wp2_with fail
  refine (CO.out _ _ l (M1.out.low B1.out) G1.out).mono ?_
  rintro e w2 ⟨x1, rfl, i1, hb2⟩
  have B2 := hid (B1.out.trans (hb2.mono B1.out.size))
  have X1 := hid i1
  clear hb2 i1
  go_wp2_with fail
  refine (CO.out _ _ c (M2.out.low B2.out) G2.out).mono ?_
  rintro e w3 ⟨x2, rfl, i2, hb3⟩
  have X1' := hid (X1.out.low hb3)
  have B3 := hid (B2.out.trans (hb3.mono B2.out.size))
  have X2 := hid i2
  clear hb3 i2 X1
  go_wp2_with fail
  refine (CO.out _ _ u (M3.out.low B3.out) G3.out).mono ?_
  rintro e w4 ⟨x3, rfl, i3, hb4⟩
  have B4 := hid (B3.out.trans (hb4.mono B3.out.size))
  have SH2 := hid (SH.out w4 x1 x2 x3 (X1'.out.low hb4) (X2.out.low hb4) i3)
  clear hb4 i3 X2 X1'
  go_wp2_with fail
  refine SH2.out.mono ?_
  rintro e w5 ⟨rfl, hb5⟩
  have B5 := hid (B4.out.trans (hb5.mono B4.out.size))
  clear hb5 SH2
  have her := HER.out
  by_cases ql : checkN l = 0
  · by_cases qc : checkN c = 0
    · by_cases qu : checkN u = 0
      · have ok3 := three_good ql qc qu
        rcases hat : shortAt l c u l.length 0 with _ | K
        · have e1 : er = 0 := by rw [← HER.out]; unfold shortE; rw [if_pos ok3, hat]; rfl
          have e2 : sS = ByteArray.empty := by rw [← HSS.out]; unfold shortS; rw [if_pos ok3, hat]
          subst e1 e2
          clear her ok3
          go_wp2_with fail
          refine (CO.out _ _ l (M1.out.low B5.out) G1.out).mono ?_
          rintro e w6a ⟨y1, rfl, j1, hb1a⟩
          have W6a := hid (B5.out.trans (hb1a.mono B5.out.size))
          have J1 := hid j1
          clear hb1a j1
          go_wp2_with fail
          refine (CK.out _ _ l J1.out G1.out).mono ?_
          rintro e w6b ⟨rfl, hb1b⟩
          have W6b := hid (W6a.out.trans (hb1b.mono W6a.out.size))
          clear hb1b
          rw [ql]
          go_wp2_with fail
          refine (CO.out _ _ c (M2.out.low W6b.out) G2.out).mono ?_
          rintro e w7a ⟨y2, rfl, j2, hb2a⟩
          have W7a := hid (W6b.out.trans (hb2a.mono W6b.out.size))
          have J2 := hid j2
          clear hb2a j2
          go_wp2_with fail
          refine (CK.out _ _ c J2.out G2.out).mono ?_
          rintro e w7b ⟨rfl, hb2b⟩
          have W7b := hid (W7a.out.trans (hb2b.mono W7a.out.size))
          clear hb2b
          rw [qc]
          go_wp2_with fail
          refine (CO.out _ _ u (M3.out.low W7b.out) G3.out).mono ?_
          rintro e w8a ⟨y3, rfl, j3, hb3a⟩
          have W8a := hid (W7b.out.trans (hb3a.mono W7b.out.size))
          have J3 := hid j3
          clear hb3a j3
          go_wp2_with fail
          refine (CK.out _ _ u J3.out G3.out).mono ?_
          rintro e w8b ⟨rfl, hb3b⟩
          have W8b := hid (W8a.out.trans (hb3b.mono W8a.out.size))
          clear hb3b
          rw [qu]
          have QL := hid ql
          have QC := hid qc
          have QU := hid qu
          have HAT := hid hat
          clear ql qc qu hat CO CK SH J1 J2 J3
          obtain ⟨a, cap, rfl, hi⟩ := M1.out.items
          obtain ⟨len, hlen⟩ : ∃ n, n = l.length := ⟨_, rfl⟩
          have HLEN := hid hlen
          have hl := G1.out.1.1
          unfold maxLen at hl
          rw [← hlen] at hi hl M1 ⊢
          clear hlen
          go_wp2_with fail
          go_loopw [9, 71] (fun f i wr => ∃ k : Nat, k ≤ len ∧ f = .bool (false) ∧ i = .int .i64 k ∧ Hid (Below w.heap.size w wr)) (fun _ i _ => len - (intOf i).toNat)
          case atStart => exact ⟨0, Nat.zero_le _, rfl, rfl, W8b⟩
          case round =>
            obtain ⟨k, hk, rfl, rfl, HB⟩ := hrel
            by_cases hlt : k < len
            · rcases hi with h0 | ⟨b, off, rfl, hbl, hc⟩
              · omega
              obtain ⟨c0, c1⟩ := hc k hlt
              rw [← HB.out.cell (p := ⟨b, off + k * 2, none⟩) hbl] at c0
              rw [← HB.out.cell (p := ⟨b, off + k * 2 + 1, none⟩) hbl] at c1
              have hsz : b < wr.heap.size := Nat.lt_of_lt_of_le hbl HB.out.size
              have hkl : k < l.length := by rw [← HLEN.out]; exact hlt
              have hn := (G1.out.2 k hkl).1
              have hpos := (flt_parts (check_flt QL.out k hkl)).2.1
              have htop := (G1.out.2 k hkl).2.2
              have GC := hid (fun W (hB : Below w.heap.size w W) => get_any v2 c (nm l k) W (M2.out.items.low hB) G2.out hn)
              have GU := hid (fun W (hB : Below w.heap.size w W) => get_any v3 u (nm l k) W (M3.out.items.low hB) G3.out hn)
              have c_lo : 0 ≤ getN c (nm l k) := get_nonneg QC.out (nm l k) c.length 0 (by omega)
              have c_hi := (get_bound c (nm l k) G2.out c.length 0 (by omega)).2
              have u_lo : 0 ≤ getN u (nm l k) := get_nonneg QU.out (nm l k) u.length 0 (by omega)
              have u_hi := (get_bound u (nm l k) G3.out u.length 0 (by omega)).2
              change getN c (nm l k) ≤ _ at c_hi
              change getN u (nm l k) ≤ _ at u_hi
              have tooE : too l c u k = decide (max 0 (getN c (nm l k) - getN u (nm l k)) < am l k) := rfl
              clear hc
              have tk : too l c u k = false := shortAt_none l.length 0 HAT.out k (Nat.zero_le _) (by omega)
              generalize getN c (nm l k) = gc at *
              generalize getN u (nm l k) = gu at *
              generalize nm l k = s at *
              generalize am l k = n at *
              obtain ⟨rm, hrm⟩ : ∃ rm, gc - gu = rm := ⟨_, rfl⟩
              have hrm2 : IntKind.i64.wrap (gc - gu) = rm := by rw [← hrm, IntKind.wrap_i64]; omega
              have cmp : n ≤ rm := by rw [tooE] at tk; simp at tk; omega
              clear hrm tooE tk hn
              go_wp2_with fail
              go_region_held3 (fun W => W.cell? ⟨wr.heap.size, 0, none⟩ = some (.string s) ∧ W.cell? ⟨wr.heap.size, 1, none⟩ = some (.int .i64 n))
                (first | exact new_two wr _ _ _ | exact T1 | exact T2)
                (first
                  | (go_at_call_of 12 v2; refine (GC.out _ ?_).mono ?_; exact (HB.out.alloc HB.out.size _).drew; rintro e w2 ⟨rfl, hb2⟩; have T1 := two_low (new_two wr (.string s) (.int .i64 n) 31) hb2 (by simp))
                  | (go_at_call_of 12 v3; refine (GU.out _ ?_).mono ?_; exact ((HB.out.alloc HB.out.size _).drew).trans (hb2.mono (by simp; exact Nat.le_succ_of_le HB.out.size)); rintro e w3 ⟨rfl, hb3⟩; have T2 := two_low T1 hb3 (by have := hb2.size; simp at this; omega)))
              obtain ⟨t0, t1⟩ := T2
              have HB3 := hid (show Below w.heap.size w w3 from (((HB.out.alloc HB.out.size _).drew).trans (hb2.mono (by simp; exact Nat.le_succ_of_le HB.out.size))).trans (hb3.mono (by have h1 := hb2.size; have h2 := HB.out.size; simp at h1; omega)))
              clear hb2 hb3 T1
              go_wp2_with fail
              exact ⟨⟨k + 1, by omega, rfl, by go_num, HB3⟩, by simp [intOf]; omega⟩
            · obtain rfl : k = len := by omega
              have hem : ByteArray.empty.toList = [] := by kernel_rfl
              go_wp2_with fail
              go_ret
              exact ⟨rfl, HB.out⟩
        · have e1 : er = 29 := by rw [← HER.out]; unfold shortE; rw [if_pos ok3, hat]; rfl
          have e2 : sS = nm l K := by rw [← HSS.out]; unfold shortS; rw [if_pos ok3, hat]
          subst e1 e2
          clear her ok3
          obtain ⟨_, kl, tK, all⟩ := shortAt_some l.length 0 K hat
          have KL := hid (show K < l.length by omega)
          have TK := hid tK
          have ALL := hid all
          clear kl tK all
          go_wp2_with fail
          refine (CO.out _ _ l (M1.out.low B5.out) G1.out).mono ?_
          rintro e w6a ⟨y1, rfl, j1, hb1a⟩
          have W6a := hid (B5.out.trans (hb1a.mono B5.out.size))
          have J1 := hid j1
          clear hb1a j1
          go_wp2_with fail
          refine (CK.out _ _ l J1.out G1.out).mono ?_
          rintro e w6b ⟨rfl, hb1b⟩
          have W6b := hid (W6a.out.trans (hb1b.mono W6a.out.size))
          clear hb1b
          rw [ql]
          go_wp2_with fail
          refine (CO.out _ _ c (M2.out.low W6b.out) G2.out).mono ?_
          rintro e w7a ⟨y2, rfl, j2, hb2a⟩
          have W7a := hid (W6b.out.trans (hb2a.mono W6b.out.size))
          have J2 := hid j2
          clear hb2a j2
          go_wp2_with fail
          refine (CK.out _ _ c J2.out G2.out).mono ?_
          rintro e w7b ⟨rfl, hb2b⟩
          have W7b := hid (W7a.out.trans (hb2b.mono W7a.out.size))
          clear hb2b
          rw [qc]
          go_wp2_with fail
          refine (CO.out _ _ u (M3.out.low W7b.out) G3.out).mono ?_
          rintro e w8a ⟨y3, rfl, j3, hb3a⟩
          have W8a := hid (W7b.out.trans (hb3a.mono W7b.out.size))
          have J3 := hid j3
          clear hb3a j3
          go_wp2_with fail
          refine (CK.out _ _ u J3.out G3.out).mono ?_
          rintro e w8b ⟨rfl, hb3b⟩
          have W8b := hid (W8a.out.trans (hb3b.mono W8a.out.size))
          clear hb3b
          rw [qu]
          have QL := hid ql
          have QC := hid qc
          have QU := hid qu
          have HAT := hid hat
          clear ql qc qu hat CO CK SH J1 J2 J3
          obtain ⟨a, cap, rfl, hi⟩ := M1.out.items
          obtain ⟨len, hlen⟩ : ∃ n, n = l.length := ⟨_, rfl⟩
          have HLEN := hid hlen
          have hl := G1.out.1.1
          unfold maxLen at hl
          rw [← hlen] at hi hl M1 ⊢
          clear hlen
          go_wp2_with fail
          go_loopw [9, 71] (fun f i wr => ∃ k : Nat, k ≤ len ∧ f = .bool (decide (K < k)) ∧ i = .int .i64 k ∧ Hid (Below w.heap.size w wr)) (fun _ i _ => len - (intOf i).toNat)
          case atStart => exact ⟨0, Nat.zero_le _, by simp, rfl, W8b⟩
          case round =>
            obtain ⟨k, hk, rfl, rfl, HB⟩ := hrel
            by_cases hlt : k < len
            · rcases hi with h0 | ⟨b, off, rfl, hbl, hc⟩
              · omega
              obtain ⟨c0, c1⟩ := hc k hlt
              rw [← HB.out.cell (p := ⟨b, off + k * 2, none⟩) hbl] at c0
              rw [← HB.out.cell (p := ⟨b, off + k * 2 + 1, none⟩) hbl] at c1
              have hsz : b < wr.heap.size := Nat.lt_of_lt_of_le hbl HB.out.size
              have hkl : k < l.length := by rw [← HLEN.out]; exact hlt
              have hn := (G1.out.2 k hkl).1
              have hpos := (flt_parts (check_flt QL.out k hkl)).2.1
              have htop := (G1.out.2 k hkl).2.2
              have GC := hid (fun W (hB : Below w.heap.size w W) => get_any v2 c (nm l k) W (M2.out.items.low hB) G2.out hn)
              have GU := hid (fun W (hB : Below w.heap.size w W) => get_any v3 u (nm l k) W (M3.out.items.low hB) G3.out hn)
              have c_lo : 0 ≤ getN c (nm l k) := get_nonneg QC.out (nm l k) c.length 0 (by omega)
              have c_hi := (get_bound c (nm l k) G2.out c.length 0 (by omega)).2
              have u_lo : 0 ≤ getN u (nm l k) := get_nonneg QU.out (nm l k) u.length 0 (by omega)
              have u_hi := (get_bound u (nm l k) G3.out u.length 0 (by omega)).2
              change getN c (nm l k) ≤ _ at c_hi
              change getN u (nm l k) ≤ _ at u_hi
              have tooE : too l c u k = decide (max 0 (getN c (nm l k) - getN u (nm l k)) < am l k) := rfl
              clear hc
              by_cases cK : k < K
              · have tk : too l c u k = false := ALL.out k (Nat.zero_le _) cK
                have nless : Op.bytesLess (nm l k).toList (nm l K).toList = true := rises QL.out k K cK KL.out
                have nne : ((nm l k).toList == (nm l K).toList) = false := (less_asymm _ _ nless).2.1
                have HSK := hid (show nm l K = nm l K from rfl)
                generalize nm l K = sK at *
                generalize getN c (nm l k) = gc at *
                generalize getN u (nm l k) = gu at *
                generalize nm l k = s at *
                generalize am l k = n at *
                obtain ⟨rm, hrm⟩ : ∃ rm, gc - gu = rm := ⟨_, rfl⟩
                have hrm2 : IntKind.i64.wrap (gc - gu) = rm := by rw [← hrm, IntKind.wrap_i64]; omega
                have cmp : n ≤ rm := by rw [tooE] at tk; simp at tk; omega
                clear hrm tooE tk hn
                go_wp2_with fail
                go_region_held3 (fun W => W.cell? ⟨wr.heap.size, 0, none⟩ = some (.string s) ∧ W.cell? ⟨wr.heap.size, 1, none⟩ = some (.int .i64 n))
                  (first | exact new_two wr _ _ _ | exact T1 | exact T2)
                  (first
                    | (go_at_call_of 12 v2; refine (GC.out _ ?_).mono ?_; exact (HB.out.alloc HB.out.size _).drew; rintro e w2 ⟨rfl, hb2⟩; have T1 := two_low (new_two wr (.string s) (.int .i64 n) 31) hb2 (by simp))
                    | (go_at_call_of 12 v3; refine (GU.out _ ?_).mono ?_; exact ((HB.out.alloc HB.out.size _).drew).trans (hb2.mono (by simp; exact Nat.le_succ_of_le HB.out.size)); rintro e w3 ⟨rfl, hb3⟩; have T2 := two_low T1 hb3 (by have := hb2.size; simp at this; omega)))
                obtain ⟨t0, t1⟩ := T2
                have HB3 := hid (show Below w.heap.size w w3 from (((HB.out.alloc HB.out.size _).drew).trans (hb2.mono (by simp; exact Nat.le_succ_of_le HB.out.size))).trans (hb3.mono (by have h1 := hb2.size; have h2 := HB.out.size; simp at h1; omega)))
                clear hb2 hb3 T1
                go_wp2_with fail
                exact ⟨⟨k + 1, by omega, by rw [decide_eq_false (show ¬ K < k by omega), decide_eq_false (show ¬ K < k + 1 by omega)], by go_num, HB3⟩, by simp [intOf]; omega⟩
              · by_cases cE : k = K
                · subst cE
                  have tk : too l c u k = true := TK.out
                  have nless : Op.bytesLess (nm l k).toList (nm l k).toList = false := less_irrefl _
                  generalize getN c (nm l k) = gc at *
                  generalize getN u (nm l k) = gu at *
                  generalize nm l k = s at *
                  generalize am l k = n at *
                  obtain ⟨rm, hrm⟩ : ∃ rm, gc - gu = rm := ⟨_, rfl⟩
                  have hrm2 : IntKind.i64.wrap (gc - gu) = rm := by rw [← hrm, IntKind.wrap_i64]; omega
                  have cmp : rm < n := by rw [tooE] at tk; simp at tk; omega
                  clear hrm tooE tk hn
                  go_wp2_with fail
                  go_region_held3 (fun W => W.cell? ⟨wr.heap.size, 0, none⟩ = some (.string s) ∧ W.cell? ⟨wr.heap.size, 1, none⟩ = some (.int .i64 n))
                    (first | exact new_two wr _ _ _ | exact T1 | exact T2)
                    (first
                      | (go_at_call_of 12 v2; refine (GC.out _ ?_).mono ?_; exact (HB.out.alloc HB.out.size _).drew; rintro e w2 ⟨rfl, hb2⟩; have T1 := two_low (new_two wr (.string s) (.int .i64 n) 31) hb2 (by simp))
                      | (go_at_call_of 12 v3; refine (GU.out _ ?_).mono ?_; exact ((HB.out.alloc HB.out.size _).drew).trans (hb2.mono (by simp; exact Nat.le_succ_of_le HB.out.size)); rintro e w3 ⟨rfl, hb3⟩; have T2 := two_low T1 hb3 (by have := hb2.size; simp at this; omega)))
                  obtain ⟨t0, t1⟩ := T2
                  have HB3 := hid (show Below w.heap.size w w3 from (((HB.out.alloc HB.out.size _).drew).trans (hb2.mono (by simp; exact Nat.le_succ_of_le HB.out.size))).trans (hb3.mono (by have h1 := hb2.size; have h2 := HB.out.size; simp at h1; omega)))
                  clear hb2 hb3 T1
                  go_wp2_with fail
                  exact ⟨⟨k + 1, by omega, by rw [decide_eq_true (show k < k + 1 by omega)], by go_num, HB3⟩, by simp [intOf]; omega⟩
                · have nless : Op.bytesLess (nm l k).toList (nm l K).toList = false := (less_asymm _ _ (rises QL.out K k (by omega) hkl)).1
                  have nne : ((nm l k).toList == (nm l K).toList) = false := (less_asymm _ _ (rises QL.out K k (by omega) hkl)).2.2
                  generalize nm l K = sK at *
                  generalize getN c (nm l k) = gc at *
                  generalize getN u (nm l k) = gu at *
                  generalize nm l k = s at *
                  generalize am l k = n at *
                  obtain ⟨rm, hrm⟩ : ∃ rm, gc - gu = rm := ⟨_, rfl⟩
                  have hrm2 : IntKind.i64.wrap (gc - gu) = rm := by rw [← hrm, IntKind.wrap_i64]; omega
                  clear hrm tooE hn
                  go_wp2_with fail
                  go_region_held3 (fun W => W.cell? ⟨wr.heap.size, 0, none⟩ = some (.string s) ∧ W.cell? ⟨wr.heap.size, 1, none⟩ = some (.int .i64 n))
                    (first | exact new_two wr _ _ _ | exact T1 | exact T2)
                    (first
                      | (go_at_call_of 12 v2; refine (GC.out _ ?_).mono ?_; exact (HB.out.alloc HB.out.size _).drew; rintro e w2 ⟨rfl, hb2⟩; have T1 := two_low (new_two wr (.string s) (.int .i64 n) 31) hb2 (by simp))
                      | (go_at_call_of 12 v3; refine (GU.out _ ?_).mono ?_; exact ((HB.out.alloc HB.out.size _).drew).trans (hb2.mono (by simp; exact Nat.le_succ_of_le HB.out.size)); rintro e w3 ⟨rfl, hb3⟩; have T2 := two_low T1 hb3 (by have := hb2.size; simp at this; omega)))
                  obtain ⟨t0, t1⟩ := T2
                  have HB3 := hid (show Below w.heap.size w w3 from (((HB.out.alloc HB.out.size _).drew).trans (hb2.mono (by simp; exact Nat.le_succ_of_le HB.out.size))).trans (hb3.mono (by have h1 := hb2.size; have h2 := HB.out.size; simp at h1; omega)))
                  clear hb2 hb3 T1
                  go_wp2_with fail
                  exact ⟨⟨k + 1, by omega, by rw [decide_eq_true (show K < k by omega), decide_eq_true (show K < k + 1 by omega)], by go_num, HB3⟩, by simp [intOf]; omega⟩
            · obtain rfl : k = len := by omega
              have fin : decide (K < k) = true := decide_eq_true (by rw [HLEN.out]; exact KL.out)
              go_wp2_with fail
              go_ret
              exact ⟨rfl, HB.out⟩
      · obtain ⟨ne1, rfl⟩ : er ≠ 0 ∧ sS = ByteArray.empty := by rw [← HER.out, ← HSS.out]; exact three_bad (Or.inr (Or.inr qu))
        have ne0 : (er != 0) = true := by simpa using ne1
        clear her ne1
        go_wp2_with fail
        refine (CO.out _ _ l (M1.out.low B5.out) G1.out).mono ?_
        rintro e w6a ⟨y1, rfl, j1, hb1a⟩
        have W6a := hid (B5.out.trans (hb1a.mono B5.out.size))
        have J1 := hid j1
        clear hb1a j1
        go_wp2_with fail
        refine (CK.out _ _ l J1.out G1.out).mono ?_
        rintro e w6b ⟨rfl, hb1b⟩
        have W6b := hid (W6a.out.trans (hb1b.mono W6a.out.size))
        clear hb1b
        rw [ql]
        go_wp2_with fail
        refine (CO.out _ _ c (M2.out.low W6b.out) G2.out).mono ?_
        rintro e w7a ⟨y2, rfl, j2, hb2a⟩
        have W7a := hid (W6b.out.trans (hb2a.mono W6b.out.size))
        have J2 := hid j2
        clear hb2a j2
        go_wp2_with fail
        refine (CK.out _ _ c J2.out G2.out).mono ?_
        rintro e w7b ⟨rfl, hb2b⟩
        have W7b := hid (W7a.out.trans (hb2b.mono W7a.out.size))
        clear hb2b
        rw [qc]
        go_wp2_with fail
        refine (CO.out _ _ u (M3.out.low W7b.out) G3.out).mono ?_
        rintro e w8a ⟨y3, rfl, j3, hb3a⟩
        have W8a := hid (W7b.out.trans (hb3a.mono W7b.out.size))
        have J3 := hid j3
        clear hb3a j3
        go_wp2_with fail
        refine (CK.out _ _ u J3.out G3.out).mono ?_
        rintro e w8b ⟨rfl, hb3b⟩
        have W8b := hid (W8a.out.trans (hb3b.mono W8a.out.size))
        clear hb3b
        have ne : (checkN u != 0) = true := by simpa using qu
        generalize checkN u = kk at *
        go_wp2_with fail
        go_ret
        exact ⟨rfl, W8b.out⟩
    · obtain ⟨ne1, rfl⟩ : er ≠ 0 ∧ sS = ByteArray.empty := by rw [← HER.out, ← HSS.out]; exact three_bad (Or.inr (Or.inl qc))
      have ne0 : (er != 0) = true := by simpa using ne1
      clear her ne1
      go_wp2_with fail
      refine (CO.out _ _ l (M1.out.low B5.out) G1.out).mono ?_
      rintro e w6a ⟨y1, rfl, j1, hb1a⟩
      have W6a := hid (B5.out.trans (hb1a.mono B5.out.size))
      have J1 := hid j1
      clear hb1a j1
      go_wp2_with fail
      refine (CK.out _ _ l J1.out G1.out).mono ?_
      rintro e w6b ⟨rfl, hb1b⟩
      have W6b := hid (W6a.out.trans (hb1b.mono W6a.out.size))
      clear hb1b
      rw [ql]
      go_wp2_with fail
      refine (CO.out _ _ c (M2.out.low W6b.out) G2.out).mono ?_
      rintro e w7a ⟨y2, rfl, j2, hb2a⟩
      have W7a := hid (W6b.out.trans (hb2a.mono W6b.out.size))
      have J2 := hid j2
      clear hb2a j2
      go_wp2_with fail
      refine (CK.out _ _ c J2.out G2.out).mono ?_
      rintro e w7b ⟨rfl, hb2b⟩
      have W7b := hid (W7a.out.trans (hb2b.mono W7a.out.size))
      clear hb2b
      have ne : (checkN c != 0) = true := by simpa using qc
      generalize checkN c = kk at *
      go_wp2_with fail
      go_ret
      exact ⟨rfl, W7b.out⟩
  · obtain ⟨ne1, rfl⟩ : er ≠ 0 ∧ sS = ByteArray.empty := by rw [← HER.out, ← HSS.out]; exact three_bad (Or.inl ql)
    have ne0 : (er != 0) = true := by simpa using ne1
    clear her ne1
    go_wp2_with fail
    refine (CO.out _ _ l (M1.out.low B5.out) G1.out).mono ?_
    rintro e w6a ⟨y1, rfl, j1, hb1a⟩
    have W6a := hid (B5.out.trans (hb1a.mono B5.out.size))
    have J1 := hid j1
    clear hb1a j1
    go_wp2_with fail
    refine (CK.out _ _ l J1.out G1.out).mono ?_
    rintro e w6b ⟨rfl, hb1b⟩
    have W6b := hid (W6a.out.trans (hb1b.mono W6a.out.size))
    clear hb1b
    have ne : (checkN l != 0) = true := by simpa using ql
    generalize checkN l = kk at *
    go_wp2_with fail
    go_ret
    exact ⟨rfl, W6b.out⟩
end Go.Proofs.Ytnlohjcjboelgab.L
