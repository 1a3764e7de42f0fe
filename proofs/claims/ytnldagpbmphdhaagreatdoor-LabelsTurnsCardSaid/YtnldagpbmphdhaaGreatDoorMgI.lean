import Derived.Test.YtnldagpbmphdhaaGreatDoorTr3
import Derived.Test.YtnldagpbmphdhaaGreatDoorOps
namespace Go.Proofs.YtnldagpbmphdhaaGreatDoor.L
open Go.RowKit
set_option linter.unusedVariables false
/-- One call of the script. -/
def OpAt2 (W : World) (b o : Nat) : Prop := ∃ (k : Int) (vL vO vD : Value) (s ks vs : ByteArray) (n : Int) (l c : List Lb) (L : List Df),
    W.cell? ⟨b, o, none⟩ = some (.int .i64 k) ∧ W.cell? ⟨b, o + 1, none⟩ = some vL ∧ W.cell? ⟨b, o + 2, none⟩ = some vO ∧ W.cell? ⟨b, o + 3, none⟩ = some vD ∧ W.cell? ⟨b, o + 4, none⟩ = some (.string s) ∧ W.cell? ⟨b, o + 5, none⟩ = some (.string ks) ∧ W.cell? ⟨b, o + 6, none⟩ = some (.string vs) ∧ W.cell? ⟨b, o + 7, none⟩ = some (.int .i64 n) ∧
    Came W vL l ∧ Came W vO c ∧ Good l ∧ Good c ∧ CameD W vD L ∧ GoodD L ∧ L.length * 56 ≤ 140737488351232 ∧ s.size ≤ 140737488351232 ∧ ks.size ≤ 140737488351232 ∧ vs.size ≤ 140737488351232 ∧ (-9223372036854775808 ≤ k ∧ k ≤ 9223372036854775807) ∧ (-9223372036854775808 ≤ n ∧ n ≤ 9223372036854775807)
/-- The script that came in. -/
def List82 (W : World) (a : Option Addr) (len : Nat) : Prop := len ≤ maxLen ∧ (len = 0 ∨ ∃ b off, a = some ⟨b, off, none⟩ ∧ b < W.heap.size ∧ ∀ j, j < len → OpAt2 W b (off + j * 8))
theorem opAt2_low {W W' : World} {b o : Nat} (h : OpAt2 W b o) (hbl : b < W.heap.size) (hb : Below W.heap.size W W') : OpAt2 W' b o := by
  obtain ⟨k, vL, vO, vD, s, ks, vs, n, l, c, L, c0, c1, c2, c3, c4, c5, c6, c7, mL, mO, gL, gO, mD, r⟩ := h
  exact ⟨k, vL, vO, vD, s, ks, vs, n, l, c, L, (hb.cell (p := ⟨b, o, none⟩) hbl).trans c0, (hb.cell (p := ⟨b, o + 1, none⟩) hbl).trans c1, (hb.cell (p := ⟨b, o + 2, none⟩) hbl).trans c2, (hb.cell (p := ⟨b, o + 3, none⟩) hbl).trans c3, (hb.cell (p := ⟨b, o + 4, none⟩) hbl).trans c4, (hb.cell (p := ⟨b, o + 5, none⟩) hbl).trans c5, (hb.cell (p := ⟨b, o + 6, none⟩) hbl).trans c6, (hb.cell (p := ⟨b, o + 7, none⟩) hbl).trans c7, mL.low hb, mO.low hb, gL, gO, mD.low hb, r⟩
theorem list82_low {W W' : World} {a : Option Addr} {len : Nat} (h : List82 W a len) (hb : Below W.heap.size W W') : List82 W' a len := by
  refine ⟨h.1, ?_⟩
  rcases h.2 with h0 | ⟨b, off, rfl, hbl, hc⟩
  · exact Or.inl h0
  · exact Or.inr ⟨b, off, rfl, Nat.lt_of_lt_of_le hbl hb.size, fun j hj => opAt2_low (hc j hj) hbl hb⟩
theorem turns_any (k : Int) (vL vO vD : Value) (l c : List Lb) (L : List Df) (s ks vs : ByteArray) (n : Int) (w : World) (hk : 10 ≤ k ∧ k ≤ 14) (hks : ks.size ≤ 140737488351232) (hvs : vs.size ≤ 140737488351232) (hL : Came w vL l) (hO : Came w vO c) (hD : CameD w vD L) (hg : Good l) (hgO : Good c) (gd : GoodD L) (hb : L.length * 56 ≤ 140737488351232) :
    Calls Tryz.prog 29 #[.agg #[.int .i64 k, vL, vO, vD, .string s, .string ks, .string vs, .int .i64 n]] w fun e w' => e = .returned (.bool true) ∧ Below w.heap.size w w' := by
  have : k = 10 ∨ k = 11 ∨ k = 12 ∨ k = 13 ∨ k = 14 := by omega
  rcases this with rfl | rfl | rfl | rfl | rfl
  · exact turns_get vL vO vD l c s ks vs n w hL hO hg hgO (by unfold maxLen; omega)
  · exact turns_put vL vO vD l c s ks vs n w hL hO hg hgO (by unfold maxLen; omega) (by unfold maxLen; omega)
  · exact turns_del vL vO vD l c s ks vs n w hL hO hg hgO (by unfold maxLen; omega)
  · exact turns_diff vL vO vD l c s ks vs n w hL hO hg hgO
  · exact turns_patch vL vO vD l c L s ks vs n w hL hD hg gd hb
set_option maxHeartbeats 4000000 in
set_option maxRecDepth 100000 in
theorem plays_turns (k : Int) (vL vO vD : Value) (l c : List Lb) (L : List Df) (s ky vl : ByteArray) (n : Int) (w : World) (hk : 10 ≤ k ∧ k ≤ 14) (hks : ky.size ≤ 140737488351232) (hvs : vl.size ≤ 140737488351232) (hL : Came w vL l) (hO : Came w vO c) (hD : CameD w vD L) (hg : Good l) (hgO : Good c) (gd : GoodD L) (hb : L.length * 56 ≤ 140737488351232) :
    Calls Tryz.prog 15 #[.agg #[.int .i64 k, vL, vO, vD, .string s, .string ky, .string vl, .int .i64 n]] w fun e w' => e = .returned (.bool true) ∧ Below w.heap.size w w' := by
  have F := hid (fun W (hb' : Below w.heap.size w W) => turns_any k vL vO vD l c L s ky vl n W hk hks hvs (hL.low hb') (hO.low hb') (hD.low hb') hg hgO gd hb)
  obtain ⟨aL, cL, rfl⟩ := came_slice hL
  obtain ⟨aO, cO, rfl⟩ := came_slice hO
  obtain ⟨aD, cD, rfl⟩ := cameD_slice hD
  have B0 := hid (belowA w (.cells #[.int .i64 k, .slice aL l.length cL, .slice aO c.length cO, .slice aD L.length cD, .string s, .string ky, .string vl, .int .i64 n] 40))
  obtain ⟨h1, h5⟩ := hk
  have g1 : 1 ≤ k := by omega
  have g2 : ¬ k ≤ 5 := by omega
  have g3 : 6 ≤ k := by omega
  have g4 : ¬ k ≤ 9 := by omega
  clear hL hO hD hg hgO gd
  go_enter Tryz.func15, Tryz.ntmps15
  go_wp2_with fail
  refine (F.out _ ?_).mono ?_
  · exact B0.out
  rintro e w1 ⟨rfl, hb⟩
  have B1 := hid (B0.out.trans (hb.mono B0.out.size))
  clear hb
  go_wp2_with fail
  go_ret
  exact ⟨rfl, B1.out⟩
/-- Any call of the script. -/
theorem plays_all (k : Int) (vL vO vD : Value) (l c : List Lb) (L : List Df) (s ky vl : ByteArray) (n : Int) (w : World) (hk : 1 ≤ k ∧ k ≤ 14) (hs : s.size ≤ 140737488351232) (hks : ky.size ≤ 140737488351232) (hvs : vl.size ≤ 140737488351232) (hn : -9223372036854775808 ≤ n ∧ n ≤ 9223372036854775807) (hL : Came w vL l) (hO : Came w vO c) (hD : CameD w vD L) (hg : Good l) (hgO : Good c) (gd : GoodD L) (hb : L.length * 56 ≤ 140737488351232) (hv : Vars w) :
    Calls Tryz.prog 15 #[.agg #[.int .i64 k, vL, vO, vD, .string s, .string ky, .string vl, .int .i64 n]] w fun e w' => e = .returned (.bool true) ∧ Below w.heap.size w w' := by
  by_cases h1 : 10 ≤ k
  · exact plays_turns k vL vO vD l c L s ky vl n w ⟨h1, hk.2⟩ hks hvs hL hO hD hg hgO gd hb
  · obtain ⟨aD, cD, rfl⟩ := cameD_slice hD
    by_cases h2 : 6 ≤ k
    · exact plays_lists k vL vO aD L.length cD l c s ky vl n w hL hO hg ⟨h2, by omega⟩ hs
    · exact plays_texts k vL vO aD L.length cD l c s ky vl n w hL hO ⟨hk.1, by omega⟩ hs hn hv
set_option maxHeartbeats 4000000 in
set_option maxRecDepth 100000 in
/-- The script, where what is played of it is right. -/
theorem upto2_any (lo hi : Int) (a : Option Addr) (len cap : Nat) (w : World) (hl : List82 w a len)
    (LAW : ∀ W (k : Int) (vL vO vD : Value) (s ks vs : ByteArray) (n : Int) (l c : List Lb) (L : List Df), Below w.heap.size w W → lo ≤ k → k ≤ hi → Came w vL l → Came w vO c → Good l → Good c → CameD w vD L → GoodD L → L.length * 56 ≤ 140737488351232 → s.size ≤ 140737488351232 → ks.size ≤ 140737488351232 → vs.size ≤ 140737488351232 → (-9223372036854775808 ≤ n ∧ n ≤ 9223372036854775807) →
      Calls Tryz.prog 15 #[.agg #[.int .i64 k, vL, vO, vD, .string s, .string ks, .string vs, .int .i64 n]] W fun e w' => e = .returned (.bool true) ∧ Below W.heap.size W w') :
    Calls Tryz.prog 9 #[.slice a len cap, .int .i64 lo, .int .i64 hi] w fun e w' => e = .returned (.bool true) ∧ Below w.heap.size w w' := by
  have HLAW := hid LAW
  have HL := hid hl
  have hlen : len ≤ maxLen := hl.1
  unfold maxLen at hlen
  clear hl LAW
  go_enter Tryz.func9, Tryz.ntmps9
  go_wp2_with fail
  go_loopw [7] (fun i wr => ∃ j : Nat, j ≤ len ∧ i = .int .i64 j ∧ Hid (Below w.heap.size w wr)) (fun i _ => len - (intOf i).toNat)
  case atStart => exact ⟨0, Nat.zero_le _, rfl, hid (Below.refl _ _)⟩
  case round =>
    obtain ⟨j, hj, rfl, HB⟩ := hrel
    by_cases hlt : j < len
    · rcases HL.out.2 with h0 | ⟨b, off, rfl, hbl, hc⟩
      · omega
      obtain ⟨k, vL, vO, vD, s, ks, vs, n, l, c, L, c0, c1, c2, c3, c4, c5, c6, c7, mL, mO, gL, gO, mD, gD, bD, hs, hks, hvs, hk, hn⟩ := hc j hlt
      rw [← HB.out.cell (p := ⟨b, off + j * 8, none⟩) hbl] at c0
      rw [← HB.out.cell (p := ⟨b, off + j * 8 + 1, none⟩) hbl] at c1
      rw [← HB.out.cell (p := ⟨b, off + j * 8 + 2, none⟩) hbl] at c2
      rw [← HB.out.cell (p := ⟨b, off + j * 8 + 3, none⟩) hbl] at c3
      rw [← HB.out.cell (p := ⟨b, off + j * 8 + 4, none⟩) hbl] at c4
      rw [← HB.out.cell (p := ⟨b, off + j * 8 + 5, none⟩) hbl] at c5
      rw [← HB.out.cell (p := ⟨b, off + j * 8 + 6, none⟩) hbl] at c6
      rw [← HB.out.cell (p := ⟨b, off + j * 8 + 7, none⟩) hbl] at c7
      have hsz : b < wr.heap.size := Nat.lt_of_lt_of_le hbl HB.out.size
      by_cases h1 : lo ≤ k
      · by_cases h2 : k ≤ hi
        · have L0 := hid (HLAW.out wr k vL vO vD s ks vs n l c L HB.out h1 h2 mL mO gL gO mD gD bD hs hks hvs hn)
          obtain ⟨aL, cL, rfl⟩ := came_slice mL
          obtain ⟨aO, cO, rfl⟩ := came_slice mO
          obtain ⟨aD, cD, rfl⟩ := cameD_slice mD
          clear hc mL mO gL gO hbl mD gD bD
          go_wp2_with fail
          refine L0.out.mono ?_
          rintro e w2 ⟨rfl, hb2⟩
          have HB2 := hid (HB.out.trans (hb2.mono HB.out.size))
          clear hb2
          go_wp2_with fail
          exact ⟨⟨j + 1, by omega, by go_num, HB2⟩, by simp [intOf]; omega⟩
        · clear hc mL mO gL gO hbl mD gD bD
          go_wp2_with fail
          exact ⟨⟨j + 1, by omega, by go_num, HB⟩, by simp [intOf]; omega⟩
      · clear hc mL mO gL gO hbl mD gD bD
        go_wp2_with fail
        exact ⟨⟨j + 1, by omega, by go_num, HB⟩, by simp [intOf]; omega⟩
    · obtain rfl : j = len := by omega
      go_wp2_with fail
      go_ret
      exact ⟨rfl, HB.out⟩
end Go.Proofs.YtnldagpbmphdhaaGreatDoor.L
namespace Go.Proofs.YtnldagpbmphdhaaGreatDoor.L
open Go.ChangeShapes Go.WideShapes Go.ChangeAt Go.RowKit Go.Joins
set_option linter.unusedVariables false
instance : Inhabited Df := ⟨⟨ByteArray.empty, ByteArray.empty, ByteArray.empty, false, false⟩⟩
theorem cellsLD : Tryz.prog.cellsOf 51 = 5 := by kernel_rfl
theorem cells4 : Tryz.prog.cellsOf 4 = 1 := by kernel_rfl
theorem bytesLD : Tryz.prog.bytesOf 51 = 56 := by kernel_rfl
set_option maxRecDepth 100000 in
set_option maxHeartbeats 1000000 in
theorem cameD_trod {H : Type} {enc : TypeId × Value → H} {W : World} {v : Value} {fuel : Nat} {d : DataW H} {p : List MemPlace} (h : DataW.trod enc Tryz.prog W 0 (fun _ => true) true fuel 38 [v] = some (d, p))
    (hsz : ∀ x ∈ d.weights Tryz.prog 38, x ≤ reachBytes) : ∃ L : List Df, CameD W v L ∧ GoodD L ∧ L.length * 56 ≤ 140737488351232 := by
  rcases Go.Deep.open_slice Tryz.underlying38 h with ⟨hv, hx⟩ | ⟨a, len, cap, m, n, D, Pl, hv, hb, hl, hm, hmm, hx, hc⟩
  · simp at hv
    exact ⟨[], Or.inl ⟨hv, rfl⟩, ⟨Nat.zero_le _, fun x hx => by simp at hx⟩, by decide⟩
  · simp at hv
    simp at hmm
    subst hmm
    have hx1 := congrArg Prod.fst hx
    simp only at hx1
    have hbytes : len * 56 ≤ 140737488351232 := by
      have := hsz (m * 56) (by rw [hx1]; simp [DataW.weights, Tryz.underlying38, bytesLD]; left; omega)
      rw [reach_num] at this
      omega
    rw [cellsLD] at hc
    have each : ∀ i, i < len → ∃ q : Df, (W.cell? (a.add (i * 5)) = some (.string q.k) ∧ W.cell? (a.add (i * 5 + 1)) = some (.string q.o) ∧ W.cell? (a.add (i * 5 + 2)) = some (.string q.n) ∧ W.cell? (a.add (i * 5 + 3)) = some (.bool q.had) ∧ W.cell? (a.add (i * 5 + 4)) = some (.bool q.has)) ∧ q.k.size ≤ maxLen ∧ q.o.size ≤ maxLen ∧ q.n.size ≤ maxLen := by
      intro i hi
      obtain ⟨cs', h1, h2⟩ := hc i (by omega)
      obtain ⟨_, hlen, hcell⟩ := World.cells?_some h1
      obtain ⟨xs, k, hk, hxy, _, hxl, hf⟩ := DataW.trod_struct Tryz.underlying51 h2
      match xs, hxl, cs', hlen with
      | [y0, y1, y2, y3, y4], _, [v0, v1, v2, v3, v4], _ =>
        have g0 := hf 0 _ rfl
        have g1 := hf 1 _ rfl
        have g2 := hf 2 _ rfl
        have g3 := hf 3 _ rfl
        have g4 := hf 4 _ rfl
        simp [cells9, cells4] at g0 g1 g2 g3 g4
        obtain ⟨s0, e0, _, z0⟩ := DataW.trod_string Tryz.underlying9 g0
        obtain ⟨s1, e1, _, z1⟩ := DataW.trod_string Tryz.underlying9 g1
        obtain ⟨s2, e2, _, z2⟩ := DataW.trod_string Tryz.underlying9 g2
        obtain ⟨b3, e3, _⟩ := DataW.trod_bool Tryz.underlying4 g3
        obtain ⟨b4, e4, _⟩ := DataW.trod_bool Tryz.underlying4 g4
        simp at e0 e1 e2 e3 e4
        subst e0 e1 e2 e3 e4
        have f0 := hcell 0 (by omega)
        have f1 := hcell 1 (by omega)
        have f2 := hcell 2 (by omega)
        have f3 := hcell 3 (by omega)
        have f4 := hcell 4 (by omega)
        rw [Go.Deep.add_add] at f0 f1 f2 f3 f4
        exact ⟨⟨s0, s1, s2, b3, b4⟩, ⟨by simpa using f0, by simpa using f1, by simpa using f2, by simpa using f3, by simpa using f4⟩, z0, z1, z2⟩
    obtain ⟨q, hq⟩ := Go.Deep.choose_lt each
    have hlen : ((List.range len).map q).length = len := by simp
    refine ⟨(List.range len).map q, Or.inr ⟨a, m, by rw [hlen, hv], ?_⟩, ⟨by rw [hlen]; omega, fun x hx => ?_⟩, by rw [hlen]; exact hbytes⟩
    · by_cases hz : len = 0
      · exact Or.inl (hlen.trans hz)
      right
      obtain ⟨b, off, spot⟩ := a
      have k0 := (hq 0 (by omega)).1.1
      have hspot : spot = none := by simpa [Addr.add] using World.cell?_spot k0
      subst hspot
      refine ⟨b, off, rfl, ?_, fun j hj => ?_⟩
      · rw [Go.WideShapes.add_plain] at k0
        exact block_lt k0
      · obtain ⟨⟨a0, a1, a2, a3, a4⟩, r⟩ := hq j (by rw [hlen] at hj; exact hj)
        rw [Go.WideShapes.add_plain] at a0 a1 a2 a3 a4
        simp only [List.getElem_map, List.getElem_range]
        exact ⟨a0, by rw [Nat.add_assoc]; exact a1, by rw [Nat.add_assoc]; exact a2, by rw [Nat.add_assoc]; exact a3, by rw [Nat.add_assoc]; exact a4⟩
    · obtain ⟨i, hi, rfl⟩ := List.mem_map.1 hx
      exact (hq i (by simpa using hi)).2
set_option maxRecDepth 100000 in
set_option maxHeartbeats 1000000 in
theorem ops2_open {H : Type} {enc : TypeId × Value → H} {W : World} {fuel : Nat} {v : Value} {y : DataW H × List MemPlace} (h : DataW.trod enc Tryz.prog W 0 (fun _ => true) true fuel 22 [v] = some y)
    (hsz : ∀ x ∈ y.1.weights Tryz.prog 22, x ≤ reachBytes) : ∃ a len cap, v = .slice a len cap ∧ List82 W a len := by
  rcases Go.Deep.open_slice Tryz.underlying22 h with ⟨hv, hx⟩ | ⟨a, len, cap, m, n, D, Pl, hv, hb, hl, hm, hmm, hx, hc⟩
  · simp at hv
    exact ⟨none, 0, 0, hv, Nat.zero_le _, Or.inl rfl⟩
  · simp at hv
    simp at hmm
    refine ⟨some a, len, cap, hv, Nat.le_trans hl hm, ?_⟩
    by_cases h0 : len = 0
    · exact Or.inl h0
    right
    rw [cellsO] at hc
    have hin : ∀ i, i < len → ∀ x ∈ (D i).weights Tryz.prog 40, x ≤ reachBytes := by
      intro i hi x hxx
      refine hsz x ?_
      rw [hx]
      have := mem_all (P := Tryz.prog) (e := 40) (ds := (List.range len).map D) (List.mem_map.2 ⟨i, List.mem_range.2 hi, rfl⟩) hxx
      simp only [DataW.weights, Tryz.underlying22]
      exact List.mem_cons_of_mem _ (List.mem_append_left _ this)
    have key : ∀ i, i < len → ∃ (k : Int) (vL vO vD : Value) (s ks vs : ByteArray) (n : Int) (l c : List Lb) (L : List Df),
        W.cell? (a.add (i * 8)) = some (.int .i64 k) ∧ W.cell? (a.add (i * 8 + 1)) = some vL ∧ W.cell? (a.add (i * 8 + 2)) = some vO ∧ W.cell? (a.add (i * 8 + 3)) = some vD ∧ W.cell? (a.add (i * 8 + 4)) = some (.string s) ∧ W.cell? (a.add (i * 8 + 5)) = some (.string ks) ∧ W.cell? (a.add (i * 8 + 6)) = some (.string vs) ∧ W.cell? (a.add (i * 8 + 7)) = some (.int .i64 n) ∧
        Came W vL l ∧ Came W vO c ∧ Good l ∧ Good c ∧ CameD W vD L ∧ GoodD L ∧ L.length * 56 ≤ 140737488351232 ∧ s.size ≤ 140737488351232 ∧ ks.size ≤ 140737488351232 ∧ vs.size ≤ 140737488351232 ∧ (-9223372036854775808 ≤ k ∧ k ≤ 9223372036854775807) ∧ (-9223372036854775808 ≤ n ∧ n ≤ 9223372036854775807) := by
      intro i hi
      obtain ⟨cs', h1, h2⟩ := hc i (by omega)
      obtain ⟨_, hlen, hcell⟩ := World.cells?_some h1
      obtain ⟨xs, k, hk, hxy, _, hxl, hf⟩ := DataW.trod_struct Tryz.underlying40 h2
      have hw := hin i hi
      match xs, hxl, cs', hlen with
      | [y0, y1, y2, y3, y4, y5, y6, y7], _, [v0, v1, v2, v3, v4, v5, v6, v7], _ =>
        have g0 := hf 0 _ rfl
        have g1 := hf 1 _ rfl
        have g2 := hf 2 _ rfl
        have g3 := hf 3 _ rfl
        have g4 := hf 4 _ rfl
        have g5 := hf 5 _ rfl
        have g6 := hf 6 _ rfl
        have g7 := hf 7 _ rfl
        simp [cells3, cells9, cellsL', cellsD'] at g0 g1 g2 g3 g4 g5 g6 g7
        have hD : D i = .agg [y0.1, y1.1, y2.1, y3.1, y4.1, y5.1, y6.1, y7.1] := congrArg Prod.fst hxy
        rw [hD] at hw
        simp only [DataW.weights, Tryz.underlying40] at hw
        obtain ⟨p, e0, _, w0⟩ := DataW.trod_int Tryz.underlying3 g0
        obtain ⟨s4, e4, x4, w4⟩ := DataW.trod_string Tryz.underlying9 g4
        obtain ⟨s5, e5, x5, w5⟩ := DataW.trod_string Tryz.underlying9 g5
        obtain ⟨s6, e6, x6, w6⟩ := DataW.trod_string Tryz.underlying9 g6
        obtain ⟨q, e7, _, w7⟩ := DataW.trod_int Tryz.underlying3 g7
        simp at e0 e4 e5 e6 e7
        subst e0 e4 e5 e6 e7
        obtain ⟨l, ml, gl⟩ := came_trod (d := y1.1) (p := y1.2) g1 (fun x hx => hw x (by simp [DataW.weightsEach, hx]))
        obtain ⟨c, mc, gc⟩ := came_trod (d := y2.1) (p := y2.2) g2 (fun x hx => hw x (by simp [DataW.weightsEach, hx]))
        obtain ⟨L, mD, gD, bD⟩ := cameD_trod (d := y3.1) (p := y3.2) g3 (fun x hx => hw x (by simp [DataW.weightsEach, hx]))
        have z4 := hw s4.data.toList.length (by simp [DataW.weightsEach, x4, DataW.weights])
        have z5 := hw s5.data.toList.length (by simp [DataW.weightsEach, x5, DataW.weights])
        have z6 := hw s6.data.toList.length (by simp [DataW.weightsEach, x6, DataW.weights])
        have f0 := hcell 0 (by omega)
        have f1 := hcell 1 (by omega)
        have f2 := hcell 2 (by omega)
        have f3 := hcell 3 (by omega)
        have f4 := hcell 4 (by omega)
        have f5 := hcell 5 (by omega)
        have f6 := hcell 6 (by omega)
        have f7 := hcell 7 (by omega)
        rw [Go.Deep.add_add] at f0 f1 f2 f3 f4 f5 f6 f7
        exact ⟨p, v1, v2, v3, s4, s5, s6, q, l, c, L, by simpa using f0, by simpa using f1, by simpa using f2, by simpa using f3, by simpa using f4, by simpa using f5, by simpa using f6, by simpa using f7, ml, mc, gl, gc, mD, gD, bD, text_size z4, text_size z5, text_size z6, wf_i64 w0, wf_i64 w7⟩
    obtain ⟨b, off, spot⟩ := a
    obtain ⟨_, _, _, _, _, _, _, _, _, _, _, k0, _⟩ := key 0 (by omega)
    have hspot : spot = none := by simpa [Addr.add] using World.cell?_spot k0
    subst hspot
    refine ⟨b, off, rfl, ?_, fun j hj => ?_⟩
    · rw [Go.WideShapes.add_plain] at k0
      exact block_lt k0
    · obtain ⟨k, vL, vO, vD, s, ks, vs, n, l, c, L, a0, a1, a2, a3, a4, a5, a6, a7, r⟩ := key j hj
      rw [Go.WideShapes.add_plain] at a0 a1 a2 a3 a4 a5 a6 a7
      exact ⟨k, vL, vO, vD, s, ks, vs, n, l, c, L, a0, by rw [Nat.add_assoc]; exact a1, by rw [Nat.add_assoc]; exact a2, by rw [Nat.add_assoc]; exact a3, by rw [Nat.add_assoc]; exact a4, by rw [Nat.add_assoc]; exact a5, by rw [Nat.add_assoc]; exact a6, by rw [Nat.add_assoc]; exact a7, r⟩
set_option maxRecDepth 100000 in
theorem ops2_arg {H : Type} {enc : TypeId × Value → H} {W : World} {base : Nat} {v : Value} {d : DataW H} {p : List MemPlace} (hv : Value.okWide Tryz.prog W .any base 22 v) (h : DataW.Trod enc Tryz.prog W 0 (fun _ => true) true 22 v d p)
    (hsz : ∀ x ∈ d.weights Tryz.prog 22, x ≤ reachBytes) : ∃ a len cap, v = .slice a len cap ∧ List82 W a len := by
  obtain ⟨a, len, cap, rfl⟩ := okWide_slice Tryz.underlying22 hv
  obtain ⟨fuel, hf⟩ := h
  exact ops2_open (y := (d, p)) (by simpa [Value.cells] using hf) hsz
end Go.Proofs.YtnldagpbmphdhaaGreatDoor.L
