import Derived.Maps.Own
import Derived.Maps.OwnSet
import Derived.Maps.Views
import Derived.Carry
import Derived.Test.YtfbagkajbnomoaaQ17
namespace Go.Proofs.Ytfbagkajbnomoaa.L
open Go.RowKit Rg Qu Go.Maps
set_option linter.unusedVariables false
set_option linter.unusedSimpArgs false
/-- It answers whether. -/
def AnsP (e : Ending) (P : Prop) : Prop := ∃ z, e = .returned (.bool z) ∧ (z = true ↔ P)
/-- May these numbers be? -/
def mayP (x : Wt) (next : Int) : Prop := 0 ≤ x.seq ∧ x.seq < next ∧ 0 ≤ x.tries ∧ x.tries ≤ 1099511627776 ∧ 0 ≤ x.til ∧ x.til ≤ 1099511627840
instance (x : Wt) (next : Int) : Decidable (mayP x next) := by unfold mayP; exact inferInstance
set_option maxHeartbeats 4000000 in
set_option maxRecDepth 100000 in
theorem lawful_any (l : List Wt) (a : Option Addr) (c : Nat) (next : Int) (w : World) (h : RdG wtV 6 w a l) (hl : l.length ≤ 2048) :
    Calls Try.prog 38 #[.slice a l.length c, .int .i64 next] w fun e w' => AnsP e (∀ x, x ∈ l → mayP x next) ∧ Below w.heap.size w w' := by
  have HR := hid h
  obtain ⟨n, hn⟩ : ∃ n, n = l.length := ⟨_, rfl⟩
  have HN := hid hn
  rw [← hn] at hl ⊢
  have hmax : n ≤ 9223372036854775807 := by omega
  clear h hn
  go_enter Try.func38, Try.ntmps38
  go_wp2_with fail
  go_loopw [6, 12] (fun _ s8 wr => ∃ k : Nat, k ≤ n ∧ s8 = .int .i64 (k : Int) ∧ Hid (Below w.heap.size w wr) ∧ Hid (∀ (j : Nat) (h : j < l.length), j < k → mayP l[j] next)) (fun _ i _ => n - (intOf i).toNat)
  case atStart => exact ⟨0, Nat.zero_le _, rfl, hid (Below.refl _ _), hid (fun j h hj => absurd hj (Nat.not_lt_zero j))⟩
  case round =>
    obtain ⟨k, hk, rfl, HB, HA⟩ := hrel
    by_cases hlt : k < n
    · have g1 : (k : Int) < (n : Int) := by omega
      have g2 : (0 : Int) ≤ (k : Int) := by omega
      have hlt' : k < l.length := by rw [← HN.out]; exact hlt
      obtain ⟨b, off, hae, hbb, c0, c1, c2, c3, c4, c5⟩ := cell_w (HR.out.low HB.out) hlt'
      subst hae
      obtain ⟨y, hy⟩ : ∃ y, y = l[k]'hlt' := ⟨_, rfl⟩
      rw [← hy] at c0 c1 c2 c3 c4 c5
      have HY := hid hy
      have HLT := hid hlt'
      have HBX := hid (belowA wr (.cells #[.string y.name, .int .i64 y.pr, .int .i64 y.seq, .int .i64 y.tries, .int .i64 y.til, .bool y.asl] 63))
      have HXX := hid (heap_alloc_new wr (.cells #[.string y.name, .int .i64 y.pr, .int .i64 y.seq, .int .i64 y.tries, .int .i64 y.til, .bool y.asl] 63))
      clear hbb hy
      go_upto_region 4 with fail
      generalize wr.alloc (.cells #[.string y.name, .int .i64 y.pr, .int .i64 y.seq, .int .i64 y.tries, .int .i64 y.til, .bool y.asl] 63) = V at *
      obtain ⟨pb, hpb⟩ : ∃ b, b = wr.heap.size := ⟨_, rfl⟩
      rw [← hpb] at HXX ⊢
      clear hpb c0 c1 c2 c3 c4 c5
      have c2 : V.cell? ⟨pb, 2, none⟩ = some (.int .i64 y.seq) := cell_of_row V _ 2 _ _ _ HXX.out
      have c3 : V.cell? ⟨pb, 3, none⟩ = some (.int .i64 y.tries) := cell_of_row V _ 3 _ _ _ HXX.out
      have c4 : V.cell? ⟨pb, 4, none⟩ = some (.int .i64 y.til) := cell_of_row V _ 4 _ _ _ HXX.out
      have HBV := hid (bch HB.out HBX.out)
      have h1 : (∃ z1 : Bool, decide (0 ≤ y.seq) = z1) := ⟨_, rfl⟩
      by_cases hm : mayP y next
      · have hm' := hm
        unfold mayP at hm'
        obtain ⟨m1, m2, m3, m4, m5, m6⟩ := hm'
        have HM := hid (show ∀ (j : Nat) (h : j < l.length), j < k + 1 → mayP l[j] next from fun j h hj => by
          by_cases e : j = k
          · subst e; rw [← HY.out]; exact hm
          · exact HA.out j h (by omega))
        clear hm h1
        go_wp2_with fail
        exact ⟨⟨k + 1, by omega, by go_num, HBV, HM⟩, by simp [intOf]; omega⟩
      · have HF := hid (show (false = true ↔ ∀ x, x ∈ l → mayP x next) from ⟨(fun e => by cases e), fun e => absurd (e _ (by rw [HY.out]; exact List.getElem_mem HLT.out)) hm⟩)
        have hnot : ¬ 0 ≤ y.seq ∨ (0 ≤ y.seq ∧ ¬ y.seq < next) ∨ (0 ≤ y.seq ∧ y.seq < next ∧ ¬ 0 ≤ y.tries) ∨ (0 ≤ y.seq ∧ y.seq < next ∧ 0 ≤ y.tries ∧ ¬ y.tries ≤ 1099511627776) ∨ (0 ≤ y.seq ∧ y.seq < next ∧ 0 ≤ y.tries ∧ y.tries ≤ 1099511627776 ∧ ¬ 0 ≤ y.til) ∨ (0 ≤ y.seq ∧ y.seq < next ∧ 0 ≤ y.tries ∧ y.tries ≤ 1099511627776 ∧ 0 ≤ y.til ∧ ¬ y.til ≤ 1099511627840) := by
          unfold mayP at hm
          omega
        clear hm h1
        rcases hnot with m1 | ⟨m1, m2⟩ | ⟨m1, m2, m3⟩ | ⟨m1, m2, m3, m4⟩ | ⟨m1, m2, m3, m4, m5⟩ | ⟨m1, m2, m3, m4, m5, m6⟩
        all_goals go_wp2_with fail
        all_goals go_ret
        all_goals exact ⟨⟨false, by first | rfl | simp, HF.out⟩, HBV.out⟩
    · have g1 : ¬ (k : Int) < (n : Int) := by omega
      have HF := hid (show ∀ x, x ∈ l → mayP x next from fun x hx => by
        obtain ⟨j, hj, rfl⟩ := List.getElem_of_mem hx
        exact HA.out j hj (by have := HN.out; omega))
      go_wp2_with fail
      go_ret
      exact ⟨⟨true, by first | rfl | simp, ⟨fun _ => HF.out, fun _ => rfl⟩⟩, HB.out⟩
/-- They stand in order. -/
def OrdP (l : List Wt) : Prop := ∀ (i : Nat) (h : i + 1 < l.length), ahd l[i] l[i + 1]
set_option maxHeartbeats 4000000 in
set_option maxRecDepth 100000 in
theorem ordered_any (l : List Wt) (a : Option Addr) (c : Nat) (w : World) (h : RdG wtV 6 w a l) (hl : l.length ≤ 2048) :
    Calls Try.prog 40 #[.slice a l.length c] w fun e w' => AnsP e (OrdP l) ∧ Below w.heap.size w w' := by
  have HR := hid h
  obtain ⟨n, hn⟩ : ∃ n, n = l.length := ⟨_, rfl⟩
  have HN := hid hn
  rw [← hn] at hl ⊢
  have hmax : n ≤ 9223372036854775807 := by omega
  clear h hn
  go_enter Try.func40, Try.ntmps40
  go_wp2_with fail
  go_loopw [3] (fun s8 wr => ∃ k : Nat, 1 ≤ k ∧ (k ≤ n ∨ k = 1) ∧ s8 = .int .i64 (k : Int) ∧ Hid (Below w.heap.size w wr) ∧ Hid (∀ (j : Nat) (h : j + 1 < l.length), j + 1 < k → ahd l[j] l[j + 1])) (fun i _ => n - (intOf i).toNat)
  case atStart => exact ⟨1, by omega, Or.inr rfl, rfl, hid (Below.refl _ _), hid (fun j h hj => absurd hj (by omega))⟩
  case round =>
    obtain ⟨k, h1k, hk, rfl, HB, HA⟩ := hrel
    by_cases hlt : k < n
    · obtain ⟨j, hj⟩ : ∃ j, k = j + 1 := ⟨k - 1, by omega⟩
      have g1 : (k : Int) < (n : Int) := by omega
      have g2 : (0 : Int) ≤ (k : Int) := by omega
      have g3 : IntKind.i64.wrap ((k : Int) - 1) = (k : Int) - 1 := by rw [IntKind.wrap_i64]; omega
      have g4 : (0 : Int) ≤ (k : Int) - 1 := by omega
      have g5 : (k : Int) - 1 < (n : Int) := by omega
      have g6 : ((k : Int) - 1).toNat = j := by omega
      have g7 : (1 : Int) ≤ (k : Int) := by omega
      have g8 : (k : Int).toNat = j + 1 := by omega
      have k1 : j < l.length := by rw [← HN.out]; omega
      have k2 : j + 1 < l.length := by rw [← HN.out]; omega
      obtain ⟨b1, o1, hae, hb1, c0, c1, c2, c3, c4, c5⟩ := cell_w (HR.out.low HB.out) k1
      obtain ⟨b2, o2, hbe, hb2, d0, d1, d2, d3, d4, d5⟩ := cell_w (HR.out.low HB.out) k2
      subst hae
      injection hbe with hbe
      injection hbe with hbe1 hbe2 _
      subst hbe1 hbe2
      obtain ⟨x, hx⟩ : ∃ x, x = l[j]'k1 := ⟨_, rfl⟩
      obtain ⟨y, hy⟩ : ∃ y, y = l[j + 1]'k2 := ⟨_, rfl⟩
      rw [← hx] at c0 c1 c2 c3 c4 c5
      rw [← hy] at d0 d1 d2 d3 d4 d5
      rw [← hj] at d0 d1 d2 d3 d4 d5
      have HX := hid (And.intro hx hy)
      have HK2 := hid k2
      have hop := ahead_any x y
      unfold wtV at hop
      have HOPA := hid hop
      clear hop
      by_cases hq : ahd x y
      · have hd : decide (ahd x y) = true := by simpa using hq
        have HOP := HOPA.out
        simp only [hd] at HOP
        have HOP := hid HOP
        have HBD := hid (bch HB.out (belowD wr))
        have hdr : ∀ {p : Addr} {u : Value}, wr.cell? p = some u → wr.drew.cell? p = some u := fun h => h
        have c0 := hdr c0
        have c1 := hdr c1
        have c2 := hdr c2
        have c3 := hdr c3
        have c4 := hdr c4
        have c5 := hdr c5
        have d0 := hdr d0
        have d1 := hdr d1
        have d2 := hdr d2
        have d3 := hdr d3
        have d4 := hdr d4
        have d5 := hdr d5
        have HLB := hid hb1
        have HJ := hid hj
        clear hdr hb2 hx hy hb1 hj g8
        go_upto_region 4 with fail
        go_region_held3 (fun Y => Y.cell? ⟨b1, o1 + j * 6, none⟩ = some (.string x.name) ∧ Y.cell? ⟨b1, o1 + j * 6 + 1, none⟩ = some (.int .i64 x.pr) ∧ Y.cell? ⟨b1, o1 + j * 6 + 2, none⟩ = some (.int .i64 x.seq) ∧ Y.cell? ⟨b1, o1 + j * 6 + 3, none⟩ = some (.int .i64 x.tries) ∧ Y.cell? ⟨b1, o1 + j * 6 + 4, none⟩ = some (.int .i64 x.til) ∧ Y.cell? ⟨b1, o1 + j * 6 + 5, none⟩ = some (.bool x.asl) ∧ Y.cell? ⟨b1, o1 + k * 6, none⟩ = some (.string y.name) ∧ Y.cell? ⟨b1, o1 + k * 6 + 1, none⟩ = some (.int .i64 y.pr) ∧ Y.cell? ⟨b1, o1 + k * 6 + 2, none⟩ = some (.int .i64 y.seq) ∧ Y.cell? ⟨b1, o1 + k * 6 + 3, none⟩ = some (.int .i64 y.tries) ∧ Y.cell? ⟨b1, o1 + k * 6 + 4, none⟩ = some (.int .i64 y.til) ∧ Y.cell? ⟨b1, o1 + k * 6 + 5, none⟩ = some (.bool y.asl))
          (first | exact ⟨c0, c1, c2, c3, c4, c5, d0, d1, d2, d3, d4, d5⟩ | exact T2)
          (first
            | (go_at_call 48; refine (HOP.out _).mono ?_; rintro e w2 ⟨rfl, hb2⟩
               have T2 := And.intro ((hb2.cell (p := ⟨b1, o1 + j * 6, none⟩) HLB.out).trans c0) (And.intro ((hb2.cell (p := ⟨b1, o1 + j * 6 + 1, none⟩) HLB.out).trans c1) (And.intro ((hb2.cell (p := ⟨b1, o1 + j * 6 + 2, none⟩) HLB.out).trans c2) (And.intro ((hb2.cell (p := ⟨b1, o1 + j * 6 + 3, none⟩) HLB.out).trans c3) (And.intro ((hb2.cell (p := ⟨b1, o1 + j * 6 + 4, none⟩) HLB.out).trans c4) (And.intro ((hb2.cell (p := ⟨b1, o1 + j * 6 + 5, none⟩) HLB.out).trans c5) (And.intro ((hb2.cell (p := ⟨b1, o1 + k * 6, none⟩) HLB.out).trans d0) (And.intro ((hb2.cell (p := ⟨b1, o1 + k * 6 + 1, none⟩) HLB.out).trans d1) (And.intro ((hb2.cell (p := ⟨b1, o1 + k * 6 + 2, none⟩) HLB.out).trans d2) (And.intro ((hb2.cell (p := ⟨b1, o1 + k * 6 + 3, none⟩) HLB.out).trans d3) (And.intro ((hb2.cell (p := ⟨b1, o1 + k * 6 + 4, none⟩) HLB.out).trans d4) ((hb2.cell (p := ⟨b1, o1 + k * 6 + 5, none⟩) HLB.out).trans d5)))))))))))
               have HB2 := hid hb2
               clear hb2))
        clear c0 c1 c2 c3 c4 c5 d0 d1 d2 d3 d4 d5 T2
        have HBW := hid (bch HBD.out HB2.out)
        have HF := hid (show ∀ (i : Nat) (h : i + 1 < l.length), i + 1 < k + 1 → ahd l[i] l[i + 1] from fun i h hi => by
          by_cases e : i = j
          · subst e
            rw [← HX.out.1, ← HX.out.2]
            exact hq
          · exact HA.out i h (by have := HJ.out; omega))
        go_wp2_with fail
        exact ⟨⟨k + 1, by omega, Or.inl (by omega), by go_num, HBW, HF⟩, by simp [intOf]; omega⟩
      · have hd : decide (ahd x y) = false := by simpa using hq
        have HOP := HOPA.out
        simp only [hd] at HOP
        have HOP := hid HOP
        have HBD := hid (bch HB.out (belowD wr))
        have hdr : ∀ {p : Addr} {u : Value}, wr.cell? p = some u → wr.drew.cell? p = some u := fun h => h
        have c0 := hdr c0
        have c1 := hdr c1
        have c2 := hdr c2
        have c3 := hdr c3
        have c4 := hdr c4
        have c5 := hdr c5
        have d0 := hdr d0
        have d1 := hdr d1
        have d2 := hdr d2
        have d3 := hdr d3
        have d4 := hdr d4
        have d5 := hdr d5
        have HLB := hid hb1
        have HJ := hid hj
        clear hdr hb2 hx hy hb1 hj g8
        go_upto_region 4 with fail
        go_region_held3 (fun Y => Y.cell? ⟨b1, o1 + j * 6, none⟩ = some (.string x.name) ∧ Y.cell? ⟨b1, o1 + j * 6 + 1, none⟩ = some (.int .i64 x.pr) ∧ Y.cell? ⟨b1, o1 + j * 6 + 2, none⟩ = some (.int .i64 x.seq) ∧ Y.cell? ⟨b1, o1 + j * 6 + 3, none⟩ = some (.int .i64 x.tries) ∧ Y.cell? ⟨b1, o1 + j * 6 + 4, none⟩ = some (.int .i64 x.til) ∧ Y.cell? ⟨b1, o1 + j * 6 + 5, none⟩ = some (.bool x.asl) ∧ Y.cell? ⟨b1, o1 + k * 6, none⟩ = some (.string y.name) ∧ Y.cell? ⟨b1, o1 + k * 6 + 1, none⟩ = some (.int .i64 y.pr) ∧ Y.cell? ⟨b1, o1 + k * 6 + 2, none⟩ = some (.int .i64 y.seq) ∧ Y.cell? ⟨b1, o1 + k * 6 + 3, none⟩ = some (.int .i64 y.tries) ∧ Y.cell? ⟨b1, o1 + k * 6 + 4, none⟩ = some (.int .i64 y.til) ∧ Y.cell? ⟨b1, o1 + k * 6 + 5, none⟩ = some (.bool y.asl))
          (first | exact ⟨c0, c1, c2, c3, c4, c5, d0, d1, d2, d3, d4, d5⟩ | exact T2)
          (first
            | (go_at_call 48; refine (HOP.out _).mono ?_; rintro e w2 ⟨rfl, hb2⟩
               have T2 := And.intro ((hb2.cell (p := ⟨b1, o1 + j * 6, none⟩) HLB.out).trans c0) (And.intro ((hb2.cell (p := ⟨b1, o1 + j * 6 + 1, none⟩) HLB.out).trans c1) (And.intro ((hb2.cell (p := ⟨b1, o1 + j * 6 + 2, none⟩) HLB.out).trans c2) (And.intro ((hb2.cell (p := ⟨b1, o1 + j * 6 + 3, none⟩) HLB.out).trans c3) (And.intro ((hb2.cell (p := ⟨b1, o1 + j * 6 + 4, none⟩) HLB.out).trans c4) (And.intro ((hb2.cell (p := ⟨b1, o1 + j * 6 + 5, none⟩) HLB.out).trans c5) (And.intro ((hb2.cell (p := ⟨b1, o1 + k * 6, none⟩) HLB.out).trans d0) (And.intro ((hb2.cell (p := ⟨b1, o1 + k * 6 + 1, none⟩) HLB.out).trans d1) (And.intro ((hb2.cell (p := ⟨b1, o1 + k * 6 + 2, none⟩) HLB.out).trans d2) (And.intro ((hb2.cell (p := ⟨b1, o1 + k * 6 + 3, none⟩) HLB.out).trans d3) (And.intro ((hb2.cell (p := ⟨b1, o1 + k * 6 + 4, none⟩) HLB.out).trans d4) ((hb2.cell (p := ⟨b1, o1 + k * 6 + 5, none⟩) HLB.out).trans d5)))))))))))
               have HB2 := hid hb2
               clear hb2))
        clear c0 c1 c2 c3 c4 c5 d0 d1 d2 d3 d4 d5 T2
        have HBW := hid (bch HBD.out HB2.out)
        have HF := hid (show ¬ OrdP l from fun e => hq (by rw [HX.out.1, HX.out.2]; exact e j HK2.out))
        go_wp2_with fail
        go_ret
        exact ⟨⟨false, by first | rfl | simp, ⟨fun e => (by cases e), fun e => absurd e HF.out⟩⟩, HBW.out⟩
    · have g1 : ¬ (k : Int) < (n : Int) := by omega
      have HF := hid (show OrdP l from fun i h => HA.out i h (by have := HN.out; omega))
      go_wp2_with fail
      go_ret
      exact ⟨⟨true, by first | rfl | simp, ⟨fun _ => HF.out, fun _ => rfl⟩⟩, HB.out⟩
end Go.Proofs.Ytfbagkajbnomoaa.L
