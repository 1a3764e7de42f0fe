import Derived.Test.YtdhjoimiejdgbaaDoorMgE
import Derived.Test.YtdhjoimiejdgbaaDoorRf9
namespace Go.Proofs.YtdhjoimiejdgbaaDoor.L
open Go.RowKit Bs Go.Maps
set_option linter.unusedVariables false
/-- Pairs, to be read. -/
def ItemsP (w : World) (a : Option Addr) (ps : List Sn) : Prop := ∀ j (h : j < ps.length), ∃ b, a = some ⟨b, 0, none⟩ ∧ w.cell? ⟨b, j * 2, none⟩ = some (.int .i64 ((ps[j]).1 : Int)) ∧ w.cell? ⟨b, j * 2 + 1, none⟩ = some (.string (ps[j]).2)
theorem cellsP_at : ∀ (l : List Sn) (j : Nat) (h : j < l.length), (cellsP l)[j * 2]? = some (.int .i64 ((l[j]).1 : Int)) ∧ (cellsP l)[j * 2 + 1]? = some (.string (l[j]).2)
  | x :: l, 0, h => ⟨rfl, rfl⟩
  | x :: l, j + 1, h => by
    have := cellsP_at l j (by simpa using h)
    rw [show cellsP (x :: l) = .int .i64 (x.1 : Int) :: .string x.2 :: cellsP l from rfl, show (j + 1) * 2 = j * 2 + 1 + 1 by omega]
    simpa using this
theorem own_itemsP {w : World} {base : Nat} {v : Value} {ps : List Sn} (h : OwnP w base v ps) : ∃ a cap, v = .slice a ps.length cap ∧ ItemsP w a ps := by
  rcases own_form h with ⟨rfl, h0⟩ | ⟨g, cap, rfl, _, _, hlt⟩
  · exact ⟨none, 0, by rw [h0], fun j hj => by omega⟩
  · refine ⟨_, cap, rfl, fun j hj => ⟨g, rfl, ?_⟩⟩
    obtain ⟨a, b⟩ := cellsP_at ps j hj
    have A := h.cells (g := g) rfl _ _ a
    have B := h.cells (g := g) rfl _ _ b
    rw [Go.WideShapes.add_plain] at A B
    simp at A B
    exact ⟨A, B⟩
/-- Rows of the document, to be read: slot and name. -/
def ItemsE (w : World) (a : Option Addr) (d : List Dr) : Prop := ∀ j (h : j < d.length), ∃ b, a = some ⟨b, 0, none⟩ ∧ w.cell? ⟨b, j * 3, none⟩ = some (.int .i64 ((d[j]).1 : Int)) ∧ w.cell? ⟨b, j * 3 + 1, none⟩ = some (.string (d[j]).2.1)
theorem own_itemsE {w : World} {base : Nat} {v : Value} {d : List Dr} (h : w.ownsRow base 63 3 v d.length (cellsD d)) : ∃ a cap, v = .slice a d.length cap ∧ ItemsE w a d := by
  obtain ⟨a, cap, rfl, hi⟩ := own_itemsD (own_base h)
  refine ⟨a, cap, rfl, fun j hj => ?_⟩
  rcases hi with h0 | ⟨b, rfl, _, hc⟩
  · omega
  · obtain ⟨c0, c1, _⟩ := hc j hj
    rw [ds_at hj] at c0
    rw [dn_at hj] at c1
    exact ⟨b, rfl, c0, c1⟩
set_option maxHeartbeats 4000000 in
set_option maxRecDepth 100000 in
theorem rowsare_any (a1 a2 : Option Addr) (c1 c2 L1 L2 : Nat) (ps : List Sn) (d : List Dr) (n : Int) (w : World) (h1 : L1 = ps.length) (h2 : L2 = d.length) (hp : ps = (prD d).take n.toNat) (hl : L2 ≤ 65536) (hn : n ≤ 66000) (i1 : ItemsP w a1 ps) (i2 : ItemsE w a2 d) :
    Calls Tryd.prog 43 #[.slice a1 L1 c1, .slice a2 L2 c2, .int .i64 n] w fun e w' => e = .returned (.bool true) ∧ ∃ n, w' = w.drewN n := by
  have hL : max 0 (min n (L2 : Int)) = (L1 : Int) := by
    rw [h1, hp, List.length_take, h2]
    unfold prD
    rw [List.length_map]
    omega
  have hL2 : L1 ≤ L2 := by omega
  have HC : Hid (∀ j, j < L1 → ∃ b1 b2 x s, a1 = some ⟨b1, 0, none⟩ ∧ a2 = some ⟨b2, 0, none⟩ ∧ w.cell? ⟨b1, j * 2, none⟩ = some (.int .i64 x) ∧ w.cell? ⟨b1, j * 2 + 1, none⟩ = some (.string s) ∧ w.cell? ⟨b2, j * 3, none⟩ = some (.int .i64 x) ∧ w.cell? ⟨b2, j * 3 + 1, none⟩ = some (.string s)) := hid (fun j hj => by
    obtain ⟨b1, e1, p1, p2⟩ := i1 j (by omega)
    obtain ⟨b2, e2, q1, q2⟩ := i2 j (by omega)
    have e : ps[j]'(by omega) = ((d[j]'(by omega)).1, (d[j]'(by omega)).2.1) := by
      subst hp
      rw [List.getElem_take]
      unfold prD
      rw [List.getElem_map]
    rw [e] at p1 p2
    exact ⟨b1, b2, _, _, e1, e2, p1, p2, q1, q2⟩)
  clear i1 i2 hp h1 h2
  generalize hQ : (fun (e : Ending) (w' : World) => e = .returned (.bool true) ∧ ∃ n, w' = w.drewN n) = Q
  have HQ := hid hQ
  clear hQ
  go_enter Tryd.func43, Tryd.ntmps43
  go_wp2_with fail
  have HL := hid hL
  clear hL
  go_loopw [18] (fun i wr => ∃ k : Nat, k ≤ L1 ∧ i = .int .i64 k ∧ Hid (∃ n, wr = w.drewN n)) (fun i _ => L1 - (intOf i).toNat)
  case atStart => exact ⟨0, Nat.zero_le _, rfl, hid ⟨0, rfl⟩⟩
  case round =>
    obtain ⟨k, hk, rfl, HW⟩ := hrel
    by_cases hlt : k < L1
    · obtain ⟨b1, b2, x, s, e1, e2, p1, p2, p3, p4⟩ := HC.out k hlt
      obtain ⟨nw, hnw⟩ := HW.out
      subst e1 e2
      have p1 : wr.cell? ⟨b1, k * 2, none⟩ = some (.int .i64 x) := by rw [hnw]; exact p1
      have p2 : wr.cell? ⟨b1, k * 2 + 1, none⟩ = some (.string s) := by rw [hnw]; exact p2
      have p3 : wr.cell? ⟨b2, k * 3, none⟩ = some (.int .i64 x) := by rw [hnw]; exact p3
      have p4 : wr.cell? ⟨b2, k * 3 + 1, none⟩ = some (.string s) := by rw [hnw]; exact p4
      have hk2 : k < L2 := by omega
      have HNW := hid hnw
      clear hnw HW HC
      go_wp2_with fail
      go_quiet (fail)
      go_wp2_with fail
      exact ⟨⟨k + 1, by omega, by go_num, hid ⟨nw + _, by rw [HNW.out, World.drewN_drewN]⟩⟩, by simp [intOf]; omega⟩
    · obtain rfl : k = L1 := by omega
      go_wp2_with fail
      rw [← HQ.out]
      exact ⟨rfl, HW.out⟩
end Go.Proofs.YtdhjoimiejdgbaaDoor.L
