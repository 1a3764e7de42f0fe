import Derived.Test.YtnlohjcjboelgaaCop
import Derived.Test.YtnlohjcjboelgaaOrder
namespace Go.Proofs.Ytnlohjcjboelgaa.L
open Go.RowKit
set_option linter.unusedVariables false
abbrev Pr := ByteArray × Int × Int
/-- The walk of two lists side by side. -/
def mrg : Nat → List It → List It → List Pr
  | 0, _, _ => []
  | _ + 1, [], [] => []
  | n + 1, x :: a, [] => (x.1, x.2, 0) :: mrg n a []
  | n + 1, [], y :: b => (y.1, 0, y.2) :: mrg n [] b
  | n + 1, x :: a, y :: b => if Op.bytesLess x.1.toList y.1.toList = true then (x.1, x.2, 0) :: mrg n a (y :: b) else if Op.bytesLess y.1.toList x.1.toList = true then (y.1, 0, y.2) :: mrg n (x :: a) b else (x.1, x.2, y.2) :: mrg n a b
theorem info47 : (Try.prog.info? 58).map (fun i => (i.zero, i.size, i.bytes)) = some (some (.agg #[.string ByteArray.empty, .int .i64 0, .int .i64 0]), 3, 32) := by kernel_rfl
def cellsP (l : List Pr) : List Value := l.flatMap fun x => [.string x.1, .int .i64 x.2.1, .int .i64 x.2.2]
theorem sl_cons {W : World} {v : Value} {x : It} {l : List It} (h : Sl W v (x :: l)) : ∃ b off cap, v = .slice (some ⟨b, off, none⟩) (l.length + 1) cap ∧ l.length + 1 ≤ cap ∧ cap ≤ maxLen ∧ b < W.heap.size ∧ W.cell? ⟨b, off, none⟩ = some (.string x.1) ∧ W.cell? ⟨b, off + 1, none⟩ = some (.int .i64 x.2) := by
  obtain ⟨a, cap, rfl, h1, h2, h⟩ := h
  rcases h with h | ⟨b, off, rfl, hl, hc⟩
  · simp at h
  · have := hc 0 (by simp)
    exact ⟨b, off, cap, rfl, h1, h2, hl, by simpa [nm] using this.1, by simpa [am] using this.2⟩
theorem sl_nil {W : World} {v : Value} (h : Sl W v []) : ∃ a cap, v = .slice a 0 cap := by
  obtain ⟨a, cap, rfl, _⟩ := h
  exact ⟨a, cap, rfl⟩
/-- A struct of three fields, made and filled. -/
theorem put3 (wr : World) (k : Nat) (t : TypeId) (x y z : Value) (W1 : World)
    (h : ((((wr.alloc (.cells #[.string ⟨#[]⟩, .int .i64 0, .int .i64 0] t)).drewN k).setCell ⟨wr.heap.size, 0, none⟩ x).setCell ⟨wr.heap.size, 1, none⟩ y).setCell ⟨wr.heap.size, 2, none⟩ z = W1) :
    Below wr.heap.size wr W1 ∧ W1.heap.size = wr.heap.size + 1 ∧ W1.cell? ⟨wr.heap.size, 0, none⟩ = some x ∧ W1.cell? ⟨wr.heap.size, 1, none⟩ = some y ∧ W1.cell? ⟨wr.heap.size, 2, none⟩ = some z := by
  subst h
  refine ⟨?_, by simp [World.setCell], ?_, ?_, ?_⟩
  · exact (((below_drewN ((Below.refl _ _).alloc (Nat.le_refl _) _) k).setCell (Nat.le_refl _) _).setCell (Nat.le_refl _) _).setCell (Nat.le_refl _) _
  · simp [go_sem]
  · simp [go_sem]
  · simp [go_sem]
theorem own_low {w w' : World} {base : Nat} {e : TypeId} {size n : Nat} {v : Value} {xs : List Value} (h : w.ownsRow base e size v n xs) (hb : Below w.heap.size w w') (hs : base ≤ w.heap.size) : w'.ownsRow base e size v n xs := by
  obtain ⟨h1, h2⟩ := h
  refine ⟨h1, ?_⟩
  rcases h2 with h2 | ⟨g, cap, cur, hv, hg, hh, r⟩
  · exact Or.inl h2
  · refine Or.inr ⟨g, cap, cur, hv, hg, ?_, r⟩
    have hlt : g < w.heap.size := by
      apply Classical.byContradiction
      intro n
      rw [Array.getElem?_eq_none (by omega)] at hh
      cases hh
    rw [hb.block g hlt]
    exact hh
theorem cell_three_new (w : World) (x y z : Value) (t : TypeId) : ∀ (j : Nat) (u : Value), [x, y, z][j]? = some u → (w.alloc (.cells #[x, y, z] t)).cell? ((⟨w.heap.size, 0, none⟩ : Addr).add j) = some u := by
  intro j u hu
  rw [Go.WideShapes.add_plain]
  have h : (w.alloc (.cells #[x, y, z] t)).heap[w.heap.size]? = some (.cells #[x, y, z] t) := by
    show (w.heap.push _)[w.heap.size]? = _
    simp
  unfold World.cell?
  rw [h]
  match j, hu with
  | 0, hu => simpa using hu
  | 1, hu => simpa using hu
  | 2, hu => simpa using hu
  | n + 3, hu => simp at hu
def lenV : Value → Nat | .slice _ n _ => n | _ => 0
theorem lenV_sl {W : World} {v : Value} {l : List It} (h : Sl W v l) : lenV v = l.length := by
  obtain ⟨a, cap, rfl, _⟩ := h
  rfl
theorem sl_tail {W : World} {x : It} {l : List It} {b off cap : Nat} (h : Sl W (.slice (some ⟨b, off, none⟩) (l.length + 1) cap) (x :: l)) : Sl W (.slice (if cap = 1 then some ⟨b, off, none⟩ else some ⟨b, off + 2, none⟩) l.length (cap - 1)) l := by
  obtain ⟨a, c, e, h1, h2, h⟩ := h
  cases e
  rw [List.length_cons] at h1
  refine ⟨_, _, rfl, by omega, by omega, ?_⟩
  by_cases hz : l.length = 0
  · exact Or.inl hz
  rcases h with h | ⟨b', off', e', hl, hc⟩
  · simp at h
  · cases e'
    rw [if_neg (by omega)]
    refine Or.inr ⟨b, off + 2, rfl, hl, fun j hj => ?_⟩
    have := hc (j + 1) (by rw [List.length_cons]; omega)
    rw [show off + (j + 1) * 2 = off + 2 + j * 2 by omega] at this
    simpa [nm, am] using this
theorem cellsP_snoc (l : List Pr) (x : Pr) : cellsP (l ++ [x]) = cellsP l ++ [.string x.1, .int .i64 x.2.1, .int .i64 x.2.2] := by
  unfold cellsP
  simp
theorem own_snoc {w : World} {base : Nat} {v : Value} {l : List Pr} {x : Pr} {t : TypeId} (h : w.ownsRow base t 3 v (l.length + 1) (cellsP l ++ [.string x.1, .int .i64 x.2.1, .int .i64 x.2.2])) : w.ownsRow base t 3 v (l ++ [x]).length (cellsP (l ++ [x])) := by
  rw [cellsP_snoc, List.length_append]
  exact h
theorem mrg_done (n : Nat) : mrg n [] [] = [] := by cases n <;> rfl
theorem own_base {w : World} {base : Nat} {e : TypeId} {size n : Nat} {v : Value} {xs : List Value} (h : w.ownsRow base e size v n xs) : ∀ k, v.ownBlock = some k → base ≤ k := fun k hk => (h.lt k hk).1
set_option maxHeartbeats 16000000 in
set_option maxRecDepth 100000 in
theorem paired_any (va vb : Value) (la lb : List It) (w : World) (ha : Sl w va la) (hb : Sl w vb lb) (na : la.length ≤ 16) (nb : lb.length ≤ 16) :
    Calls Try.prog 21 #[va, vb] w fun e w' => ∃ v', e = .returned v' ∧ w'.ownsRow w.heap.size 58 3 v' (mrg 40 la lb).length (cellsP (mrg 40 la lb)) ∧ Below w.heap.size w w' := by
  obtain ⟨i0, hi, hz0, hz1, hz2⟩ := info_parts info47
  have HA := hid ha
  have HB := hid hb
  clear ha hb
  go_enter Try.func21, Try.ntmps21
  go_wp2
  go_loopw [0, 1, 5] (fun x y z wr => ∃ (a b : List It) (done : List Pr) (n : Nat), a.length ≤ 16 ∧ b.length ≤ 16 ∧ done.length + a.length + b.length ≤ 32 ∧ a.length + b.length ≤ n ∧ lenV x = a.length ∧ lenV y = b.length ∧ Hid (Sl w x a) ∧ Hid (Sl w y b) ∧ Hid (wr.ownsRow w.heap.size 58 3 z done.length (cellsP done)) ∧ Hid (Below w.heap.size w wr) ∧ Hid (mrg 40 la lb = done ++ mrg n a b)) (fun x y _ _ => lenV x + lenV y)
  case atStart => exact ⟨la, lb, [], 40, na, nb, by simp; omega, by omega, lenV_sl HA.out, lenV_sl HB.out, HA, HB, hid (World.ownsRow_nil _ _ _ _), hid (Below.refl _ _), hid rfl⟩
  case round =>
    obtain ⟨a, b, done, n, a16, b16, tot, hn, lx, ly, SA, SB, OW, BE, MG⟩ := hrel
    cases a with
    | nil =>
      cases b with
      | nil =>
        obtain ⟨xa, ca, rfl⟩ := sl_nil SA.out
        obtain ⟨xb, cb, rfl⟩ := sl_nil SB.out
        have HE := hid (show mrg 40 la lb = done by rw [MG.out, mrg_done, List.append_nil])
        clear lx ly hn tot
        go_wp2
        go_ret
        refine ⟨_, rfl, ?_, BE.out⟩
        rw [HE.out]
        exact OW.out
      | cons q b =>
        obtain ⟨xa, ca, rfl⟩ := sl_nil SA.out
        obtain ⟨bb, ob, cb, rfl, b1, b2, b3, b4, b5⟩ := sl_cons SB.out
        rw [← BE.out.cell (p := ⟨bb, ob, none⟩) b3] at b4
        rw [← BE.out.cell (p := ⟨bb, ob + 1, none⟩) b3] at b5
        have b6 : bb < wr.heap.size := Nat.lt_of_lt_of_le b3 BE.out.size
        unfold maxLen at b2
        have HTB := hid (sl_tail SB.out)
        simp only [List.length_nil, List.length_cons] at a16 b16 tot hn
        have hd : done.length ≤ 31 := by omega
        obtain ⟨n, rfl⟩ : ∃ n0, n = n0 + 1 := ⟨n - 1, by omega⟩
        have HMG := hid (show mrg 40 la lb = (done ++ [(q.1, 0, q.2)]) ++ mrg n [] b by rw [MG.out, List.append_assoc]; rfl)
        have HN := hid hn
        have HT := hid tot
        have S1 := hid a16
        have S2 := hid b16
        have SA2 := hid SA.out
        have SB2 := hid SB.out
        clear lx ly hn tot MG SA SB
        obtain ⟨k, hk⟩ : ∃ k, k = b.length := ⟨_, rfl⟩
        have HK := hid hk
        rw [← hk] at b16 b1 HTB SB2 ⊢
        clear hk
        have e9 : ((k : Int) + 1 == 0) = false := by simp; omega
        go_wp2
        go_quiet (fail)
        generalize nq = k0
        go_wp2
        go_quiet (fail)
        go_wp2
        go_region
        generalize hW1 : ((((wr.alloc (.cells #[.string ⟨#[]⟩, .int .i64 0, .int .i64 0] 58)).drewN (k0 + nq + 1)).setCell ⟨wr.heap.size, 0, none⟩ (.string q.1)).setCell ⟨wr.heap.size, 1, none⟩ (.int .i64 0)).setCell ⟨wr.heap.size, 2, none⟩ (.int .i64 q.2) = W1
        obtain ⟨pb, ps, p0, p1, p2⟩ := put3 wr _ _ _ _ _ _ hW1
        have PB := hid (show Below w.heap.size w W1 from BE.out.trans (pb.mono BE.out.size))
        have OW1 := hid (own_low OW.out pb BE.out.size)
        have hws : w.heap.size ≤ W1.heap.size := PB.out.size
        clear hW1 pb ps
        go_wp2_with (first
          | (at_builtin; refine wpList_append_own _ rfl _ _ 55 rfl w.heap.size 58 i0 (.agg #[.string ByteArray.empty, .int .i64 0, .int .i64 0]) 3 32 Try.underlying55 hi hz0 hz1 hz2 rfl (by decide) _ _ _ rfl (OW1.out.alloc _) ⟨W1.heap.size, 0, none⟩ 1 1 [.string q.1, .int .i64 0, .int .i64 q.2] rfl rfl (cell_three_new _ _ _ _ _) (fun x hx => by simp at hx; rcases hx with rfl | rfl | rfl <;> rfl) (by unfold maxLen; omega) (by omega) (by simp; omega) ?_; intro v' w3 hown' hgrow3 hnil3)
          | go_in)
        clear hnil3
        have BE3 : Below w.heap.size w w3 := (PB.out.alloc hws _).grown hgrow3 (by simp; omega) (fun j hj => own_base OW1.out j hj)
        refine ⟨⟨[], b, done ++ [(q.1, 0, q.2)], n, by have h1 := HT.out; have h2 := HN.out; have h5 := S1.out; have h6 := S2.out; have h4 := HK.out; first | omega | (simp; done) | (simp; omega), by have h1 := HT.out; have h2 := HN.out; have h5 := S1.out; have h6 := S2.out; have h4 := HK.out; first | omega | (simp; done) | (simp; omega), by have h1 := HT.out; have h2 := HN.out; have h5 := S1.out; have h6 := S2.out; have h4 := HK.out; first | omega | (simp; done) | (simp; omega), by have h1 := HT.out; have h2 := HN.out; have h5 := S1.out; have h6 := S2.out; have h4 := HK.out; first | omega | (simp; done) | (simp; omega), rfl, HK.out, SA2, HTB, hid (own_snoc hown'), hid BE3, HMG⟩, ?_⟩
        show (_ : Nat) + _ < _ + _
        simp only [lenV]
        omega
    | cons p a =>
      cases b with
      | nil =>
        obtain ⟨ba, oa, ca, rfl, a1, a2, a3, a4, a5⟩ := sl_cons SA.out
        rw [← BE.out.cell (p := ⟨ba, oa, none⟩) a3] at a4
        rw [← BE.out.cell (p := ⟨ba, oa + 1, none⟩) a3] at a5
        have a6 : ba < wr.heap.size := Nat.lt_of_lt_of_le a3 BE.out.size
        unfold maxLen at a2
        have HTA := hid (sl_tail SA.out)
        obtain ⟨xb, cb, rfl⟩ := sl_nil SB.out
        simp only [List.length_nil, List.length_cons] at a16 b16 tot hn
        have hd : done.length ≤ 31 := by omega
        obtain ⟨n, rfl⟩ : ∃ n0, n = n0 + 1 := ⟨n - 1, by omega⟩
        have HMG := hid (show mrg 40 la lb = (done ++ [(p.1, p.2, 0)]) ++ mrg n a [] by rw [MG.out, List.append_assoc]; rfl)
        have HN := hid hn
        have HT := hid tot
        have S1 := hid a16
        have S2 := hid b16
        have SA2 := hid SA.out
        have SB2 := hid SB.out
        clear lx ly hn tot MG SA SB
        obtain ⟨m, hm⟩ : ∃ m, m = a.length := ⟨_, rfl⟩
        have HM := hid hm
        rw [← hm] at a16 a1 HTA SA2 ⊢
        clear hm
        go_wp2
        go_quiet (fail)
        go_wp2
        go_region
        generalize hW1 : ((((wr.alloc (.cells #[.string ⟨#[]⟩, .int .i64 0, .int .i64 0] 58)).drewN (nq + 1)).setCell ⟨wr.heap.size, 0, none⟩ (.string p.1)).setCell ⟨wr.heap.size, 1, none⟩ (.int .i64 p.2)).setCell ⟨wr.heap.size, 2, none⟩ (.int .i64 0) = W1
        obtain ⟨pb, ps, p0, p1, p2⟩ := put3 wr _ _ _ _ _ _ hW1
        have PB := hid (show Below w.heap.size w W1 from BE.out.trans (pb.mono BE.out.size))
        have OW1 := hid (own_low OW.out pb BE.out.size)
        have hws : w.heap.size ≤ W1.heap.size := PB.out.size
        clear hW1 pb ps
        go_wp2_with (first
          | (at_builtin; refine wpList_append_own _ rfl _ _ 55 rfl w.heap.size 58 i0 (.agg #[.string ByteArray.empty, .int .i64 0, .int .i64 0]) 3 32 Try.underlying55 hi hz0 hz1 hz2 rfl (by decide) _ _ _ rfl (OW1.out.alloc _) ⟨W1.heap.size, 0, none⟩ 1 1 [.string p.1, .int .i64 p.2, .int .i64 0] rfl rfl (cell_three_new _ _ _ _ _) (fun x hx => by simp at hx; rcases hx with rfl | rfl | rfl <;> rfl) (by unfold maxLen; omega) (by omega) (by simp; omega) ?_; intro v' w3 hown' hgrow3 hnil3)
          | go_in)
        clear hnil3
        have BE3 : Below w.heap.size w w3 := (PB.out.alloc hws _).grown hgrow3 (by simp; omega) (fun j hj => own_base OW1.out j hj)
        refine ⟨⟨a, [], done ++ [(p.1, p.2, 0)], n, by have h1 := HT.out; have h2 := HN.out; have h5 := S1.out; have h6 := S2.out; have h3 := HM.out; first | omega | (simp; done) | (simp; omega), by have h1 := HT.out; have h2 := HN.out; have h5 := S1.out; have h6 := S2.out; have h3 := HM.out; first | omega | (simp; done) | (simp; omega), by have h1 := HT.out; have h2 := HN.out; have h5 := S1.out; have h6 := S2.out; have h3 := HM.out; first | omega | (simp; done) | (simp; omega), by have h1 := HT.out; have h2 := HN.out; have h5 := S1.out; have h6 := S2.out; have h3 := HM.out; first | omega | (simp; done) | (simp; omega), HM.out, rfl, (show Hid (Sl w (.slice (if ca = 1 then some ⟨ba, oa, none⟩ else some ⟨ba, oa + 2, none⟩) m (ca - 1)) a) from HTA), SB2, hid (own_snoc hown'), hid BE3, HMG⟩, ?_⟩
        show (_ : Nat) + _ < _ + _
        simp only [lenV]
        omega
      | cons q b =>
        cases hl1 : Op.bytesLess p.1.toList q.1.toList
        · cases hl2 : Op.bytesLess q.1.toList p.1.toList
          · obtain ⟨ba, oa, ca, rfl, a1, a2, a3, a4, a5⟩ := sl_cons SA.out
            rw [← BE.out.cell (p := ⟨ba, oa, none⟩) a3] at a4
            rw [← BE.out.cell (p := ⟨ba, oa + 1, none⟩) a3] at a5
            have a6 : ba < wr.heap.size := Nat.lt_of_lt_of_le a3 BE.out.size
            unfold maxLen at a2
            have HTA := hid (sl_tail SA.out)
            obtain ⟨bb, ob, cb, rfl, b1, b2, b3, b4, b5⟩ := sl_cons SB.out
            rw [← BE.out.cell (p := ⟨bb, ob, none⟩) b3] at b4
            rw [← BE.out.cell (p := ⟨bb, ob + 1, none⟩) b3] at b5
            have b6 : bb < wr.heap.size := Nat.lt_of_lt_of_le b3 BE.out.size
            unfold maxLen at b2
            have HTB := hid (sl_tail SB.out)
            simp only [List.length_cons] at a16 b16 tot hn
            have hd : done.length ≤ 31 := by omega
            obtain ⟨n, rfl⟩ : ∃ n0, n = n0 + 1 := ⟨n - 1, by omega⟩
            have HMG := hid (show mrg 40 la lb = (done ++ [(p.1, p.2, q.2)]) ++ mrg n a b by rw [MG.out, List.append_assoc]; exact congrArg _ ((if_neg (by rw [hl1]; decide)).trans (if_neg (by rw [hl2]; decide))))
            have HN := hid hn
            have HT := hid tot
            have S1 := hid a16
            have S2 := hid b16
            have SA2 := hid SA.out
            have SB2 := hid SB.out
            clear lx ly hn tot MG SA SB
            obtain ⟨m, hm⟩ : ∃ m, m = a.length := ⟨_, rfl⟩
            have HM := hid hm
            rw [← hm] at a16 a1 HTA SA2 ⊢
            clear hm
            obtain ⟨k, hk⟩ : ∃ k, k = b.length := ⟨_, rfl⟩
            have HK := hid hk
            rw [← hk] at b16 b1 HTB SB2 ⊢
            clear hk
            have e9 : ((k : Int) + 1 == 0) = false := by simp; omega
            have e8 : ((m : Int) + 1 == 0) = false := by simp; omega
            go_wp2
            go_quiet (fail)
            generalize nq = k0
            go_wp2
            go_quiet (fail)
            go_wp2
            go_region
            generalize hW1 : ((((wr.alloc (.cells #[.string ⟨#[]⟩, .int .i64 0, .int .i64 0] 58)).drewN (k0 + nq + 1)).setCell ⟨wr.heap.size, 0, none⟩ (.string p.1)).setCell ⟨wr.heap.size, 1, none⟩ (.int .i64 p.2)).setCell ⟨wr.heap.size, 2, none⟩ (.int .i64 q.2) = W1
            obtain ⟨pb, ps, p0, p1, p2⟩ := put3 wr _ _ _ _ _ _ hW1
            have PB := hid (show Below w.heap.size w W1 from BE.out.trans (pb.mono BE.out.size))
            have OW1 := hid (own_low OW.out pb BE.out.size)
            have hws : w.heap.size ≤ W1.heap.size := PB.out.size
            clear hW1 pb ps
            go_wp2_with fail
            go_quiet (fail)
            have PB' := hid (below_drewN PB.out nq)
            have OW1' := hid (own_low OW1.out (below_drewN (Below.refl _ _) nq) hws)
            generalize hW2 : W1.drewN nq = W2
            rw [hW2] at PB' OW1'
            have hws' : w.heap.size ≤ W2.heap.size := PB'.out.size
            have p0' : W2.cell? ⟨wr.heap.size, 0, none⟩ = some (.string p.1) := by rw [← hW2]; exact p0
            have p1' : W2.cell? ⟨wr.heap.size, 1, none⟩ = some (.int .i64 p.2) := by rw [← hW2]; exact p1
            have p2' : W2.cell? ⟨wr.heap.size, 2, none⟩ = some (.int .i64 q.2) := by rw [← hW2]; exact p2
            clear hW2 PB OW1 hws p0 p1 p2
            go_wp2_with (first
              | (at_builtin; refine wpList_append_own _ rfl _ _ 55 rfl w.heap.size 58 i0 (.agg #[.string ByteArray.empty, .int .i64 0, .int .i64 0]) 3 32 Try.underlying55 hi hz0 hz1 hz2 rfl (by decide) _ _ _ rfl (OW1'.out.alloc _) ⟨W2.heap.size, 0, none⟩ 1 1 [.string p.1, .int .i64 p.2, .int .i64 q.2] rfl rfl (cell_three_new _ _ _ _ _) (fun x hx => by simp at hx; rcases hx with rfl | rfl | rfl <;> rfl) (by unfold maxLen; omega) (by omega) (by simp; omega) ?_; intro v' w3 hown' hgrow3 hnil3)
              | go_in)
            clear hnil3
            have BE3 : Below w.heap.size w w3 := (PB'.out.alloc hws' _).grown hgrow3 (by simp; omega) (fun j hj => own_base OW1'.out j hj)
            refine ⟨⟨a, b, done ++ [(p.1, p.2, q.2)], n, by have h1 := HT.out; have h2 := HN.out; have h5 := S1.out; have h6 := S2.out; have h3 := HM.out; have h4 := HK.out; first | omega | (simp; done) | (simp; omega), by have h1 := HT.out; have h2 := HN.out; have h5 := S1.out; have h6 := S2.out; have h3 := HM.out; have h4 := HK.out; first | omega | (simp; done) | (simp; omega), by have h1 := HT.out; have h2 := HN.out; have h5 := S1.out; have h6 := S2.out; have h3 := HM.out; have h4 := HK.out; first | omega | (simp; done) | (simp; omega), by have h1 := HT.out; have h2 := HN.out; have h5 := S1.out; have h6 := S2.out; have h3 := HM.out; have h4 := HK.out; first | omega | (simp; done) | (simp; omega), HM.out, HK.out, (show Hid (Sl w (.slice (if ca = 1 then some ⟨ba, oa, none⟩ else some ⟨ba, oa + 2, none⟩) m (ca - 1)) a) from HTA), HTB, hid (own_snoc hown'), hid BE3, HMG⟩, ?_⟩
            show (_ : Nat) + _ < _ + _
            simp only [lenV]
            omega
          · obtain ⟨ba, oa, ca, rfl, a1, a2, a3, a4, a5⟩ := sl_cons SA.out
            rw [← BE.out.cell (p := ⟨ba, oa, none⟩) a3] at a4
            rw [← BE.out.cell (p := ⟨ba, oa + 1, none⟩) a3] at a5
            have a6 : ba < wr.heap.size := Nat.lt_of_lt_of_le a3 BE.out.size
            unfold maxLen at a2
            have HTA := hid (sl_tail SA.out)
            obtain ⟨bb, ob, cb, rfl, b1, b2, b3, b4, b5⟩ := sl_cons SB.out
            rw [← BE.out.cell (p := ⟨bb, ob, none⟩) b3] at b4
            rw [← BE.out.cell (p := ⟨bb, ob + 1, none⟩) b3] at b5
            have b6 : bb < wr.heap.size := Nat.lt_of_lt_of_le b3 BE.out.size
            unfold maxLen at b2
            have HTB := hid (sl_tail SB.out)
            simp only [List.length_cons] at a16 b16 tot hn
            have hd : done.length ≤ 31 := by omega
            obtain ⟨n, rfl⟩ : ∃ n0, n = n0 + 1 := ⟨n - 1, by omega⟩
            have HMG := hid (show mrg 40 la lb = (done ++ [(q.1, 0, q.2)]) ++ mrg n (p :: a) b by rw [MG.out, List.append_assoc]; exact congrArg _ ((if_neg (by rw [hl1]; decide)).trans (if_pos hl2)))
            have HN := hid hn
            have HT := hid tot
            have S1 := hid a16
            have S2 := hid b16
            have SA2 := hid SA.out
            have SB2 := hid SB.out
            clear lx ly hn tot MG SA SB
            obtain ⟨m, hm⟩ : ∃ m, m = a.length := ⟨_, rfl⟩
            have HM := hid hm
            rw [← hm] at a16 a1 HTA SA2 ⊢
            clear hm
            obtain ⟨k, hk⟩ : ∃ k, k = b.length := ⟨_, rfl⟩
            have HK := hid hk
            rw [← hk] at b16 b1 HTB SB2 ⊢
            clear hk
            have e9 : ((k : Int) + 1 == 0) = false := by simp; omega
            have e8 : ((m : Int) + 1 == 0) = false := by simp; omega
            go_wp2
            go_quiet (fail)
            generalize nq = k0
            go_wp2
            go_quiet (fail)
            go_wp2
            go_region
            generalize hW1 : ((((wr.alloc (.cells #[.string ⟨#[]⟩, .int .i64 0, .int .i64 0] 58)).drewN (k0 + nq + 1)).setCell ⟨wr.heap.size, 0, none⟩ (.string q.1)).setCell ⟨wr.heap.size, 1, none⟩ (.int .i64 0)).setCell ⟨wr.heap.size, 2, none⟩ (.int .i64 q.2) = W1
            obtain ⟨pb, ps, p0, p1, p2⟩ := put3 wr _ _ _ _ _ _ hW1
            have PB := hid (show Below w.heap.size w W1 from BE.out.trans (pb.mono BE.out.size))
            have OW1 := hid (own_low OW.out pb BE.out.size)
            have hws : w.heap.size ≤ W1.heap.size := PB.out.size
            clear hW1 pb ps
            go_wp2_with (first
              | (at_builtin; refine wpList_append_own _ rfl _ _ 55 rfl w.heap.size 58 i0 (.agg #[.string ByteArray.empty, .int .i64 0, .int .i64 0]) 3 32 Try.underlying55 hi hz0 hz1 hz2 rfl (by decide) _ _ _ rfl (OW1.out.alloc _) ⟨W1.heap.size, 0, none⟩ 1 1 [.string q.1, .int .i64 0, .int .i64 q.2] rfl rfl (cell_three_new _ _ _ _ _) (fun x hx => by simp at hx; rcases hx with rfl | rfl | rfl <;> rfl) (by unfold maxLen; omega) (by omega) (by simp; omega) ?_; intro v' w3 hown' hgrow3 hnil3)
              | go_in)
            clear hnil3
            have BE3 : Below w.heap.size w w3 := (PB.out.alloc hws _).grown hgrow3 (by simp; omega) (fun j hj => own_base OW1.out j hj)
            refine ⟨⟨(p :: a), b, done ++ [(q.1, 0, q.2)], n, by have h1 := HT.out; have h2 := HN.out; have h5 := S1.out; have h6 := S2.out; have h3 := HM.out; have h4 := HK.out; first | omega | (simp; done) | (simp; omega), by have h1 := HT.out; have h2 := HN.out; have h5 := S1.out; have h6 := S2.out; have h3 := HM.out; have h4 := HK.out; first | omega | (simp; done) | (simp; omega), by have h1 := HT.out; have h2 := HN.out; have h5 := S1.out; have h6 := S2.out; have h3 := HM.out; have h4 := HK.out; first | omega | (simp; done) | (simp; omega), by have h1 := HT.out; have h2 := HN.out; have h5 := S1.out; have h6 := S2.out; have h3 := HM.out; have h4 := HK.out; first | omega | (simp; done) | (simp; omega), by show m + 1 = _; rw [HM.out]; rfl, HK.out, SA2, HTB, hid (own_snoc hown'), hid BE3, HMG⟩, ?_⟩
            show (_ : Nat) + _ < _ + _
            simp only [lenV]
            omega
        · obtain ⟨ba, oa, ca, rfl, a1, a2, a3, a4, a5⟩ := sl_cons SA.out
          rw [← BE.out.cell (p := ⟨ba, oa, none⟩) a3] at a4
          rw [← BE.out.cell (p := ⟨ba, oa + 1, none⟩) a3] at a5
          have a6 : ba < wr.heap.size := Nat.lt_of_lt_of_le a3 BE.out.size
          unfold maxLen at a2
          have HTA := hid (sl_tail SA.out)
          obtain ⟨bb, ob, cb, rfl, b1, b2, b3, b4, b5⟩ := sl_cons SB.out
          rw [← BE.out.cell (p := ⟨bb, ob, none⟩) b3] at b4
          rw [← BE.out.cell (p := ⟨bb, ob + 1, none⟩) b3] at b5
          have b6 : bb < wr.heap.size := Nat.lt_of_lt_of_le b3 BE.out.size
          unfold maxLen at b2
          have HTB := hid (sl_tail SB.out)
          simp only [List.length_cons] at a16 b16 tot hn
          have hd : done.length ≤ 31 := by omega
          obtain ⟨n, rfl⟩ : ∃ n0, n = n0 + 1 := ⟨n - 1, by omega⟩
          have HMG := hid (show mrg 40 la lb = (done ++ [(p.1, p.2, 0)]) ++ mrg n a (q :: b) by rw [MG.out, List.append_assoc]; exact congrArg _ (if_pos hl1))
          have HN := hid hn
          have HT := hid tot
          have S1 := hid a16
          have S2 := hid b16
          have SA2 := hid SA.out
          have SB2 := hid SB.out
          clear lx ly hn tot MG SA SB
          obtain ⟨m, hm⟩ : ∃ m, m = a.length := ⟨_, rfl⟩
          have HM := hid hm
          rw [← hm] at a16 a1 HTA SA2 ⊢
          clear hm
          obtain ⟨k, hk⟩ : ∃ k, k = b.length := ⟨_, rfl⟩
          have HK := hid hk
          rw [← hk] at b16 b1 HTB SB2 ⊢
          clear hk
          have e9 : ((k : Int) + 1 == 0) = false := by simp; omega
          go_wp2
          go_quiet (fail)
          go_wp2
          go_region
          generalize hW1 : ((((wr.alloc (.cells #[.string ⟨#[]⟩, .int .i64 0, .int .i64 0] 58)).drewN (nq + 1)).setCell ⟨wr.heap.size, 0, none⟩ (.string p.1)).setCell ⟨wr.heap.size, 1, none⟩ (.int .i64 p.2)).setCell ⟨wr.heap.size, 2, none⟩ (.int .i64 0) = W1
          obtain ⟨pb, ps, p0, p1, p2⟩ := put3 wr _ _ _ _ _ _ hW1
          have PB := hid (show Below w.heap.size w W1 from BE.out.trans (pb.mono BE.out.size))
          have OW1 := hid (own_low OW.out pb BE.out.size)
          have hws : w.heap.size ≤ W1.heap.size := PB.out.size
          clear hW1 pb ps
          go_wp2_with (first
            | (at_builtin; refine wpList_append_own _ rfl _ _ 55 rfl w.heap.size 58 i0 (.agg #[.string ByteArray.empty, .int .i64 0, .int .i64 0]) 3 32 Try.underlying55 hi hz0 hz1 hz2 rfl (by decide) _ _ _ rfl (OW1.out.alloc _) ⟨W1.heap.size, 0, none⟩ 1 1 [.string p.1, .int .i64 p.2, .int .i64 0] rfl rfl (cell_three_new _ _ _ _ _) (fun x hx => by simp at hx; rcases hx with rfl | rfl | rfl <;> rfl) (by unfold maxLen; omega) (by omega) (by simp; omega) ?_; intro v' w3 hown' hgrow3 hnil3)
            | go_in)
          clear hnil3
          have BE3 : Below w.heap.size w w3 := (PB.out.alloc hws _).grown hgrow3 (by simp; omega) (fun j hj => own_base OW1.out j hj)
          refine ⟨⟨a, (q :: b), done ++ [(p.1, p.2, 0)], n, by have h1 := HT.out; have h2 := HN.out; have h5 := S1.out; have h6 := S2.out; have h3 := HM.out; have h4 := HK.out; first | omega | (simp; done) | (simp; omega), by have h1 := HT.out; have h2 := HN.out; have h5 := S1.out; have h6 := S2.out; have h3 := HM.out; have h4 := HK.out; first | omega | (simp; done) | (simp; omega), by have h1 := HT.out; have h2 := HN.out; have h5 := S1.out; have h6 := S2.out; have h3 := HM.out; have h4 := HK.out; first | omega | (simp; done) | (simp; omega), by have h1 := HT.out; have h2 := HN.out; have h5 := S1.out; have h6 := S2.out; have h3 := HM.out; have h4 := HK.out; first | omega | (simp; done) | (simp; omega), HM.out, by show k + 1 = _; rw [HK.out]; rfl, (show Hid (Sl w (.slice (if ca = 1 then some ⟨ba, oa, none⟩ else some ⟨ba, oa + 2, none⟩) m (ca - 1)) a) from HTA), SB2, hid (own_snoc hown'), hid BE3, HMG⟩, ?_⟩
          show (_ : Nat) + _ < _ + _
          simp only [lenV]
          omega
end Go.Proofs.Ytnlohjcjboelgaa.L
