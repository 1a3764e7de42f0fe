import Derived.Test.YtppblibcbjpfnaaDoorTl5
namespace Go.Proofs.YtppblibcbjpfnaaDoor.L
open Go.RowKit Go.Sort
set_option linter.unusedVariables false
theorem dels_good {l : List Tn} (h : GoodT l) (k f : ByteArray) : GoodT (dels l k f) := h.sub (dels_len l k f) fun x hx => (List.mem_filter.1 hx).1
def PutR (te : Int) (t : Tn) (D : List Tn) (w' : World) (v' : Value) (l' : List Tn) (er : Int) : Prop := (te ≠ 0 ∧ er = te ∧ v' = .slice none 0 0) ∨ (te = 0 ∧ D.length = 16 ∧ er = 44 ∧ v' = .slice none 0 0) ∨ (te = 0 ∧ D.length ≠ 16 ∧ er = 0 ∧ CameT w' v' l' ∧ SortedT (D ++ [t]) l')
set_option maxHeartbeats 4000000 in
set_option maxRecDepth 100000 in
theorem put_any (v : Value) (l : List Tn) (t : Tn) (w : World) (hc : CameT w v l) (hg : GoodT l) (ho : OkUp l) (ht : t.1.size ≤ maxLen ∧ t.2.1.size ≤ maxLen ∧ t.2.2.size ≤ maxLen) : Calls Tryd.prog 20 #[v, tv t] w fun e w' => ∃ v' l' er, e = .returned (.tuple #[v', .int .i64 er]) ∧ RowKit.Below w.heap.size w w' ∧ PutR (tE t) t (dels l t.1 t.2.2) w' v' l' er := by
  obtain ⟨i0, hi0, hz0, hz1, hz2⟩ := info_parts infoT
  have HCK := hid (fun W (hb : RowKit.Below w.heap.size w W) => check_any v l W (hc.low hb).items hg)
  have HCT := hid (fun W => ctaint_any t W ht.1 ht.2.1)
  have HDL := hid (fun W (hb : RowKit.Below w.heap.size w W) => del_any v l t.1 t.2.2 W (hc.low hb).items hg)
  have hd16 : (dels l t.1 t.2.2).length ≤ 16 := Nat.le_trans (dels_len _ _ _) ho.len
  have HS := hid (fun W v' (h : CameT W v' (dels l t.1 t.2.2 ++ [t])) => sorted_any v' (dels l t.1 t.2.2 ++ [t]) W h ⟨⟨by rw [List.length_append]; unfold maxLen; simp; omega, by rw [List.length_append]; simp; omega⟩, fun x hx i hi => by
    rcases List.mem_append.1 hx with h | h
    · exact (dels_good hg _ _).2 x h i hi
    · rw [List.mem_singleton.1 h]
      match i, hi with
      | 0, _ => exact ht.1
      | 1, _ => exact ht.2.1
      | 2, _ => exact ht.2.2⟩)
  have HOK := hid ho
  obtain ⟨x, y, z⟩ := t
  simp only [tv] at *
  generalize dels l x z = D at *
  generalize hE : tE (x, y, z) = te at *
  clear hE hc hg ho ht
  have HW := hid (belowA w (.cells #[.string x, .string y, .string z] 23))
  have HT := hid (three w (.string x) (.string y) (.string z) 23)
  have hsz : w.heap.size < (w.alloc (.cells #[.string x, .string y, .string z] 23)).heap.size := by simp
  go_enter Tryd.func20, Tryd.ntmps20
  go_wp2_with fail
  refine (HCK.out _ HW.out).mono ?_
  rintro e w1 ⟨er, rfl, hb, _, hiff⟩
  obtain rfl : er = 0 := hiff.2 HOK.out
  have B1 := hid (HW.out.trans (hb.mono HW.out.size))
  have c0 : w1.cell? ⟨w.heap.size, 0, none⟩ = some (.string x) := (hb.cell (p := ⟨w.heap.size, 0, none⟩) hsz).trans HT.out.1
  have c1 : w1.cell? ⟨w.heap.size, 1, none⟩ = some (.string y) := (hb.cell (p := ⟨w.heap.size, 1, none⟩) hsz).trans HT.out.2.1
  have c2 : w1.cell? ⟨w.heap.size, 2, none⟩ = some (.string z) := (hb.cell (p := ⟨w.heap.size, 2, none⟩) hsz).trans HT.out.2.2
  have z1 : w.heap.size < w1.heap.size := Nat.lt_of_lt_of_le hsz hb.size
  clear hb hiff HCK HOK
  go_wp2_with fail
  refine (HCT.out _).mono ?_
  rintro e w2 ⟨rfl, hb⟩
  have B2 := hid (B1.out.trans (hb.mono B1.out.size))
  have e0 : w2.cell? ⟨w.heap.size, 0, none⟩ = some (.string x) := (hb.cell (p := ⟨w.heap.size, 0, none⟩) z1).trans c0
  have e1 : w2.cell? ⟨w.heap.size, 1, none⟩ = some (.string y) := (hb.cell (p := ⟨w.heap.size, 1, none⟩) z1).trans c1
  have e2 : w2.cell? ⟨w.heap.size, 2, none⟩ = some (.string z) := (hb.cell (p := ⟨w.heap.size, 2, none⟩) z1).trans c2
  have z2 : w.heap.size < w2.heap.size := Nat.lt_of_lt_of_le z1 hb.size
  clear hb c0 c1 c2
  by_cases h0 : te = 0
  · subst h0
    go_wp2_with fail
    refine (HDL.out _ B2.out).mono ?_
    rintro e w3 ⟨vd, rfl, hod, hb⟩
    have B3 := hid (B2.out.trans (hb.mono B2.out.size))
    have f0 : w3.cell? ⟨w.heap.size, 0, none⟩ = some (.string x) := (hb.cell (p := ⟨w.heap.size, 0, none⟩) z2).trans e0
    have f1 : w3.cell? ⟨w.heap.size, 1, none⟩ = some (.string y) := (hb.cell (p := ⟨w.heap.size, 1, none⟩) z2).trans e1
    have f2 : w3.cell? ⟨w.heap.size, 2, none⟩ = some (.string z) := (hb.cell (p := ⟨w.heap.size, 2, none⟩) z2).trans e2
    have z3 : w.heap.size < w3.heap.size := Nat.lt_of_lt_of_le z2 hb.size
    have OD := hid (row_base hod B2.out.size)
    obtain ⟨ad, cd, rfl, _⟩ := (ownG_came hod).items
    clear hb hod e0 e1 e2 HDL
    by_cases hD : D.length = 16
    · have g : ((D.length : Int) == 16) = true := by rw [hD]; rfl
      have HD := hid hD
      clear hD
      go_wp2_with fail
      go_ret2
      exact ⟨_, [], _, rfl, B3.out, Or.inr (Or.inl ⟨rfl, HD.out, rfl, rfl⟩)⟩
    · have g : ((D.length : Int) == 16) = false := by simp; omega
      have HD := hid hD
      clear hD
      go_wp2_with (first
        | (at_builtin; refine wpList_append_own _ rfl _ _ 26 rfl w.heap.size 23 i0 (.agg #[.string ByteArray.empty, .string ByteArray.empty, .string ByteArray.empty]) 3 48 Tryd.underlying26 hi0 hz0 hz1 hz2 rfl (by decide) _ _ _ rfl (World.ownsRow.alloc OD.out _) ⟨w3.heap.size, 0, none⟩ 1 1 [.string x, .string y, .string z] rfl rfl (cell_three_at _ _ _ _ _ _ rfl) (fun x hx => by simp at hx; rcases hx with rfl | rfl | rfl <;> rfl) (by unfold maxLen; omega) (by omega) (by simp; omega) ?_; intro va w4 hown hgrow hnil)
        | fail)
      clear hnil
      have B4 := hid (show RowKit.Below w.heap.size w w4 from (B3.out.alloc B3.out.size _).grown hgrow (by have := B3.out.size; simp; omega) (fun j hj => own_base OD.out j hj))
      have SS := hid (HS.out w4 va (ownG_came (ownT_snoc hown)))
      clear hown hgrow
      refine SS.out.mono ?_
      rintro e w5 ⟨vs, ls, rfl, hcs, hss, hb⟩
      have R := hid (show CameT w5 vs ls ∧ SortedT (D ++ [(x, y, z)]) ls ∧ RowKit.Below w.heap.size w w5 from ⟨hcs, hss, B4.out.trans (hb.mono B4.out.size)⟩)
      clear hcs hss hb SS
      go_wp2_with fail
      go_ret2
      exact ⟨_, ls, _, rfl, R.out.2.2, Or.inr (Or.inr ⟨rfl, HD.out, rfl, R.out.1, R.out.2.1⟩)⟩
  · have h0' : (te != 0) = true := by simpa using h0
    have H0 := hid h0
    clear h0
    go_wp2_with fail
    go_ret2
    exact ⟨_, [], _, rfl, B2.out, Or.inl ⟨H0.out, rfl, rfl⟩⟩
end Go.Proofs.YtppblibcbjpfnaaDoor.L
