import Derived.Test.YtppblibcbjpfnaaDoorQl3
import Derived.Test.YtppblibcbjpfnaaDoorTl8
namespace Go.Proofs.YtppblibcbjpfnaaDoor.L
open Go.RowKit
set_option linter.unusedVariables false
theorem chr_zero {l : List Tn} (h : ChR l 0) : OkUp l := by
  rcases h with ⟨h, _⟩ | ⟨_, h, _⟩ | ⟨_, h⟩
  · exact absurd rfl h
  · omega
  · exact h
theorem chr_no {l : List Tn} {e : Int} (h : ChR l e) (ho : OkUp l) : e = 0 := ch_one h (Or.inr (Or.inr ⟨rfl, ho⟩))
set_option maxHeartbeats 4000000 in
set_option maxRecDepth 100000 in
theorem put_no (v : Value) (l : List Tn) (t : Tn) (w : World) (hc : CameT w v l) (hg : GoodT l) (ho : ¬ OkUp l) : Calls Tryd.prog 20 #[v, tv t] w fun e w' => ∃ er : Int, e = .returned (.tuple #[.slice none 0 0, .int .i64 er]) ∧ Below w.heap.size w w' ∧ er ≠ 0 ∧ (0 ≤ er ∧ er ≤ 1000) ∧ ChR l er := by
  have HCK := hid (fun W (hb : Below w.heap.size w W) => check_any v l W (hc.low hb).items hg)
  have HOK := hid ho
  obtain ⟨x, y, z⟩ := t
  simp only [tv] at *
  clear hc hg ho
  have HW := hid (belowA w (.cells #[.string x, .string y, .string z] 23))
  go_enter Tryd.func20, Tryd.ntmps20
  go_wp2_with fail
  refine (HCK.out _ HW.out).mono ?_
  rintro e w1 ⟨er, rfl, hb, hr, hiff⟩
  have HN := hid (show er ≠ 0 from fun e => HOK.out (hiff.1 e))
  have B1 := hid (HW.out.trans (hb.mono HW.out.size))
  have HR := hid hr
  have h0' : (er != 0) = true := by simpa using HN.out
  clear hb hiff HCK HOK hr
  go_wp2_with fail
  go_ret2
  exact ⟨_, rfl, B1.out, HN.out, HR.out.1, HR.out.2⟩
def PQ (te : Int) (D I : List Tn) (w' : World) (v' : Value) (er : Int) : Prop := (te ≠ 0 ∧ er = te ∧ v' = .slice none 0 0) ∨ (te = 0 ∧ D.length = 16 ∧ er = 44 ∧ v' = .slice none 0 0) ∨ (te = 0 ∧ D.length ≠ 16 ∧ er = 0 ∧ ItemsG 3 tf w' v' I)
theorem d16 {l : List Tn} {k f : ByteArray} (h : l.any (isK k f) = false) : (dels l k f).length = l.length := by
  rw [← any_less] at h
  have h1 := dels_len l k f
  have h2 := of_decide_eq_false h
  omega
theorem d15 {l : List Tn} {k f : ByteArray} (h : l.any (isK k f) = true) : (dels l k f).length < l.length := by
  rw [← any_less] at h
  exact of_decide_eq_true h
set_option maxHeartbeats 4000000 in
set_option maxRecDepth 100000 in
theorem qput_any (v : Value) (l : List Tn) (t : Tn) (w : World) (hc : ItemsG 3 tf w v l) (hg : GoodT l) (ht : t.1.size ≤ maxLen ∧ t.2.1.size ≤ maxLen ∧ t.2.2.size ≤ maxLen) : Calls Tryd.prog 28 #[v, tv t] w fun e w' => ∃ v' er, e = .returned (.tuple #[v', .int .i64 er]) ∧ Below w.heap.size w w' ∧ ((er ≠ 0 ∧ ChR l er ∧ v' = .slice none 0 0) ∨ (OkUp l ∧ PQ (tE t) (dels l t.1 t.2.2) (insT (dels l t.1 t.2.2) t) w' v' er)) := by
  have HCK := hid (fun W (hb : Below w.heap.size w W) => qcheck_any v l W (hc.low hb) hg)
  have HCT := hid (fun W => qctaint_any t W ht.1 ht.2.1)
  have HDL := hid (fun W (hb : Below w.heap.size w W) => qdel_any v l t.1 t.2.2 W (hc.low hb) hg)
  have HWI := hid (fun W v' (h : ItemsG 3 tf W v' (dels l t.1 t.2.2)) (h' : (dels l t.1 t.2.2).length ≤ 16) => qwith_any v' (dels l t.1 t.2.2) t W h h')
  have H16 := hid (fun h : OkUp l => h.len)
  have HDN := hid (fun h : l.any (isK t.1 t.2.2) = false => d16 h)
  have HDY := hid (fun h : l.any (isK t.1 t.2.2) = true => d15 h)
  obtain ⟨x, y, z⟩ := t
  obtain ⟨a, cap, hv, -⟩ := hc
  obtain ⟨len, hlen⟩ : ∃ n, n = l.length := ⟨_, rfl⟩
  rw [← hlen] at hv
  subst hv
  have H16' := hid (fun h : OkUp l => show len ≤ 16 from hlen ▸ H16.out h)
  have HDN' := hid (fun h => show (dels l x z).length = len from hlen ▸ HDN.out h)
  have HDY' := hid (fun h => show (dels l x z).length < len from hlen ▸ HDY.out h)
  clear H16 HDN HDY hlen
  have H16 := H16'
  have HDN := HDN'
  have HDY := HDY'
  clear H16' HDN' HDY'
  simp only [tv] at *
  generalize insT (dels l x z) (x, y, z) = I at *
  generalize dels l x z = D at *
  generalize l.any (isK x z) = had at *
  generalize hE : tE (x, y, z) = te at *
  clear hE hg ht
  have HW := hid (belowA w (.cells #[.string x, .string y, .string z] 23))
  have HT := hid (three w (.string x) (.string y) (.string z) 23)
  have hsz : w.heap.size < (w.alloc (.cells #[.string x, .string y, .string z] 23)).heap.size := by simp
  go_enter Tryd.func28, Tryd.ntmps28
  go_wp2_with fail
  refine (HCK.out _ HW.out).mono ?_
  rintro e w1 ⟨er, rfl, hb, hr⟩
  have B1 := hid (HW.out.trans (hb.mono HW.out.size))
  have c0 : w1.cell? ⟨w.heap.size, 0, none⟩ = some (.string x) := (hb.cell (p := ⟨w.heap.size, 0, none⟩) hsz).trans HT.out.1
  have c1 : w1.cell? ⟨w.heap.size, 1, none⟩ = some (.string y) := (hb.cell (p := ⟨w.heap.size, 1, none⟩) hsz).trans HT.out.2.1
  have c2 : w1.cell? ⟨w.heap.size, 2, none⟩ = some (.string z) := (hb.cell (p := ⟨w.heap.size, 2, none⟩) hsz).trans HT.out.2.2
  have z1 : w.heap.size < w1.heap.size := Nat.lt_of_lt_of_le hsz hb.size
  have HR := hid hr
  clear hb hr HCK
  by_cases hn : er = 0
  case neg =>
    have HN := hid hn
    have h0' : (er != 0) = true := by simpa using hn
    clear hn
    go_wp2_with fail
    go_ret2
    exact ⟨_, _, rfl, B1.out, Or.inl ⟨HN.out, HR.out, rfl⟩⟩
  subst hn
  have HOK := hid (chr_zero HR.out)
  have hl16 := H16.out HOK.out
  clear HR H16
  go_wp2_with fail
  refine (HCT.out _).mono ?_
  rintro e w2 ⟨rfl, hb⟩
  have B2 := hid (B1.out.trans (hb.mono B1.out.size))
  have e0 : w2.cell? ⟨w.heap.size, 0, none⟩ = some (.string x) := (hb.cell (p := ⟨w.heap.size, 0, none⟩) z1).trans c0
  have e1 : w2.cell? ⟨w.heap.size, 1, none⟩ = some (.string y) := (hb.cell (p := ⟨w.heap.size, 1, none⟩) z1).trans c1
  have e2 : w2.cell? ⟨w.heap.size, 2, none⟩ = some (.string z) := (hb.cell (p := ⟨w.heap.size, 2, none⟩) z1).trans c2
  have z2 : w.heap.size < w2.heap.size := Nat.lt_of_lt_of_le z1 hb.size
  clear hb c0 c1 c2
  by_cases h0 : te = 0
  case neg =>
    have H0 := hid h0
    have h0' : (te != 0) = true := by simpa using h0
    clear h0
    go_wp2_with fail
    go_ret2
    exact ⟨_, _, rfl, B2.out, Or.inr ⟨HOK.out, Or.inl ⟨H0.out, rfl, rfl⟩⟩⟩
  subst h0
  go_wp2_with fail
  refine (HDL.out _ B2.out).mono ?_
  rintro e w3 ⟨vd, rfl, hod, hb⟩
  have B3 := hid (B2.out.trans (hb.mono B2.out.size))
  have f0 : w3.cell? ⟨w.heap.size, 0, none⟩ = some (.string x) := (hb.cell (p := ⟨w.heap.size, 0, none⟩) z2).trans e0
  have f1 : w3.cell? ⟨w.heap.size, 1, none⟩ = some (.string y) := (hb.cell (p := ⟨w.heap.size, 1, none⟩) z2).trans e1
  have f2 : w3.cell? ⟨w.heap.size, 2, none⟩ = some (.string z) := (hb.cell (p := ⟨w.heap.size, 2, none⟩) z2).trans e2
  have z3 : w.heap.size < w3.heap.size := Nat.lt_of_lt_of_le z2 hb.size
  have ID := hid (ownG_came hod).items
  clear hb hod e0 e1 e2 HDL
  by_cases hD : D.length = 16
  · have HD := hid hD
    have hh : had = false := by
      cases e : had
      · rfl
      · have := HDY.out e; omega
    have hle := HDN.out hh
    have g : ((len : Int) == 16) = true := by rw [← hle, hD]; rfl
    subst hh
    clear hD hle HDY HDN
    go_wp2_with fail
    go_ret2
    exact ⟨_, _, rfl, B3.out, Or.inr ⟨HOK.out, Or.inr (Or.inl ⟨rfl, HD.out, rfl, rfl⟩)⟩⟩
  · have HD := hid hD
    have hd16 : D.length ≤ 16 := by
      cases e : had
      · have := HDN.out e; omega
      · have := HDY.out e; omega
    have SS := hid (HWI.out w3 vd ID.out hd16)
    have g : had = false → ((len : Int) == 16) = false := fun h => by
      have := HDN.out h
      simp
      omega
    clear hD hd16 HDY HDN HWI ID
    cases had
    · have g' := g rfl
      clear g
      go_wp2_with fail
      refine SS.out.mono ?_
      rintro e w5 ⟨vs, rfl, ho, hb⟩
      have R := hid (show ItemsG 3 tf w5 vs I ∧ Below w.heap.size w w5 from ⟨(ownG_came ho).items, B3.out.trans (hb.mono B3.out.size)⟩)
      clear ho hb SS
      go_wp2_with fail
      go_ret2
      exact ⟨_, _, rfl, R.out.2, Or.inr ⟨HOK.out, Or.inr (Or.inr ⟨rfl, HD.out, rfl, R.out.1⟩)⟩⟩
    · clear g
      go_wp2_with fail
      refine SS.out.mono ?_
      rintro e w5 ⟨vs, rfl, ho, hb⟩
      have R := hid (show ItemsG 3 tf w5 vs I ∧ Below w.heap.size w w5 from ⟨(ownG_came ho).items, B3.out.trans (hb.mono B3.out.size)⟩)
      clear ho hb SS
      go_wp2_with fail
      go_ret2
      exact ⟨_, _, rfl, R.out.2, Or.inr ⟨HOK.out, Or.inr (Or.inr ⟨rfl, HD.out, rfl, R.out.1⟩)⟩⟩
end Go.Proofs.YtppblibcbjpfnaaDoor.L
