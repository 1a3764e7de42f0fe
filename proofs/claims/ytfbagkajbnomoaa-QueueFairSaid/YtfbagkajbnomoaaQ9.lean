import Derived.Test.YtfbagkajbnomoaaQ8
namespace Go.Proofs.Ytfbagkajbnomoaa.L
open Go.RowKit Rg Qu
set_option linter.unusedVariables false
set_option linter.unusedSimpArgs false
/-- Push: the code, the queue behind it. -/
def pshE (l : List Wt) (nx : Int) (s : ByteArray) : Int := if fnd s l < l.length then 250 else if 2048 ≤ l.length then 251 else if 1099511627776 ≤ nx then 253 else 0
def pshL (l : List Wt) (nx : Int) (s : ByteArray) (p : Int) : List Wt := if pshE l nx s = 0 then ins ⟨s, p, nx, 0, 0, false⟩ l else l
def pshN (l : List Wt) (nx : Int) (s : ByteArray) : Int := if pshE l nx s = 0 then nx + 1 else nx
theorem fnd_out {s : ByteArray} {l : List Wt} (h : ¬ fnd s l < l.length) : ∀ x, x ∈ l → x.name ≠ s := by
  intro x hx e
  obtain ⟨i, hi, rfl⟩ := List.getElem_of_mem hx
  have hle := fnd_le s l
  exact fnd_ahead (s := s) (l := l) (j := i) (by omega) (by rw [e])
theorem okq_psh {l : List Wt} {nx : Int} (h : Okq l nx) (s : ByteArray) (p : Int) : Okq (pshL l nx s p) (pshN l nx s) := by
  unfold pshL pshN
  by_cases e : pshE l nx s = 0
  · rw [if_pos e, if_pos e]
    unfold pshE at e
    split at e
    · cases e
    · rename_i h1
      split at e
      · cases e
      · rename_i h2
        split at e
        · cases e
        · rename_i h3
          exact h.push (fnd_out h1) (by omega) (by omega)
  · rw [if_neg e, if_neg e]; exact h
theorem fndI_yes {s : ByteArray} {l : List Wt} (h : fnd s l < l.length) : fndI s l = (fnd s l : Int) := by unfold fndI; rw [if_pos h]
theorem fndI_no {s : ByteArray} {l : List Wt} (h : ¬ fnd s l < l.length) : fndI s l = -1 := by unfold fndI; rw [if_neg h]
/-- The next number is put back into the queue. -/
theorem qr_next {W : World} {B qb : Nat} {v : Value} {l : List Wt} {nx : Int} (n2 : Int) (h : Qm W B qb v l nx) : Qr W B qb v l n2 (W.setCell ⟨qb, 1, none⟩ (.int .i64 n2)) := by
  rw [setCell_eq_setRow _ _ _ _ _ _ _ h.box]
  have hb4 := setRow_heap W qb _ ((#[v, .int .i64 nx] : Array Value).setIfInBounds 1 (.int .i64 n2)) _ _ h.box
  refine ⟨v, ⟨hb4, row_kept h.row (fun k hk => ?_), h.lo⟩, ⟨rfl, rfl, rfl, by simp, fun j hj h1 h2 => setRow_other _ _ _ _ h1⟩, fun j hj => Or.inl hj⟩
  obtain ⟨_, _, cs, hc⟩ := row_at h.row hk
  refine setRow_other _ _ _ _ (fun e => ?_)
  rw [e, h.box] at hc
  injection hc with hc
  injection hc with _ hc
  exact absurd hc (by decide)
theorem push_nil (w : World) (s : ByteArray) (p : Int) : Calls Try.prog 21 #[.pointer none, .string s, .int .i64 p] w fun e w' => e = .returned (.int .i64 1) ∧ w' = w := by
  go_enter Try.func21, Try.ntmps21
  go_wp2
  go_ret
  exact ⟨by first | rfl | simp, rfl⟩
set_option maxHeartbeats 4000000 in
set_option maxRecDepth 100000 in
theorem push_any {w : World} {B qb : Nat} {v : Value} {l : List Wt} {nx : Int} (h : Qm w B qb v l nx) (hok : Okq l nx) (s : ByteArray) (p : Int) (hB : B ≤ w.heap.size) :
    Calls Try.prog 21 #[.pointer (some ⟨qb, 0, none⟩), .string s, .int .i64 p] w fun e w' => e = .returned (.int .i64 (pshE l nx s)) ∧ Qr w B qb v (pshL l nx s p) (pshN l nx s) w' := by
  obtain ⟨_, a, c, rfl, hr⟩ := own_w h.row
  have HF := hid (find_any h hok.few s)
  have HQ := hid h
  have HOK := hid hok
  obtain ⟨n, hn⟩ : ∃ n, n = l.length := ⟨_, rfl⟩
  have HN := hid hn
  rw [← hn] at HQ ⊢
  have hmax : n ≤ 2048 := by rw [hn]; exact hok.few
  have HNX := hid (And.intro hok.nx0 hok.nx1)
  clear h hr hok
  by_cases h1 : fnd s l < l.length
  · have HE := hid (show pshE l nx s = 250 from by unfold pshE; rw [if_pos h1])
    have HL := hid (show pshL l nx s p = l ∧ pshN l nx s = nx from by unfold pshL pshN; rw [HE.out]; exact ⟨rfl, rfl⟩)
    have hz := fndI_yes h1
    obtain ⟨z, hzz⟩ : ∃ z, z = fndI s l := ⟨_, rfl⟩
    rw [← hzz] at HF hz
    have g1 : (0 : Int) ≤ z := by omega
    clear hz hzz h1 hn
    go_enter Try.func21, Try.ntmps21
    go_wp2_with fail
    refine HF.out.mono ?_
    rintro e w2 ⟨rfl, hb2⟩
    have HB2 := hid hb2
    clear hb2 HF
    go_wp2_with fail
    go_ret
    exact ⟨by rw [HE.out]; rfl, by rw [HL.out.1, HL.out.2]; exact HQ.out.qr HB2.out⟩
  · have hz := fndI_no h1
    have H1 := hid h1
    obtain ⟨z, hzz⟩ : ∃ z, z = fndI s l := ⟨_, rfl⟩
    rw [← hzz] at HF hz
    subst hz
    clear hzz h1
    by_cases h2 : 2048 ≤ n
    · have HE := hid (show pshE l nx s = 251 from by unfold pshE; rw [if_neg H1.out, if_pos (by omega)])
      have HL := hid (show pshL l nx s p = l ∧ pshN l nx s = nx from by unfold pshL pshN; rw [HE.out]; exact ⟨rfl, rfl⟩)
      have g2 : (2048 : Int) ≤ (n : Int) := by omega
      clear hn
      go_enter Try.func21, Try.ntmps21
      go_wp2_with fail
      refine HF.out.mono ?_
      rintro e w2 ⟨rfl, hb2⟩
      have HB2 := hid hb2
      have y0 : w2.cell? ⟨qb, 0, none⟩ = some (.slice a n c) := cell_of_row w2 _ 0 _ _ _ (HQ.out.low hb2).box
      clear hb2 HF
      go_wp2_with fail
      go_ret
      exact ⟨by rw [HE.out]; rfl, by rw [HL.out.1, HL.out.2]; exact HQ.out.qr HB2.out⟩
    · have g2 : ¬ (2048 : Int) ≤ (n : Int) := by omega
      by_cases h3 : 1099511627776 ≤ nx
      · have HE := hid (show pshE l nx s = 253 from by unfold pshE; rw [if_neg H1.out, if_neg (by omega), if_pos h3])
        have HL := hid (show pshL l nx s p = l ∧ pshN l nx s = nx from by unfold pshL pshN; rw [HE.out]; exact ⟨rfl, rfl⟩)
        clear hn
        go_enter Try.func21, Try.ntmps21
        go_wp2_with fail
        refine HF.out.mono ?_
        rintro e w2 ⟨rfl, hb2⟩
        have HB2 := hid hb2
        have y0 : w2.cell? ⟨qb, 0, none⟩ = some (.slice a n c) := cell_of_row w2 _ 0 _ _ _ (HQ.out.low hb2).box
        have y1 : w2.cell? ⟨qb, 1, none⟩ = some (.int .i64 nx) := cell_of_row w2 _ 1 _ _ _ (HQ.out.low hb2).box
        clear hb2 HF
        go_wp2_with fail
        go_ret
        exact ⟨by rw [HE.out]; rfl, by rw [HL.out.1, HL.out.2]; exact HQ.out.qr HB2.out⟩
      · have HE := hid (show pshE l nx s = 0 from by unfold pshE; rw [if_neg H1.out, if_neg (by omega), if_neg h3])
        have HL := hid (show pshL l nx s p = ins ⟨s, p, nx, 0, 0, false⟩ l ∧ pshN l nx s = nx + 1 from by unfold pshL pshN; rw [HE.out]; exact ⟨rfl, rfl⟩)
        have g3 : IntKind.i64.wrap (nx + 1) = nx + 1 := by have := HNX.out; rw [IntKind.wrap_i64]; omega
        have HSQ := hid (show ∀ y, y ∈ l → y.seq ≠ nx from fun y hy => by have := (HOK.out.lo y hy).2; omega)
        have h2' : l.length < 2048 := by omega
        clear hn
        go_enter Try.func21, Try.ntmps21
        go_wp2_with fail
        refine HF.out.mono ?_
        rintro e w2 ⟨rfl, hb2⟩
        have HB2 := hid hb2
        have y0 : w2.cell? ⟨qb, 0, none⟩ = some (.slice a n c) := cell_of_row w2 _ 0 _ _ _ (HQ.out.low hb2).box
        have y1 : w2.cell? ⟨qb, 1, none⟩ = some (.int .i64 nx) := cell_of_row w2 _ 1 _ _ _ (HQ.out.low hb2).box
        have HI := hid (insert_any (HQ.out.low hb2) h2' ⟨s, p, nx, 0, 0, false⟩ (Nat.le_trans hB hb2.size) HOK.out.sort HSQ.out)
        clear hb2 HF h2'
        go_wp2_with fail
        refine HI.out.mono ?_
        rintro e w3 ⟨rfl, v3, m3, f3⟩
        have HM3 := hid m3
        have HF3 := hid f3
        have y3 : w3.cell? ⟨qb, 1, none⟩ = some (.int .i64 nx) := cell_of_row w3 _ 1 _ _ _ m3.box
        have z3 : w3.frozen? ⟨qb, 1, none⟩ = false := by simp [World.frozen?, m3.box]
        clear m3 f3 HI
        go_wp2_with fail
        go_ret
        refine ⟨by rw [HE.out]; rfl, ?_⟩
        rw [HL.out.1, HL.out.2]
        exact Qr.pre HB2.out (Qr.then ⟨v3, HM3.out, HF3.out⟩ (fun v1 m1 => qr_next _ m1))
end Go.Proofs.Ytfbagkajbnomoaa.L
