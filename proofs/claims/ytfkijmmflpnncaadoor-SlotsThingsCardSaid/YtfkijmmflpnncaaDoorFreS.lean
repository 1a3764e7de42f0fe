import Derived.Test.YtfkijmmflpnncaaDoorFre
import Derived.Test.YtfkijmmflpnncaaDoorTakS
import Derived.Test.YtfkijmmflpnncaaDoorTak
namespace Go.Proofs.YtfkijmmflpnncaaDoor.LS
open L
open Go.RowKit Bs Go.Maps
set_option linter.unusedVariables false
set_option maxHeartbeats 4000000 in
set_option maxRecDepth 100000 in
theorem free_any (p m mb i : Nat) (rs ks : Value) (D : DataW Unit) (l : List Rw) (ws : List Nat) (w : World) (h1 : Tm w p m mb rs ks D l ws) (wd : Wd ws) (hi : i < l.length) (hj : i / 64 < ws.length) (hl : l.length ≤ 65536) (hwl : ws.length ≤ 1024) :
    Calls Tryd.prog 39 #[.pointer (some ⟨p, 0, none⟩), .int .i64 (i : Int)] w fun e w' => ∃ rs', e = .returned (.tuple #[]) ∧ Tm w' p m mb rs' ks D (trim (l.set i (ByteArray.empty, ByteArray.empty))) (delW ws i) ∧
      Bx (fp p mb rs ks) w.heap.size w w' ∧ (∀ k ∈ fp p mb rs' ks, k ∈ fp p mb rs ks) := by
  obtain ⟨g, kc, rfl⟩ := own_some h1.hk (by omega)
  obtain ⟨rg, rc, rfl⟩ := own_some h1.hr (by omega)
  obtain ⟨N, hN⟩ : ∃ N, N = l.length := ⟨_, rfl⟩
  obtain ⟨L, hL⟩ : ∃ L, L = ws.length := ⟨_, rfl⟩
  rw [← hN] at h1 hi hl ⊢
  rw [← hL] at h1 hj hwl ⊢
  have c3 := h1.c3
  have hx := h1.word (j := i / 64) (by rw [← hL]; exact hj)
  have fx := h1.wfz (i / 64)
  have hxb := wd.getD (i / 64)
  have ean := hid (not_num3 (ws.getD (i / 64) 0) (i % 64) hxb (Nat.mod_lt _ (by decide)))
  have T1 := hid (h1.setK (i / 64) (anot (ws.getD (i / 64) 0) (2 ^ (i % 64))))
  have DW : Hid (ws.set (i / 64) (anot (ws.getD (i / 64) 0) (2 ^ (i % 64))) = delW ws i) := rfl
  have pF : p ∈ fp p mb (.slice (some ⟨rg, 0, none⟩) N rc) (.slice (some ⟨g, 0, none⟩) L kc) := fp_p
  have rF : rg ∈ fp p mb (.slice (some ⟨rg, 0, none⟩) N rc) (.slice (some ⟨g, 0, none⟩) L kc) := fp_r rfl
  have gF : g ∈ fp p mb (.slice (some ⟨rg, 0, none⟩) N rc) (.slice (some ⟨g, 0, none⟩) L kc) := fp_k rfl
  have fF : Hid (∀ n', ∀ k ∈ fp p mb (.slice (some ⟨rg, 0, none⟩) n' rc) (.slice (some ⟨g, 0, none⟩) L kc), k ∈ fp p mb (.slice (some ⟨rg, 0, none⟩) N rc) (.slice (some ⟨g, 0, none⟩) L kc)) := hid (fun n' => fp_all fp_p fp_m (fun k hk => fp_r hk) (fun k hk => fp_k hk))
  generalize hF : fp p mb (.slice (some ⟨rg, 0, none⟩) N rc) (.slice (some ⟨g, 0, none⟩) L kc) = F at *
  have HN := hid hN
  have hi6 : i ≤ 65536 := by omega
  have hjj : ((i / 64 : Nat) : Int) < (L : Int) := by omega
  generalize ws.getD (i / 64) 0 = x at *
  have e1 := idx_div i hi6
  have e1' : wrap64 ((i : Int) / 64) = ((i / 64 : Nat) : Int) := by rw [wrap64_eq]; exact e1
  have e2 := idx_mod i
  generalize i / 64 = j at *
  generalize hq : i % 64 = q at *
  clear hq hj hN hL hF h1 hxb wd
  generalize hQ : (fun (e : Ending) (w' : World) => ∃ rs', e = .returned (.tuple #[]) ∧ Tm w' p m mb rs' (.slice (some ⟨g, 0, none⟩) L kc) D (trim (l.set i (ByteArray.empty, ByteArray.empty))) (delW ws i) ∧ Bx F w.heap.size w w' ∧ (∀ k ∈ fp p mb rs' (.slice (some ⟨g, 0, none⟩) L kc), k ∈ F)) = Q
  have HQ := hid hQ
  clear hQ
  go_enter Tryd.func39, Tryd.ntmps39
  go_wp2_with fail
  go_region
  rw [ean.out]
  have T2 := hid (show Tm (w.setCell ⟨g, j, none⟩ (.int .u64 ((anot x (2 ^ q) : Nat) : Int))).drew p m mb (.slice (some ⟨rg, 0, none⟩) N rc) (.slice (some ⟨g, 0, none⟩) L kc) D l (delW ws i) from by rw [← DW.out]; exact T1.out.frame (fun _ _ => rfl))
  have B2 := hid (((Bx.refl F w.heap.size w).setCell (p := ⟨g, j, none⟩) (Or.inl gF) (.int .u64 ((anot x (2 ^ q) : Nat) : Int))).drew)
  generalize (w.setCell ⟨g, j, none⟩ (.int .u64 ((anot x (2 ^ q) : Nat) : Int))).drew = w2 at T2 B2 ⊢
  clear T1 DW ean e1 e1' e2 hx fx hjj c3
  have hil : i < l.length := by rw [← HN.out]; exact hi
  obtain ⟨_, _, er, _, r0, r1⟩ := T2.out.rows hil
  injection er with er lq er2
  injection er with er
  injection er with er lq2 lq3
  subst er er2
  clear lq lq2 lq3
  have z0 := T2.out.rfz (i * 2)
  have z1 := T2.out.rfz (i * 2 + 1)
  have c2 := T2.out.c2
  have hpr : p ≠ rg := fun e => (T2.out.ap.2.1 rg rfl).1 e.symm
  have c2' : (w2.setCell ⟨rg, i * 2, none⟩ (.string ⟨#[]⟩)).cell? ⟨p, 2, none⟩ = some (.slice (some ⟨rg, 0, none⟩) N rc) := by
    rw [World.cell?_of_block (w := w2) (a := ⟨p, 2, none⟩) (set_other w2 _ hpr)]; exact c2
  have T3 := hid (show Tm ((w2.setCell ⟨rg, i * 2, none⟩ (.string ⟨#[]⟩)).setCell ⟨rg, i * 2 + 1, none⟩ (.string ⟨#[]⟩)) p m mb (.slice (some ⟨rg, 0, none⟩) N rc) (.slice (some ⟨g, 0, none⟩) L kc) D (l.set i (ByteArray.empty, ByteArray.empty)) (delW ws i) from T2.out.setR i (ByteArray.empty, ByteArray.empty) hil)
  have B3 := hid (show Bx F w.heap.size w ((w2.setCell ⟨rg, i * 2, none⟩ (.string ⟨#[]⟩)).setCell ⟨rg, i * 2 + 1, none⟩ (.string ⟨#[]⟩)) from (B2.out.setCell (p := ⟨rg, i * 2, none⟩) (Or.inl rF) (.string ByteArray.empty)).setCell (p := ⟨rg, i * 2 + 1, none⟩) (Or.inl rF) (.string ⟨#[]⟩))
  have HIL := hid hil
  have HPR := hid hpr
  clear T2 B2 hil hpr
  go_wp2_with fail
  generalize (w2.setCell ⟨rg, i * 2, none⟩ (.string ⟨#[]⟩)).setCell ⟨rg, i * 2 + 1, none⟩ (.string ⟨#[]⟩) = w3 at T3 B3 ⊢
  clear c2' c2 r0 r1 z0 z1
  have HL1 : Hid ((l.set i (ByteArray.empty, ByteArray.empty)).length = N) := hid (by rw [List.length_set]; exact HN.out.symm)
  generalize l.set i (ByteArray.empty, ByteArray.empty) = l1 at *
  have c2 := T3.out.c2
  have z2 := T3.out.fz 2
  have hrc : N ≤ rc := by
    rcases own_form T3.out.hr with ⟨e, _⟩ | ⟨g', c', e, h, _⟩
    · cases e
    · injection e with _ e2 e3
      rw [HL1.out] at h
      omega
  have hws3 : w.heap.size ≤ w3.heap.size := B3.out.size
  go_loopw [4] (fun v wr => ∃ k : Nat, k ≤ N ∧ v = .int .i64 k ∧ Hid (wr = w3) ∧ Hid (∀ t, k ≤ t → isT l1 t = false)) (fun v _ => (intOf v).toNat)
  case atStart => exact ⟨N, Nat.le_refl _, rfl, hid rfl, hid (fun t ht => isT_out (by rw [HL1.out]; exact ht))⟩
  case round =>
    obtain ⟨k, hk, rfl, HB, HA⟩ := hrel
    have hwr := HB.out
    subst hwr
    by_cases h0 : k = 0
    · subst h0
      have hn0 : ¬ ((0 : Int) < 0) := by omega
      go_wp2_with fail
      refine bodyPost_end (v := .tuple #[]) (by simp [results, Tryd.results39]) rfl ?_
      rw [← HQ.out]
      have e : tl l1 = 0 := tl_one l1 0 (Nat.zero_le _) HA.out (Or.inl rfl)
      have T4 := T3.out.cutR 0 (Nat.zero_le _)
      refine ⟨.slice (some ⟨rg, 0, none⟩) 0 rc, rfl, ?_, (B3.out.setCell (p := ⟨p, 2, none⟩) (Or.inl pF) _), fF.out 0⟩
      unfold trim
      rw [e]
      exact T4
    · obtain ⟨t, rfl⟩ : ∃ t, k = t + 1 := ⟨k - 1, by omega⟩
      have htl : t < l1.length := by rw [HL1.out]; omega
      obtain ⟨_, _, er, _, r0, r1⟩ := T3.out.rows htl
      injection er with er lq er2
      injection er with er
      injection er with er lq2 lq3
      subst er er2
      clear lq lq2 lq3
      have hsub : ((t + 1 : Nat) : Int) - 1 = (t : Int) := by omega
      cases hT : isT l1 t
      · have en : nm l1 t = ⟨#[]⟩ := isT_no.1 hT
        rw [en] at r0
        have HT := hid hT
        clear hT en r1
        go_wp2_with fail
        refine ⟨⟨t, by omega, rfl, hid trivial, hid (fun u hu => ?_)⟩, by simp [intOf]⟩
        by_cases e : u = t
        · subst e; exact HT.out
        · exact HA.out u (by omega)
      · have hsz := isT_iff.1 hT
        have en : ((nm l1 t).toList == []) = false := by rw [nil_size]; simpa using hsz
        have HT := hid hT
        generalize nm l1 t = s at *
        clear hT hsz r1
        go_wp2_with fail
        refine bodyPost_end (v := .tuple #[]) (by simp [results, Tryd.results39]) rfl ?_
        rw [← HQ.out]
        have e : tl l1 = t + 1 := tl_one l1 (t + 1) (by rw [HL1.out]; exact hk) HA.out (Or.inr HT.out)
        have T4 := T3.out.cutR (t + 1) (by rw [HL1.out]; exact hk)
        refine ⟨.slice (some ⟨rg, 0, none⟩) (t + 1) rc, rfl, ?_, (B3.out.setCell (p := ⟨p, 2, none⟩) (Or.inl pF) _), fF.out (t + 1)⟩
        unfold trim
        rw [e]
        exact T4
end Go.Proofs.YtfkijmmflpnncaaDoor.LS
