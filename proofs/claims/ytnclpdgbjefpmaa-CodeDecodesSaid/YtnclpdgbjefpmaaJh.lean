import Derived.Test.YtnclpdgbjefpmaaJg
namespace Go.Proofs.Ytnclpdgbjefpmaa.L
open Go.RowKit
set_option linter.unusedVariables false
set_option linter.unusedSimpArgs false
abbrev z7 : Array Value := #[.slice none 0 0, .slice none 0 0, .slice none 0 0, .slice none 0 0, .slice none 0 0, .int .i64 0, .int .i64 0]
theorem cst_gb {w0 W W' : World} {g rb pb : Nat} {av cs : Array Value} {v0 v1 v2 v3 v4 : Value} {q : Pg} (h : Cst w0 W rb rb pb av v0 v1 v2 v3 v4 q) (hg : W.heap[g]? = some (.cells cs 73 (0, 0))) (k : Gb g W W') (n0 : w0.heap.size ≤ g) (n1 : rb ≠ g) (n2 : pb ≠ g) : Cst w0 W' rb rb pb av v0 v1 v2 v3 v4 q := by
  refine ⟨below_gb h.bl k n0, k.at h.arg n1, k.at h.res n1, k.at h.box n2, h.tx.kept k (row_box h.tx hg (by decide)), h.nu.kept k (row_box h.nu hg (by decide)), h.cd.kept k (row_box h.cd hg (by decide)), ?_, ?_, h.nq, h.nr, h.n1, h.n2⟩
  · obtain ⟨vs, x, y⟩ := h.st
    exact ⟨vs, x.kept k (row_box x hg (by decide)), y.box hg (by decide) k⟩
  · obtain ⟨vs, x, y⟩ := h.ns
    exact ⟨vs, x.kept k (row_box x hg (by decide)), y.box hg (by decide) k⟩
theorem dm_grow {g : Nat} {a : Option Addr} {cap : Nat} {B : List UInt8} {W W' : World} {k cd bd base n size : Nat} {e : TypeId} {v : Value} {xs : List Value} (h : Dm g a cap B W k cd bd) (hr : W.ownsRow base e size v n xs) (hne : e ≠ 73) (hlow : ∀ b off u, a = some ⟨b, off, u⟩ → b < base) (hbg : base ≤ g) (kk : W.grownBy W' v.ownBlock) : Dm g a cap B W' k cd bd := by
  have hlt := lt_blk h.box
  refine ⟨box_grow hr h.box hne kk, ?_, h.low, h.le, h.len, h.cpl, h.cpm⟩
  rcases h.row with h0 | ⟨b, off, rfl, h1⟩
  · exact Or.inl h0
  · refine Or.inr ⟨b, off, rfl, fun j hj => ?_⟩
    have h3 := hlow b off none rfl
    exact (World.cell?_of_block (a := ⟨b, off + j, none⟩) (kk.block b (by omega) (fun he => by have := (hr.lt b he.symm).1; omega))).trans (h1 j hj)
/-- The two pools of sets. -/
def setsP (B : List UInt8) (r k : Nat) : DR (List (List ByteArray) × List (List Int)) :=
  dbnd (cntD B k 0 r 9 0 k 0) fun n k => dbnd ((setC.ris (ltL ltS) n .none).P B k) fun s k => dbnd (cntD B k 0 (r - n) 9 0 k 0) fun m k => dbnd ((nsetC.ris (ltL ltI) m .none).P B k) fun ns k => .ok ((s, ns), k)
theorem lst_js {α : Type} [Inhabited α] {g : Nat} {a : Option Addr} {cap : Nat} {B : List UInt8} {W : World} {C : Cod α} {lt : α → α → Bool} {n : Nat} {l : List α} {res : DR (List α)} (h : Lst g a cap B C lt n n l res W) (hl : l.length = n) : Js g a cap B W res (fun x => x = l ∧ l.length = n) True := by
  rcases h with ⟨kk, d, e⟩ | ⟨c, p, kk, hc, d, e⟩
  · refine Or.inl ⟨l, kk, ?_, ⟨rfl, hl⟩, d⟩
    rw [← e, Nat.sub_self]
    show dbnd (.ok ([], kk)) _ = _
    simp [dbnd]
  · exact Or.inr ⟨c, p, kk, e, hc, trivial, d⟩
theorem js_lst {α : Type} [Inhabited α] {g : Nat} {a : Option Addr} {cap : Nat} {B : List UInt8} {W : World} {C : Cod α} {lt : α → α → Bool} {n : Nat} {r : DR Nat} (h : Js g a cap B W r (fun x => x = n) (n = 0)) : Lst g a cap B C lt n 0 [] (dbnd r fun m k => (C.ris lt m .none).P B k) W := by
  rcases h with ⟨x, k, rfl, rfl, d⟩ | ⟨c, p, k, rfl, hc, _, d⟩
  · refine Or.inl ⟨k, d, ?_⟩
    show dbnd ((C.ris lt x .none).P B k) (fun r k' => .ok (r, k')) = (C.ris lt x .none).P B k
    cases (C.ris lt x .none).P B k <;> rfl
  · exact Or.inr ⟨c, p, k, hc, d, rfl⟩
theorem js_step2 {α β γ : Type} {g : Nat} {a : Option Addr} {cap : Nat} {B : List UInt8} {W : World} {r : DR α} {V : α → Prop} {E : Prop} (h : Js g a cap B W r V E) {F : α → Nat → DR γ} {G : α → Nat → DR β} {F' : β → Nat → DR γ} (e : ∀ x k, V x → F x k = dbnd (G x k) F') :
    dbnd r F = dbnd (dbnd r G) F' := by
  rcases h with ⟨x, k, rfl, h2, h3⟩ | ⟨c, p, k, rfl, h2, h3, h4⟩
  · exact e x k h2
  · rfl
theorem js_pair {α β : Type} {g : Nat} {a : Option Addr} {cap : Nat} {B : List UInt8} {W : World} {res : DR β} {s : α} {ns : β} {P : Prop} (h : Js g a cap B W res (fun x => x = ns ∧ P) True) : Js g a cap B W (dbnd res fun ns k => (.ok ((s, ns), k) : DR (α × β))) (fun x => x = (s, ns)) True := by
  rcases h with ⟨x, k, rfl, ⟨rfl, _⟩, h3⟩ | ⟨c, p, k, rfl, h2, _, h4⟩
  · exact Or.inl ⟨(s, x), k, rfl, rfl, h3⟩
  · exact Or.inr ⟨c, p, k, rfl, h2, trivial, h4⟩
theorem snoc_le {α : Type} {l : List (List α)} {x : List α} {n : Nat} (h : ∀ y ∈ l, y.length ≤ n) (hx : x.length ≤ n) : ∀ y ∈ l ++ [x], y.length ≤ n := by
  intro y hy
  rcases List.mem_append.1 hy with hy | hy
  · exact h y hy
  · simp at hy
    rw [hy]
    exact hx
/-- What a set leaves of the state. -/
theorem lst_bad {α : Type} [Inhabited α] {g : Nat} {a : Option Addr} {cap : Nat} {B : List UInt8} {W : World} {C : Cod α} {lt : α → α → Bool} {n i kk c p k' : Nat} {l l' : List α} {res : DR (List α)} (he : dbnd ((C.ris lt (n - i) l.getLast?).P B kk) (fun r k' => .ok (l ++ r, k')) = res) (hi : i < n) (hr : C.P B kk = .error (c, p)) (hc : c ≠ 0) (d : Dm g a cap B W k' c p) (i' : Nat) : Lst g a cap B C lt n i' l' res W := by
  obtain ⟨m, hm⟩ : ∃ m, n - i = m + 1 := ⟨n - i - 1, by omega⟩
  rw [hm, risP_succ, hr] at he
  exact Or.inr ⟨c, p, k', hc, d, he.symm⟩
theorem lst_no {α : Type} [Inhabited α] {g : Nat} {a : Option Addr} {cap : Nat} {B : List UInt8} {W : World} {C : Cod α} {lt : α → α → Bool} {n i kk k1 k' : Nat} {l l' : List α} {x : α} {res : DR (List α)} (he : dbnd ((C.ris lt (n - i) l.getLast?).P B kk) (fun r k' => .ok (l ++ r, k')) = res) (hi : i < n) (hr : C.P B kk = .ok (x, k1)) (hn : okB lt l.getLast? x = false) (d : Dm g a cap B W k' 204 kk) (i' : Nat) : Lst g a cap B C lt n i' l' res W := by
  obtain ⟨m, hm⟩ : ∃ m, n - i = m + 1 := ⟨n - i - 1, by omega⟩
  rw [hm, risP_succ, hr] at he
  refine Or.inr ⟨204, kk, k', by decide, d, ?_⟩
  rw [← he]
  rw [dbnd_ok, hn]
  rfl
theorem lst_yes {α : Type} [Inhabited α] {g : Nat} {a : Option Addr} {cap : Nat} {B : List UInt8} {W : World} {C : Cod α} {lt : α → α → Bool} {n i kk k1 : Nat} {l : List α} {x : α} {res : DR (List α)} (he : dbnd ((C.ris lt (n - i) l.getLast?).P B kk) (fun r k' => .ok (l ++ r, k')) = res) (hi : i < n) (hr : C.P B kk = .ok (x, k1)) (hn : okB lt l.getLast? x = true) (d : Dm g a cap B W k1 0 0) : Lst g a cap B C lt n (i + 1) (l ++ [x]) res W := by
  obtain ⟨m, hm⟩ : ∃ m, n - i = m + 1 := ⟨n - i - 1, by omega⟩
  rw [hm, risP_succ, hr] at he
  refine Or.inl ⟨k1, d, ?_⟩
  rw [← he, show n - (i + 1) = m by omega, List.getLast?_append]
  show dbnd ((C.ris lt m (some x)).P B k1) _ = dbnd (if okB lt l.getLast? x = true then dbnd ((C.ris lt m (some x)).P B k1) (fun r k2 => .ok (x :: r, k2)) else .error (204, kk)) (fun r k' => .ok (l ++ r, k'))
  rw [if_pos hn]
  cases (C.ris lt m (some x)).P B k1 with
  | error e => rfl
  | ok y => simp [dbnd]
set_option maxHeartbeats 4000000 in
set_option maxRecDepth 100000 in
theorem dsets_any {α : Type} {g : Nat} {a : Option Addr} {cap : Nat} {B : List UInt8} {W : World} {w0 : World} {rb pb : Nat} {v0 v1 : Value} {t : List ByteArray} {u : List Int} {d lo : Int} {r : DR α} {V : α → Prop} {E : Prop} (hJ : Js g a cap B W r V E) (hC : Cst w0 W rb rb pb z7 v0 v1 nl nl nl ⟨t, u, [], [], [], d, lo⟩) (n0 : w0.heap.size ≤ g) (hgp : g < pb) (hrg : rb < g) (hlow : ∀ b off u, a = some ⟨b, off, u⟩ → b < w0.heap.size) (ht : t.length + u.length ≤ 4096) :
    Calls Try.prog 33 #[.pointer (some ⟨g, 0, none⟩), .pointer (some ⟨pb, 0, none⟩)] W fun e w' => e = .returned (.tuple #[]) ∧ ∃ v2 v3 s ns, Cst w0 w' rb rb pb z7 v0 v1 v2 v3 nl ⟨t, u, s, ns, [], d, lo⟩ ∧ Js g a cap B w' (dbnd r fun _ k => setsP B (4096 - t.length - u.length) k) (fun x => x = (s, ns)) True := by
  obtain ⟨a0, c0, rfl, _⟩ := own_form hC.tx
  obtain ⟨a1, c1, rfl, _⟩ := own_form hC.nu
  simp only [List.length_map] at hC ⊢
  obtain ⟨L0, hL0⟩ : ∃ L, L = t.length := ⟨_, rfl⟩
  obtain ⟨L1, hL1⟩ : ∃ L, L = u.length := ⟨_, rfl⟩
  rw [← hL0, ← hL1] at hC ht ⊢
  have hm0 : L0 ≤ maxLen := by unfold maxLen; omega
  have hm1 : L1 ≤ maxLen := by unfold maxLen; omega
  have HL0 := hid hL0
  have HL1 := hid hL1
  have HC := hid hC
  have HJ := hid hJ
  have HN0 := hid n0
  have HN1 := hid (show rb ≠ g from by omega)
  have HN2 := hid (show pb ≠ g from by omega)
  have HGP := hid hgp
  have HLW := hid hlow
  have x0 : W.cell? ⟨pb, 0, none⟩ = some (.slice a0 L0 c0) := cell_of_row _ _ 0 _ _ _ hC.box
  have x1 : W.cell? ⟨pb, 1, none⟩ = some (.slice a1 L1 c1) := cell_of_row _ _ 1 _ _ _ hC.box
  clear hL0 hL1 hC hJ n0 hgp hrg hlow
  obtain ⟨lf, hlf⟩ : ∃ lf, lf = 4096 - L0 - L1 := ⟨_, rfl⟩
  have hlf2 : (4096 : Int) - (L0 : Int) - (L1 : Int) = (lf : Int) := by omega
  have HLF := hid hlf
  have HLF2 := hid hlf2
  have hlf3 : lf ≤ 4096 := by omega
  rw [← hlf]
  clear hlf hlf2
  obtain ⟨T, hT⟩ : ∃ T, T = dbnd r fun _ k => setsP B lf k := ⟨_, rfl⟩
  rw [← hT]
  have HT := hid hT
  clear hT
  go_enter Try.func33, Try.ntmps33
  go_upto_region 0 with fail
  go_quiet (fail)
  have HDR := hid (drew_below W nq)
  have HC := hid (HC.out.low HDR.out)
  have HJ := hid (HJ.out.mv (fun k c p h => h.low' HDR.out))
  generalize W.drewN nq = W1 at *
  clear x0 x1 HDR
  go_upto_region 1 with fail
  rw [HLF2.out]
  have HQ1 := hid (dcnt_join HJ.out 0 lf (by omega) (by decide))
  obtain ⟨kd, cd, pd, hbx⟩ := HJ.out.dm
  have HBX := hid hbx
  clear hbx
  go_wp2_with fail
  refine HQ1.out.mono ?_
  rintro e W2 ⟨n1, rfl, hn1, gb, hj⟩
  have HT0 := hid (HT.out.trans (js_step2 (F' := fun n k => dbnd ((setC.ris (ltL ltS) n .none).P B k) fun s k => dbnd (cntD B k 0 (lf - n) 9 0 k 0) fun m k => dbnd ((nsetC.ris (ltL ltI) m .none).P B k) fun ns k => .ok ((s, ns), k)) HJ.out (G := fun _ k => cntD B k 0 lf 9 0 k 0) (fun x k hx => rfl)))
  have HC := hid (cst_gb HC.out HBX.out.box gb HN0.out HN1.out HN2.out)
  have HJ := hid hj
  clear gb hj HQ1 HBX
  obtain ⟨res1, hres1⟩ : ∃ r1, r1 = dbnd (dbnd r fun _ k => cntD B k 0 lf 9 0 k 0) fun m k => (setC.ris (ltL ltS) m .none).P B k := ⟨_, rfl⟩
  have HLS := hid (js_lst (C := setC) (lt := ltL ltS) HJ.out)
  have HT1 := hid (HT0.out.trans (js_step2 (F' := fun s k => dbnd (cntD B k 0 (lf - n1) 9 0 k 0) fun m k => dbnd ((nsetC.ris (ltL ltI) m .none).P B k) fun ns k => .ok ((s, ns), k)) HJ.out (G := fun m k => (setC.ris (ltL ltS) m .none).P B k) (fun x k hx => by rw [hx])))
  rw [← hres1] at HLS HT1
  clear hres1 HT0 HJ
  go_wp2_with fail
  go_loopw [6] (fun iv wr => ∃ (i : Nat) (sl : List (List ByteArray)) (v : Value), i ≤ n1 ∧ sl.length = i ∧ iv = .int .i64 (i : Int) ∧ Hid (Cst w0 wr rb rb pb z7 (.slice a0 L0 c0) (.slice a1 L1 c1) v nl nl ⟨t, u, sl, [], [], d, lo⟩) ∧ Hid (Lst g a cap B setC (ltL ltS) n1 i sl res1 wr) ∧ Hid (∀ y ∈ sl, y.length ≤ 1000)) (fun iv _ => n1 - (intOf iv).toNat)
  case atStart => exact ⟨0, [], nl, Nat.zero_le _, rfl, rfl, HC, HLS, hid (fun y hy => by cases hy)⟩
  case round =>
    clear HC HLS
    obtain ⟨i, sl, v, hi, hl, rfl, HC, HS, HSM⟩ := hrel
    have HLL := hid hl
    by_cases hlt : i < n1
    · have g1 : (i : Int) < (n1 : Int) := by omega
      rcases HS.out with ⟨kk, hd, hE⟩ | ⟨c, p, kk, hc0, hd, hE⟩
      · have HBX := hid hd
        have HE := hid hE
        have HIN := hid hlt
        have c1 : wr.cell? ⟨g, 1, none⟩ = some (.int .i64 (kk : Int)) := cell_of_row _ _ 1 _ _ _ hd.box
        have c2 : wr.cell? ⟨g, 2, none⟩ = some (.int .i64 0) := cell_of_row _ _ 2 _ _ _ hd.box
        have HJ0 := hid (show Js g a cap B wr (.ok ((), kk) : DR Unit) (fun _ => True) True from Or.inl ⟨(), kk, rfl, trivial, hd⟩)
        have HQC := hid (dcnt_join HJ0.out 1 1000 (by decide) (by decide))
        clear hd hE HS hl
        go_wp2_with fail
        clear c1 c2
        refine HQC.out.mono ?_
        rintro e w1 ⟨m, rfl, hm, gb1, hj1⟩
        have HC := hid (cst_gb HC.out HBX.out.box gb1 HN0.out HN1.out HN2.out)
        have HQT := hid (dsx_join hj1 (by omega))
        have HBB := hid (show w0.heap.size ≤ w1.heap.size from HC.out.bl.size)
        obtain ⟨k1', c1', p1', hd1⟩ := hj1.dm
        have HBX1 := hid hd1
        have HM := hid hm
        clear gb1 hj1 HQC HJ0 hd1 hm
        go_wp2_with fail
        refine HQT.out.mono ?_
        rintro e w2 ⟨vx, x, rfl, hox, hxl, gb2, hj2⟩
        have HC := hid (cst_gb HC.out HBX1.out.box gb2 HN0.out HN1.out HN2.out)
        have HX := hid hox
        have HXL := hid (show x.length ≤ 1000 from Nat.le_trans hxl HM.out)
        have HSP := hid (show dbnd (dbnd (.ok ((), kk) : DR Unit) fun _ k => cntD B k 1 1000 9 0 k 0) (fun m k => (textC.ris ltS m .none).P B k) = setC.P B kk from (lst_P textC ltS 1 1000 (by decide) B kk).symm)
        rw [HSP.out] at hj2
        clear hox hxl gb2 HQT HBX HBX1 HSP HM
        obtain ⟨xa0, xn0, xc0, hvx⟩ := slice_own HX.out
        subst hvx
        rcases hj2 with ⟨y, k1, hr, ⟨rfl, _⟩, hd⟩ | ⟨c, p, k1, hr, hc, _, hd⟩
        · have HRR0 := hid hr
          have HD1 := hid hd
          have c2 : w2.cell? ⟨g, 2, none⟩ = some (.int .i64 0) := cell_of_row _ _ 2 _ _ _ hd.box
          clear hr hd
          by_cases hi0 : i = 0
          · have g3 : ¬ (0 : Int) < (i : Int) := by omega
            have g4 : (i : Int) ≤ 0 := by omega
            have HOK := hid (show okB (ltL ltS) sl.getLast? y = true from by rw [show sl = [] from List.eq_nil_of_length_eq_zero (by rw [HLL.out]; exact hi0)]; rfl)
            clear hi0
            go_upto_region 9 with fail
            clear c2 g3 g4
            obtain ⟨vs, hr, hw⟩ := HC.out.st
            have HRR := hid hr
            have HWW := hid hw
            clear hr hw
            obtain ⟨ya, yn, yc, rfl⟩ := slice_own HRR.out
            have y2 : w2.cell? ⟨pb, 2, none⟩ = some (.slice ya yn yc) := cell_of_row _ _ 2 _ _ _ HC.out.box
            have HBS := hid (show w0.heap.size ≤ w2.heap.size from HC.out.bl.size)
            have hil : i ≤ 1000000 := by omega
            have HRI := hid (show w2.ownsRow w0.heap.size 24 1 (.slice ya yn yc) (i) vs from by have h := HRR.out; simp only at h; rw [HLL.out] at h; exact h)
            go_wp2_with (at_builtin; go_loud (refine wpl_ss rfl _ _ rfl w0.heap.size (.slice ya yn yc) (i) vs (.slice xa0 xn0 xc0) rfl HRI.out rfl hil HBS.out rfl ?_))
            intro v' w4 ho' hg'
            obtain ⟨va', vn', vc', rfl⟩ := slice_own ho'
            have HST := hid (cst_st HC.out HRR.out HWW.out (Below.refl _ _) HX.out HBB.out (by rw [show (⟨t, u, sl, [], [], d, lo⟩ : Pg).st.length = i from HLL.out]; exact ho') hg')
            have HD4 := hid (dm_grow HD1.out HRR.out (by decide) HLW.out HN0.out hg')
            have d2 : w4.cell? ⟨pb, 2, none⟩ = some (.slice ya yn yc) := cell_of_row _ _ 2 _ _ _ HST.out.1
            have f2 : w4.frozen? ⟨pb, 2, none⟩ = false := frz_row HST.out.1 2
            have HC4 := hid HST.out.2.2.2
            have HD5 := hid (dm_new (j := 2) (v := .slice va' vn' vc') HD4.out HST.out.1 HGP.out)
            clear ho' hg' y2 HST HRI HRR HWW HBS HX HBB HD1 HC
            go_wp2_with fail
            exact ⟨⟨i + 1, sl ++ [y], .slice va' vn' vc', by omega, by simp [HLL.out], by go_num, HC4, hid (lst_yes HE.out HIN.out HRR0.out HOK.out HD5.out), hid (snoc_le HSM.out HXL.out)⟩, by simp [intOf]; omega⟩
          · obtain ⟨i', rfl⟩ : ∃ i', i = i' + 1 := ⟨i - 1, by omega⟩
            clear hi0
            obtain ⟨vs, hr, hw⟩ := HC.out.st
            have hq0 : i' < sl.length := by have := HLL.out; omega
            obtain ⟨q, hq⟩ : ∃ q, q = sl.getD i' [] := ⟨_, rfl⟩
            have hqm : q ∈ sl := by rw [hq, List.getD_eq_getElem?_getD, List.getElem?_eq_getElem hq0]; exact List.getElem_mem _
            have hql : sl.getLast? = some q := by rw [List.getLast?_eq_getElem?, HLL.out, hq, List.getD_eq_getElem?_getD, show i' + 1 - 1 = i' by omega, List.getElem?_eq_getElem hq0]; rfl
            obtain ⟨qa, qc, hqv, hqr⟩ := own_form (hw.row i' hq0)
            rw [← hq] at hqv hqr
            obtain ⟨gb, vcap, rfl, hvc, hvm⟩ : ∃ gb vcap, v = .slice (some ⟨gb, 0, none⟩) (i' + 1) vcap ∧ i' + 1 ≤ vcap ∧ vcap ≤ maxLen := by
              rcases hr.2 with ⟨_, h0⟩ | ⟨gb, vcap, cur, e, _, _, h3, h4, _⟩
              · exact absurd h0 (by rw [show (⟨t, u, sl, [], [], d, lo⟩ : Pg).st.length = i' + 1 from HLL.out]; omega)
              · rw [show (⟨t, u, sl, [], [], d, lo⟩ : Pg).st.length = i' + 1 from HLL.out] at e h3
                exact ⟨gb, vcap, e, h3, h4⟩
            have y3 : w2.cell? ⟨gb, i', none⟩ = some (.slice qa q.length qc) := by
              have h5 := hr.cells (g := gb) rfl i' (.slice qa q.length qc) (by rw [← hqv, List.getD_eq_getElem?_getD, List.getElem?_eq_getElem (by have := hw.len; simp only at this; omega)]; rfl)
              rw [Go.WideShapes.add_plain] at h5
              simpa using h5
            have y2 : w2.cell? ⟨pb, 2, none⟩ = some (.slice (some ⟨gb, 0, none⟩) (i' + 1) vcap) := cell_of_row _ _ 2 _ _ _ HC.out.box
            obtain ⟨xa, xc, hxe, hxr⟩ := own_form HX.out
            injection hxe with e1 e2 e3
            have HQL := hid hql
            have hqn := HSM.out q hqm
            have hxn := HXL.out
            have HLE := hid (less_s q y qa xa qc xc w2 (by omega) (by omega) hqr hxr)
            obtain ⟨QL, hQL⟩ : ∃ n, n = q.length := ⟨_, rfl⟩
            rw [← hQL] at y3 HLE
            rw [← e1, ← e2, ← e3] at HLE
            have hq5 : QL ≤ maxLen := by unfold maxLen; omega
            clear hr hw hq hqm hql hqv hqr hQL hxr hqn hxn hq0 e1 e2 e3
            have e7 : IntKind.i64.wrap (i' : Int) = (i' : Int) := by rw [IntKind.wrap_i64]; omega
            have g3 : (0 : Int) < (i' : Int) + 1 := by omega
            go_wp2_with fail
            refine HLE.out.mono ?_
            rintro e w3 ⟨rfl, l3⟩
            have HC := hid (HC.out.low l3)
            have HX := hid (row_low HX.out l3)
            have HD1 := hid (HD1.out.low' l3)
            clear c2 y2 y3 l3 HLE e7
            cases hlz : ltL ltS q y with
            | true =>
              have HOK := hid (show okB (ltL ltS) sl.getLast? y = true from by rw [HQL.out]; exact hlz)
              clear hlz
              go_upto_region 9 with fail
              obtain ⟨vs, hr, hw⟩ := HC.out.st
              have HRR := hid hr
              have HWW := hid hw
              clear hr hw
              have y2 : w3.cell? ⟨pb, 2, none⟩ = some (.slice (some ⟨gb, 0, none⟩) (i' + 1) vcap) := cell_of_row _ _ 2 _ _ _ HC.out.box
              have HBS := hid (show w0.heap.size ≤ w3.heap.size from HC.out.bl.size)
              have hil : (i' + 1) ≤ 1000000 := by omega
              have HRI := hid (show w3.ownsRow w0.heap.size 24 1 (.slice (some ⟨gb, 0, none⟩) (i' + 1) vcap) ((i' + 1)) vs from by have h := HRR.out; simp only at h; rw [HLL.out] at h; exact h)
              go_wp2_with (at_builtin; go_loud (refine wpl_ss rfl _ _ rfl w0.heap.size (.slice (some ⟨gb, 0, none⟩) (i' + 1) vcap) ((i' + 1)) vs (.slice xa0 xn0 xc0) rfl HRI.out rfl hil HBS.out rfl ?_))
              intro v' w4 ho' hg'
              obtain ⟨va', vn', vc', rfl⟩ := slice_own ho'
              have HST := hid (cst_st HC.out HRR.out HWW.out (Below.refl _ _) HX.out HBB.out (by rw [show (⟨t, u, sl, [], [], d, lo⟩ : Pg).st.length = (i' + 1) from HLL.out]; exact ho') hg')
              have HD4 := hid (dm_grow HD1.out HRR.out (by decide) HLW.out HN0.out hg')
              have d2 : w4.cell? ⟨pb, 2, none⟩ = some (.slice (some ⟨gb, 0, none⟩) (i' + 1) vcap) := cell_of_row _ _ 2 _ _ _ HST.out.1
              have f2 : w4.frozen? ⟨pb, 2, none⟩ = false := frz_row HST.out.1 2
              have HC4 := hid HST.out.2.2.2
              have HD5 := hid (dm_new (j := 2) (v := .slice va' vn' vc') HD4.out HST.out.1 HGP.out)
              clear ho' hg' y2 HST HRI HRR HWW HBS HX HBB HD1 HC
              go_wp2_with fail
              exact ⟨⟨(i' + 1) + 1, sl ++ [y], .slice va' vn' vc', by omega, by simp [HLL.out], by go_num, HC4, hid (lst_yes HE.out HIN.out HRR0.out HOK.out HD5.out), hid (snoc_le HSM.out HXL.out)⟩, by simp [intOf]; omega⟩
            | false =>
              have HOK := hid (show okB (ltL ltS) sl.getLast? y = false from by rw [HQL.out]; exact hlz)
              clear hlz
              have HFA := hid (dfail_any HD1.out 204 kk)
              go_wp2_with fail
              refine HFA.out.mono ?_
              rintro e w5 ⟨rfl, h1, h2⟩
              have HC := hid (cst_gb HC.out HD1.out.box h2 HN0.out HN1.out HN2.out)
              have HX := hid (HX.out.kept h2 (row_box HX.out HD1.out.box (by decide)))
              have HD1 := hid h1
              clear h1 h2 HFA
              go_upto_region 9 with fail
              obtain ⟨vs, hr, hw⟩ := HC.out.st
              have HRR := hid hr
              have HWW := hid hw
              clear hr hw
              have y2 : w5.cell? ⟨pb, 2, none⟩ = some (.slice (some ⟨gb, 0, none⟩) (i' + 1) vcap) := cell_of_row _ _ 2 _ _ _ HC.out.box
              have HBS := hid (show w0.heap.size ≤ w5.heap.size from HC.out.bl.size)
              have hil : (i' + 1) ≤ 1000000 := by omega
              have HRI := hid (show w5.ownsRow w0.heap.size 24 1 (.slice (some ⟨gb, 0, none⟩) (i' + 1) vcap) ((i' + 1)) vs from by have h := HRR.out; simp only at h; rw [HLL.out] at h; exact h)
              go_wp2_with (at_builtin; go_loud (refine wpl_ss rfl _ _ rfl w0.heap.size (.slice (some ⟨gb, 0, none⟩) (i' + 1) vcap) ((i' + 1)) vs (.slice xa0 xn0 xc0) rfl HRI.out rfl hil HBS.out rfl ?_))
              intro v' w4 ho' hg'
              obtain ⟨va', vn', vc', rfl⟩ := slice_own ho'
              have HST := hid (cst_st HC.out HRR.out HWW.out (Below.refl _ _) HX.out HBB.out (by rw [show (⟨t, u, sl, [], [], d, lo⟩ : Pg).st.length = (i' + 1) from HLL.out]; exact ho') hg')
              have HD4 := hid (dm_grow HD1.out HRR.out (by decide) HLW.out HN0.out hg')
              have d2 : w4.cell? ⟨pb, 2, none⟩ = some (.slice (some ⟨gb, 0, none⟩) (i' + 1) vcap) := cell_of_row _ _ 2 _ _ _ HST.out.1
              have f2 : w4.frozen? ⟨pb, 2, none⟩ = false := frz_row HST.out.1 2
              have HC4 := hid HST.out.2.2.2
              have HD5 := hid (dm_new (j := 2) (v := .slice va' vn' vc') HD4.out HST.out.1 HGP.out)
              clear ho' hg' y2 HST HRI HRR HWW HBS HX HBB HD1 HC
              go_wp2_with fail
              exact ⟨⟨(i' + 1) + 1, sl ++ [y], .slice va' vn' vc', by omega, by simp [HLL.out], by go_num, HC4, hid (lst_no HE.out HIN.out HRR0.out HOK.out HD5.out _), hid (snoc_le HSM.out HXL.out)⟩, by simp [intOf]; omega⟩
        · have HRR0 := hid hr
          have HD1 := hid hd
          have HC0 := hid hc
          have e1 : ((c : Int) != 0) = true := by simpa using hc
          have e2 : ((c : Int) == 0) = false := by simpa using hc
          have c2 : w2.cell? ⟨g, 2, none⟩ = some (.int .i64 (c : Int)) := cell_of_row _ _ 2 _ _ _ hd.box
          clear hr hd hc
          by_cases hi0 : i = 0
          · have g3 : ¬ (0 : Int) < (i : Int) := by omega
            have g4 : (i : Int) ≤ 0 := by omega
            clear hi0
            go_upto_region 9 with fail
            clear c2 g3 g4
            obtain ⟨vs, hr, hw⟩ := HC.out.st
            have HRR := hid hr
            have HWW := hid hw
            clear hr hw
            obtain ⟨ya, yn, yc, rfl⟩ := slice_own HRR.out
            have y2 : w2.cell? ⟨pb, 2, none⟩ = some (.slice ya yn yc) := cell_of_row _ _ 2 _ _ _ HC.out.box
            have HBS := hid (show w0.heap.size ≤ w2.heap.size from HC.out.bl.size)
            have hil : i ≤ 1000000 := by omega
            have HRI := hid (show w2.ownsRow w0.heap.size 24 1 (.slice ya yn yc) (i) vs from by have h := HRR.out; simp only at h; rw [HLL.out] at h; exact h)
            go_wp2_with (at_builtin; go_loud (refine wpl_ss rfl _ _ rfl w0.heap.size (.slice ya yn yc) (i) vs (.slice xa0 xn0 xc0) rfl HRI.out rfl hil HBS.out rfl ?_))
            intro v' w4 ho' hg'
            obtain ⟨va', vn', vc', rfl⟩ := slice_own ho'
            have HST := hid (cst_st HC.out HRR.out HWW.out (Below.refl _ _) HX.out HBB.out (by rw [show (⟨t, u, sl, [], [], d, lo⟩ : Pg).st.length = i from HLL.out]; exact ho') hg')
            have HD4 := hid (dm_grow HD1.out HRR.out (by decide) HLW.out HN0.out hg')
            have d2 : w4.cell? ⟨pb, 2, none⟩ = some (.slice ya yn yc) := cell_of_row _ _ 2 _ _ _ HST.out.1
            have f2 : w4.frozen? ⟨pb, 2, none⟩ = false := frz_row HST.out.1 2
            have HC4 := hid HST.out.2.2.2
            have HD5 := hid (dm_new (j := 2) (v := .slice va' vn' vc') HD4.out HST.out.1 HGP.out)
            clear ho' hg' y2 HST HRI HRR HWW HBS HX HBB HD1 HC
            go_wp2_with fail
            exact ⟨⟨i + 1, sl ++ [x], .slice va' vn' vc', by omega, by simp [HLL.out], by go_num, HC4, hid (lst_bad HE.out HIN.out HRR0.out HC0.out HD5.out _), hid (snoc_le HSM.out HXL.out)⟩, by simp [intOf]; omega⟩
          · have g3 : (0 : Int) < (i : Int) := by omega
            clear hi0
            go_upto_region 9 with fail
            clear c2 g3
            obtain ⟨vs, hr, hw⟩ := HC.out.st
            have HRR := hid hr
            have HWW := hid hw
            clear hr hw
            obtain ⟨ya, yn, yc, rfl⟩ := slice_own HRR.out
            have y2 : w2.cell? ⟨pb, 2, none⟩ = some (.slice ya yn yc) := cell_of_row _ _ 2 _ _ _ HC.out.box
            have HBS := hid (show w0.heap.size ≤ w2.heap.size from HC.out.bl.size)
            have hil : i ≤ 1000000 := by omega
            have HRI := hid (show w2.ownsRow w0.heap.size 24 1 (.slice ya yn yc) (i) vs from by have h := HRR.out; simp only at h; rw [HLL.out] at h; exact h)
            go_wp2_with (at_builtin; go_loud (refine wpl_ss rfl _ _ rfl w0.heap.size (.slice ya yn yc) (i) vs (.slice xa0 xn0 xc0) rfl HRI.out rfl hil HBS.out rfl ?_))
            intro v' w4 ho' hg'
            obtain ⟨va', vn', vc', rfl⟩ := slice_own ho'
            have HST := hid (cst_st HC.out HRR.out HWW.out (Below.refl _ _) HX.out HBB.out (by rw [show (⟨t, u, sl, [], [], d, lo⟩ : Pg).st.length = i from HLL.out]; exact ho') hg')
            have HD4 := hid (dm_grow HD1.out HRR.out (by decide) HLW.out HN0.out hg')
            have d2 : w4.cell? ⟨pb, 2, none⟩ = some (.slice ya yn yc) := cell_of_row _ _ 2 _ _ _ HST.out.1
            have f2 : w4.frozen? ⟨pb, 2, none⟩ = false := frz_row HST.out.1 2
            have HC4 := hid HST.out.2.2.2
            have HD5 := hid (dm_new (j := 2) (v := .slice va' vn' vc') HD4.out HST.out.1 HGP.out)
            clear ho' hg' y2 HST HRI HRR HWW HBS HX HBB HD1 HC
            go_wp2_with fail
            exact ⟨⟨i + 1, sl ++ [x], .slice va' vn' vc', by omega, by simp [HLL.out], by go_num, HC4, hid (lst_bad HE.out HIN.out HRR0.out HC0.out HD5.out _), hid (snoc_le HSM.out HXL.out)⟩, by simp [intOf]; omega⟩
      · have HJ1 := hid (show Js g a cap B wr res1 (fun x => x = sl ∧ sl.length = n1) True from Or.inr ⟨c, p, kk, hE, hc0, trivial, hd⟩)
        have e1 : ((c : Int) != 0) = true := by simpa using hc0
        have e2 : ((c : Int) == 0) = false := by simpa using hc0
        have c2 : wr.cell? ⟨g, 2, none⟩ = some (.int .i64 (c : Int)) := cell_of_row _ _ 2 _ _ _ hd.box
        clear hc0 hd hE hl HS HLL HSM
        obtain ⟨a2, L2, c2', rfl⟩ : ∃ va vn vc, v = .slice va vn vc := by
          obtain ⟨us, hu, _⟩ := HC.out.st
          exact slice_own hu
        obtain ⟨c2s, hc2s⟩ : ∃ c, c = c2' := ⟨_, rfl⟩
        rw [← hc2s] at HC
        clear hc2s
        have HT2 := hid (HT1.out.trans (js_step2 (F' := fun m k => dbnd ((nsetC.ris (ltL ltI) m .none).P B k) fun ns k => .ok ((sl, ns), k)) HJ1.out (G := fun _ k => cntD B k 0 (lf - n1) 9 0 k 0) (fun x k hx => by rw [hx.1])))
        have HQ2 := hid (dcnt_join HJ1.out 0 (lf - n1) (by omega) (by decide))
        obtain ⟨kd2, cd2, pd2, hbx2⟩ := HJ1.out.dm
        have HBX2 := hid hbx2
        clear hbx2
        go_upto_region 10 with fail
        have hsub : (lf : Int) - (n1 : Int) = ((lf - n1 : Nat) : Int) := by omega
        have HSUB := hid hsub
        clear hsub
        go_wp2_with fail
        rw [HSUB.out]
        refine HQ2.out.mono ?_
        rintro e W3 ⟨n2, rfl, hn2, gb, hj⟩
        have HC := hid (cst_gb HC.out HBX2.out.box gb HN0.out HN1.out HN2.out)
        have HJ2 := hid hj
        clear gb hj HQ2 HBX2 HJ1
        have HT3 := hid (HT2.out.trans (js_step2 (F' := fun ns k => .ok ((sl, ns), k)) HJ2.out (G := fun m k => (nsetC.ris (ltL ltI) m .none).P B k) (fun x k hx => rfl)))
        obtain ⟨res2, hres2⟩ : ∃ r1, r1 = dbnd (dbnd res1 fun _ k => cntD B k 0 (lf - n1) 9 0 k 0) fun m k => (nsetC.ris (ltL ltI) m .none).P B k := ⟨_, rfl⟩
        have HLS := hid (js_lst (C := nsetC) (lt := ltL ltI) HJ2.out)
        rw [← hres2] at HLS HT3
        clear hres2 HT2 HJ2
        obtain ⟨ss, hss⟩ : ∃ ss, ss = sl := ⟨_, rfl⟩
        rw [← hss] at HC HT3
        clear hss
        go_wp2_with fail
        go_loopw [9] (fun iv wr => ∃ (i : Nat) (sl : List (List Int)) (v : Value), i ≤ n2 ∧ sl.length = i ∧ iv = .int .i64 (i : Int) ∧ Hid (Cst w0 wr rb rb pb z7 (.slice a0 L0 c0) (.slice a1 L1 c1) (.slice a2 L2 c2s) v nl ⟨t, u, ss, sl, [], d, lo⟩) ∧ Hid (Lst g a cap B nsetC (ltL ltI) n2 i sl res2 wr) ∧ Hid (∀ y ∈ sl, y.length ≤ 1000)) (fun iv _ => n2 - (intOf iv).toNat)
        case atStart => exact ⟨0, [], nl, Nat.zero_le _, rfl, rfl, HC, HLS, hid (fun y hy => by cases hy)⟩
        case round =>
          clear HC HLS
          obtain ⟨i, sl, v, hi, hl, rfl, HC, HS, HSM⟩ := hrel
          have HLL := hid hl
          by_cases hlt : i < n2
          · have g1 : (i : Int) < (n2 : Int) := by omega
            rcases HS.out with ⟨kk, hd, hE⟩ | ⟨c, p, kk, hc0, hd, hE⟩
            · have HBX := hid hd
              have HE := hid hE
              have HIN := hid hlt
              have c1 : wr.cell? ⟨g, 1, none⟩ = some (.int .i64 (kk : Int)) := cell_of_row _ _ 1 _ _ _ hd.box
              have c2 : wr.cell? ⟨g, 2, none⟩ = some (.int .i64 0) := cell_of_row _ _ 2 _ _ _ hd.box
              have HJ0 := hid (show Js g a cap B wr (.ok ((), kk) : DR Unit) (fun _ => True) True from Or.inl ⟨(), kk, rfl, trivial, hd⟩)
              have HQC := hid (dcnt_join HJ0.out 1 1000 (by decide) (by decide))
              clear hd hE HS hl
              go_wp2_with fail
              clear c1 c2
              refine HQC.out.mono ?_
              rintro e w1 ⟨m, rfl, hm, gb1, hj1⟩
              have HC := hid (cst_gb HC.out HBX.out.box gb1 HN0.out HN1.out HN2.out)
              have HQT := hid (dix_join hj1 (by omega))
              have HBB := hid (show w0.heap.size ≤ w1.heap.size from HC.out.bl.size)
              obtain ⟨k1', c1', p1', hd1⟩ := hj1.dm
              have HBX1 := hid hd1
              have HM := hid hm
              clear gb1 hj1 HQC HJ0 hd1 hm
              go_wp2_with fail
              refine HQT.out.mono ?_
              rintro e w2 ⟨vx, x, rfl, hox, hxl, gb2, hj2⟩
              have HC := hid (cst_gb HC.out HBX1.out.box gb2 HN0.out HN1.out HN2.out)
              have HX := hid hox
              have HXL := hid (show x.length ≤ 1000 from Nat.le_trans hxl HM.out)
              have HSP := hid (show dbnd (dbnd (.ok ((), kk) : DR Unit) fun _ k => cntD B k 1 1000 9 0 k 0) (fun m k => (sgnC.ris ltI m .none).P B k) = nsetC.P B kk from (lst_P sgnC ltI 1 1000 (by decide) B kk).symm)
              rw [HSP.out] at hj2
              clear hox hxl gb2 HQT HBX HBX1 HSP HM
              obtain ⟨xa0, xn0, xc0, hvx⟩ := slice_own HX.out
              subst hvx
              rcases hj2 with ⟨y, k1, hr, ⟨rfl, _⟩, hd⟩ | ⟨c, p, k1, hr, hc, _, hd⟩
              · have HRR0 := hid hr
                have HD1 := hid hd
                have c2 : w2.cell? ⟨g, 2, none⟩ = some (.int .i64 0) := cell_of_row _ _ 2 _ _ _ hd.box
                clear hr hd
                by_cases hi0 : i = 0
                · have g3 : ¬ (0 : Int) < (i : Int) := by omega
                  have g4 : (i : Int) ≤ 0 := by omega
                  have HOK := hid (show okB (ltL ltI) sl.getLast? y = true from by rw [show sl = [] from List.eq_nil_of_length_eq_zero (by rw [HLL.out]; exact hi0)]; rfl)
                  clear hi0
                  go_upto_region 18 with fail
                  clear c2 g3 g4
                  obtain ⟨vs, hr, hw⟩ := HC.out.ns
                  have HRR := hid hr
                  have HWW := hid hw
                  clear hr hw
                  obtain ⟨ya, yn, yc, rfl⟩ := slice_own HRR.out
                  have y2 : w2.cell? ⟨pb, 3, none⟩ = some (.slice ya yn yc) := cell_of_row _ _ 3 _ _ _ HC.out.box
                  have HBS := hid (show w0.heap.size ≤ w2.heap.size from HC.out.bl.size)
                  have hil : i ≤ 1000000 := by omega
                  have HRI := hid (show w2.ownsRow w0.heap.size 25 1 (.slice ya yn yc) (i) vs from by have h := HRR.out; simp only at h; rw [HLL.out] at h; exact h)
                  go_wp2_with (at_builtin; go_loud (refine wpl_is rfl _ _ rfl w0.heap.size (.slice ya yn yc) (i) vs (.slice xa0 xn0 xc0) rfl HRI.out rfl hil HBS.out rfl ?_))
                  intro v' w4 ho' hg'
                  obtain ⟨va', vn', vc', rfl⟩ := slice_own ho'
                  have HST := hid (cst_ns HC.out HRR.out HWW.out (Below.refl _ _) HX.out HBB.out (by rw [show (⟨t, u, ss, sl, [], d, lo⟩ : Pg).ns.length = i from HLL.out]; exact ho') hg')
                  have HD4 := hid (dm_grow HD1.out HRR.out (by decide) HLW.out HN0.out hg')
                  have d2 : w4.cell? ⟨pb, 3, none⟩ = some (.slice ya yn yc) := cell_of_row _ _ 3 _ _ _ HST.out.1
                  have f2 : w4.frozen? ⟨pb, 3, none⟩ = false := frz_row HST.out.1 3
                  have HC4 := hid HST.out.2.2.2
                  have HD5 := hid (dm_new (j := 3) (v := .slice va' vn' vc') HD4.out HST.out.1 HGP.out)
                  clear ho' hg' y2 HST HRI HRR HWW HBS HX HBB HD1 HC
                  go_wp2_with fail
                  exact ⟨⟨i + 1, sl ++ [y], .slice va' vn' vc', by omega, by simp [HLL.out], by go_num, HC4, hid (lst_yes HE.out HIN.out HRR0.out HOK.out HD5.out), hid (snoc_le HSM.out HXL.out)⟩, by simp [intOf]; omega⟩
                · obtain ⟨i', rfl⟩ : ∃ i', i = i' + 1 := ⟨i - 1, by omega⟩
                  clear hi0
                  obtain ⟨vs, hr, hw⟩ := HC.out.ns
                  have hq0 : i' < sl.length := by have := HLL.out; omega
                  obtain ⟨q, hq⟩ : ∃ q, q = sl.getD i' [] := ⟨_, rfl⟩
                  have hqm : q ∈ sl := by rw [hq, List.getD_eq_getElem?_getD, List.getElem?_eq_getElem hq0]; exact List.getElem_mem _
                  have hql : sl.getLast? = some q := by rw [List.getLast?_eq_getElem?, HLL.out, hq, List.getD_eq_getElem?_getD, show i' + 1 - 1 = i' by omega, List.getElem?_eq_getElem hq0]; rfl
                  obtain ⟨qa, qc, hqv, hqr⟩ := own_form (hw.row i' hq0)
                  rw [← hq] at hqv hqr
                  obtain ⟨gb, vcap, rfl, hvc, hvm⟩ : ∃ gb vcap, v = .slice (some ⟨gb, 0, none⟩) (i' + 1) vcap ∧ i' + 1 ≤ vcap ∧ vcap ≤ maxLen := by
                    rcases hr.2 with ⟨_, h0⟩ | ⟨gb, vcap, cur, e, _, _, h3, h4, _⟩
                    · exact absurd h0 (by rw [show (⟨t, u, ss, sl, [], d, lo⟩ : Pg).ns.length = i' + 1 from HLL.out]; omega)
                    · rw [show (⟨t, u, ss, sl, [], d, lo⟩ : Pg).ns.length = i' + 1 from HLL.out] at e h3
                      exact ⟨gb, vcap, e, h3, h4⟩
                  have y3 : w2.cell? ⟨gb, i', none⟩ = some (.slice qa q.length qc) := by
                    have h5 := hr.cells (g := gb) rfl i' (.slice qa q.length qc) (by rw [← hqv, List.getD_eq_getElem?_getD, List.getElem?_eq_getElem (by have := hw.len; simp only at this; omega)]; rfl)
                    rw [Go.WideShapes.add_plain] at h5
                    simpa using h5
                  have y2 : w2.cell? ⟨pb, 3, none⟩ = some (.slice (some ⟨gb, 0, none⟩) (i' + 1) vcap) := cell_of_row _ _ 3 _ _ _ HC.out.box
                  obtain ⟨xa, xc, hxe, hxr⟩ := own_form HX.out
                  injection hxe with e1 e2 e3
                  have HQL := hid hql
                  have hqn := HSM.out q hqm
                  have hxn := HXL.out
                  have HLE := hid (less_i q y qa xa qc xc w2 (by omega) (by omega) hqr hxr)
                  obtain ⟨QL, hQL⟩ : ∃ n, n = q.length := ⟨_, rfl⟩
                  rw [← hQL] at y3 HLE
                  rw [← e1, ← e2, ← e3] at HLE
                  have hq5 : QL ≤ maxLen := by unfold maxLen; omega
                  clear hr hw hq hqm hql hqv hqr hQL hxr hqn hxn hq0 e1 e2 e3
                  have e7 : IntKind.i64.wrap (i' : Int) = (i' : Int) := by rw [IntKind.wrap_i64]; omega
                  have g3 : (0 : Int) < (i' : Int) + 1 := by omega
                  go_wp2_with fail
                  refine HLE.out.mono ?_
                  rintro e w3 ⟨rfl, l3⟩
                  have HC := hid (HC.out.low l3)
                  have HX := hid (row_low HX.out l3)
                  have HD1 := hid (HD1.out.low' l3)
                  clear c2 y2 y3 l3 HLE e7
                  cases hlz : ltL ltI q y with
                  | true =>
                    have HOK := hid (show okB (ltL ltI) sl.getLast? y = true from by rw [HQL.out]; exact hlz)
                    clear hlz
                    go_upto_region 18 with fail
                    obtain ⟨vs, hr, hw⟩ := HC.out.ns
                    have HRR := hid hr
                    have HWW := hid hw
                    clear hr hw
                    have y2 : w3.cell? ⟨pb, 3, none⟩ = some (.slice (some ⟨gb, 0, none⟩) (i' + 1) vcap) := cell_of_row _ _ 3 _ _ _ HC.out.box
                    have HBS := hid (show w0.heap.size ≤ w3.heap.size from HC.out.bl.size)
                    have hil : (i' + 1) ≤ 1000000 := by omega
                    have HRI := hid (show w3.ownsRow w0.heap.size 25 1 (.slice (some ⟨gb, 0, none⟩) (i' + 1) vcap) ((i' + 1)) vs from by have h := HRR.out; simp only at h; rw [HLL.out] at h; exact h)
                    go_wp2_with (at_builtin; go_loud (refine wpl_is rfl _ _ rfl w0.heap.size (.slice (some ⟨gb, 0, none⟩) (i' + 1) vcap) ((i' + 1)) vs (.slice xa0 xn0 xc0) rfl HRI.out rfl hil HBS.out rfl ?_))
                    intro v' w4 ho' hg'
                    obtain ⟨va', vn', vc', rfl⟩ := slice_own ho'
                    have HST := hid (cst_ns HC.out HRR.out HWW.out (Below.refl _ _) HX.out HBB.out (by rw [show (⟨t, u, ss, sl, [], d, lo⟩ : Pg).ns.length = (i' + 1) from HLL.out]; exact ho') hg')
                    have HD4 := hid (dm_grow HD1.out HRR.out (by decide) HLW.out HN0.out hg')
                    have d2 : w4.cell? ⟨pb, 3, none⟩ = some (.slice (some ⟨gb, 0, none⟩) (i' + 1) vcap) := cell_of_row _ _ 3 _ _ _ HST.out.1
                    have f2 : w4.frozen? ⟨pb, 3, none⟩ = false := frz_row HST.out.1 3
                    have HC4 := hid HST.out.2.2.2
                    have HD5 := hid (dm_new (j := 3) (v := .slice va' vn' vc') HD4.out HST.out.1 HGP.out)
                    clear ho' hg' y2 HST HRI HRR HWW HBS HX HBB HD1 HC
                    go_wp2_with fail
                    exact ⟨⟨(i' + 1) + 1, sl ++ [y], .slice va' vn' vc', by omega, by simp [HLL.out], by go_num, HC4, hid (lst_yes HE.out HIN.out HRR0.out HOK.out HD5.out), hid (snoc_le HSM.out HXL.out)⟩, by simp [intOf]; omega⟩
                  | false =>
                    have HOK := hid (show okB (ltL ltI) sl.getLast? y = false from by rw [HQL.out]; exact hlz)
                    clear hlz
                    have HFA := hid (dfail_any HD1.out 204 kk)
                    go_wp2_with fail
                    refine HFA.out.mono ?_
                    rintro e w5 ⟨rfl, h1, h2⟩
                    have HC := hid (cst_gb HC.out HD1.out.box h2 HN0.out HN1.out HN2.out)
                    have HX := hid (HX.out.kept h2 (row_box HX.out HD1.out.box (by decide)))
                    have HD1 := hid h1
                    clear h1 h2 HFA
                    go_upto_region 18 with fail
                    obtain ⟨vs, hr, hw⟩ := HC.out.ns
                    have HRR := hid hr
                    have HWW := hid hw
                    clear hr hw
                    have y2 : w5.cell? ⟨pb, 3, none⟩ = some (.slice (some ⟨gb, 0, none⟩) (i' + 1) vcap) := cell_of_row _ _ 3 _ _ _ HC.out.box
                    have HBS := hid (show w0.heap.size ≤ w5.heap.size from HC.out.bl.size)
                    have hil : (i' + 1) ≤ 1000000 := by omega
                    have HRI := hid (show w5.ownsRow w0.heap.size 25 1 (.slice (some ⟨gb, 0, none⟩) (i' + 1) vcap) ((i' + 1)) vs from by have h := HRR.out; simp only at h; rw [HLL.out] at h; exact h)
                    go_wp2_with (at_builtin; go_loud (refine wpl_is rfl _ _ rfl w0.heap.size (.slice (some ⟨gb, 0, none⟩) (i' + 1) vcap) ((i' + 1)) vs (.slice xa0 xn0 xc0) rfl HRI.out rfl hil HBS.out rfl ?_))
                    intro v' w4 ho' hg'
                    obtain ⟨va', vn', vc', rfl⟩ := slice_own ho'
                    have HST := hid (cst_ns HC.out HRR.out HWW.out (Below.refl _ _) HX.out HBB.out (by rw [show (⟨t, u, ss, sl, [], d, lo⟩ : Pg).ns.length = (i' + 1) from HLL.out]; exact ho') hg')
                    have HD4 := hid (dm_grow HD1.out HRR.out (by decide) HLW.out HN0.out hg')
                    have d2 : w4.cell? ⟨pb, 3, none⟩ = some (.slice (some ⟨gb, 0, none⟩) (i' + 1) vcap) := cell_of_row _ _ 3 _ _ _ HST.out.1
                    have f2 : w4.frozen? ⟨pb, 3, none⟩ = false := frz_row HST.out.1 3
                    have HC4 := hid HST.out.2.2.2
                    have HD5 := hid (dm_new (j := 3) (v := .slice va' vn' vc') HD4.out HST.out.1 HGP.out)
                    clear ho' hg' y2 HST HRI HRR HWW HBS HX HBB HD1 HC
                    go_wp2_with fail
                    exact ⟨⟨(i' + 1) + 1, sl ++ [y], .slice va' vn' vc', by omega, by simp [HLL.out], by go_num, HC4, hid (lst_no HE.out HIN.out HRR0.out HOK.out HD5.out _), hid (snoc_le HSM.out HXL.out)⟩, by simp [intOf]; omega⟩
              · have HRR0 := hid hr
                have HD1 := hid hd
                have HC0 := hid hc
                have e1 : ((c : Int) != 0) = true := by simpa using hc
                have e2 : ((c : Int) == 0) = false := by simpa using hc
                have c2 : w2.cell? ⟨g, 2, none⟩ = some (.int .i64 (c : Int)) := cell_of_row _ _ 2 _ _ _ hd.box
                clear hr hd hc
                by_cases hi0 : i = 0
                · have g3 : ¬ (0 : Int) < (i : Int) := by omega
                  have g4 : (i : Int) ≤ 0 := by omega
                  clear hi0
                  go_upto_region 18 with fail
                  clear c2 g3 g4
                  obtain ⟨vs, hr, hw⟩ := HC.out.ns
                  have HRR := hid hr
                  have HWW := hid hw
                  clear hr hw
                  obtain ⟨ya, yn, yc, rfl⟩ := slice_own HRR.out
                  have y2 : w2.cell? ⟨pb, 3, none⟩ = some (.slice ya yn yc) := cell_of_row _ _ 3 _ _ _ HC.out.box
                  have HBS := hid (show w0.heap.size ≤ w2.heap.size from HC.out.bl.size)
                  have hil : i ≤ 1000000 := by omega
                  have HRI := hid (show w2.ownsRow w0.heap.size 25 1 (.slice ya yn yc) (i) vs from by have h := HRR.out; simp only at h; rw [HLL.out] at h; exact h)
                  go_wp2_with (at_builtin; go_loud (refine wpl_is rfl _ _ rfl w0.heap.size (.slice ya yn yc) (i) vs (.slice xa0 xn0 xc0) rfl HRI.out rfl hil HBS.out rfl ?_))
                  intro v' w4 ho' hg'
                  obtain ⟨va', vn', vc', rfl⟩ := slice_own ho'
                  have HST := hid (cst_ns HC.out HRR.out HWW.out (Below.refl _ _) HX.out HBB.out (by rw [show (⟨t, u, ss, sl, [], d, lo⟩ : Pg).ns.length = i from HLL.out]; exact ho') hg')
                  have HD4 := hid (dm_grow HD1.out HRR.out (by decide) HLW.out HN0.out hg')
                  have d2 : w4.cell? ⟨pb, 3, none⟩ = some (.slice ya yn yc) := cell_of_row _ _ 3 _ _ _ HST.out.1
                  have f2 : w4.frozen? ⟨pb, 3, none⟩ = false := frz_row HST.out.1 3
                  have HC4 := hid HST.out.2.2.2
                  have HD5 := hid (dm_new (j := 3) (v := .slice va' vn' vc') HD4.out HST.out.1 HGP.out)
                  clear ho' hg' y2 HST HRI HRR HWW HBS HX HBB HD1 HC
                  go_wp2_with fail
                  exact ⟨⟨i + 1, sl ++ [x], .slice va' vn' vc', by omega, by simp [HLL.out], by go_num, HC4, hid (lst_bad HE.out HIN.out HRR0.out HC0.out HD5.out _), hid (snoc_le HSM.out HXL.out)⟩, by simp [intOf]; omega⟩
                · have g3 : (0 : Int) < (i : Int) := by omega
                  clear hi0
                  go_upto_region 18 with fail
                  clear c2 g3
                  obtain ⟨vs, hr, hw⟩ := HC.out.ns
                  have HRR := hid hr
                  have HWW := hid hw
                  clear hr hw
                  obtain ⟨ya, yn, yc, rfl⟩ := slice_own HRR.out
                  have y2 : w2.cell? ⟨pb, 3, none⟩ = some (.slice ya yn yc) := cell_of_row _ _ 3 _ _ _ HC.out.box
                  have HBS := hid (show w0.heap.size ≤ w2.heap.size from HC.out.bl.size)
                  have hil : i ≤ 1000000 := by omega
                  have HRI := hid (show w2.ownsRow w0.heap.size 25 1 (.slice ya yn yc) (i) vs from by have h := HRR.out; simp only at h; rw [HLL.out] at h; exact h)
                  go_wp2_with (at_builtin; go_loud (refine wpl_is rfl _ _ rfl w0.heap.size (.slice ya yn yc) (i) vs (.slice xa0 xn0 xc0) rfl HRI.out rfl hil HBS.out rfl ?_))
                  intro v' w4 ho' hg'
                  obtain ⟨va', vn', vc', rfl⟩ := slice_own ho'
                  have HST := hid (cst_ns HC.out HRR.out HWW.out (Below.refl _ _) HX.out HBB.out (by rw [show (⟨t, u, ss, sl, [], d, lo⟩ : Pg).ns.length = i from HLL.out]; exact ho') hg')
                  have HD4 := hid (dm_grow HD1.out HRR.out (by decide) HLW.out HN0.out hg')
                  have d2 : w4.cell? ⟨pb, 3, none⟩ = some (.slice ya yn yc) := cell_of_row _ _ 3 _ _ _ HST.out.1
                  have f2 : w4.frozen? ⟨pb, 3, none⟩ = false := frz_row HST.out.1 3
                  have HC4 := hid HST.out.2.2.2
                  have HD5 := hid (dm_new (j := 3) (v := .slice va' vn' vc') HD4.out HST.out.1 HGP.out)
                  clear ho' hg' y2 HST HRI HRR HWW HBS HX HBB HD1 HC
                  go_wp2_with fail
                  exact ⟨⟨i + 1, sl ++ [x], .slice va' vn' vc', by omega, by simp [HLL.out], by go_num, HC4, hid (lst_bad HE.out HIN.out HRR0.out HC0.out HD5.out _), hid (snoc_le HSM.out HXL.out)⟩, by simp [intOf]; omega⟩
            · have HJ1 := hid (show Js g a cap B wr res2 (fun x => x = sl ∧ sl.length = n2) True from Or.inr ⟨c, p, kk, hE, hc0, trivial, hd⟩)
              have e1 : ((c : Int) != 0) = true := by simpa using hc0
              have e2 : ((c : Int) == 0) = false := by simpa using hc0
              have c2 : wr.cell? ⟨g, 2, none⟩ = some (.int .i64 (c : Int)) := cell_of_row _ _ 2 _ _ _ hd.box
              clear hc0 hd hE hl HS HLL HSM
              obtain ⟨va, vn, vc, rfl⟩ : ∃ va vn vc, v = .slice va vn vc := by
                obtain ⟨us, hu, _⟩ := HC.out.ns
                exact slice_own hu
              go_wp2_with fail
              go_end0
              refine ⟨rfl, _, _, _, _, HC.out, ?_⟩
              rw [HT3.out]
              exact js_pair HJ1.out
          · obtain rfl : i = n2 := by omega
            have g1 : ¬ (i : Int) < (i : Int) := by omega
            have HJ1 := hid (lst_js HS.out hl)
            clear hl HS HLL HSM hlt
            obtain ⟨va, vn, vc, rfl⟩ : ∃ va vn vc, v = .slice va vn vc := by
              obtain ⟨us, hu, _⟩ := HC.out.ns
              exact slice_own hu
            go_wp2_with fail
            go_end0
            refine ⟨rfl, _, _, _, _, HC.out, ?_⟩
            rw [HT3.out]
            exact js_pair HJ1.out
    · obtain rfl : i = n1 := by omega
      have g1 : ¬ (i : Int) < (i : Int) := by omega
      have HJ1 := hid (lst_js HS.out hl)
      clear hl HS HLL HSM hlt
      obtain ⟨a2, L2, c2', rfl⟩ : ∃ va vn vc, v = .slice va vn vc := by
        obtain ⟨us, hu, _⟩ := HC.out.st
        exact slice_own hu
      obtain ⟨c2s, hc2s⟩ : ∃ c, c = c2' := ⟨_, rfl⟩
      rw [← hc2s] at HC
      clear hc2s
      have HT2 := hid (HT1.out.trans (js_step2 (F' := fun m k => dbnd ((nsetC.ris (ltL ltI) m .none).P B k) fun ns k => .ok ((sl, ns), k)) HJ1.out (G := fun _ k => cntD B k 0 (lf - i) 9 0 k 0) (fun x k hx => by rw [hx.1])))
      have HQ2 := hid (dcnt_join HJ1.out 0 (lf - i) (by omega) (by decide))
      obtain ⟨kd2, cd2, pd2, hbx2⟩ := HJ1.out.dm
      have HBX2 := hid hbx2
      clear hbx2
      go_upto_region 10 with fail
      have hsub : (lf : Int) - (i : Int) = ((lf - i : Nat) : Int) := by omega
      have HSUB := hid hsub
      clear hsub
      go_wp2_with fail
      rw [HSUB.out]
      refine HQ2.out.mono ?_
      rintro e W3 ⟨n2, rfl, hn2, gb, hj⟩
      have HC := hid (cst_gb HC.out HBX2.out.box gb HN0.out HN1.out HN2.out)
      have HJ2 := hid hj
      clear gb hj HQ2 HBX2 HJ1
      have HT3 := hid (HT2.out.trans (js_step2 (F' := fun ns k => .ok ((sl, ns), k)) HJ2.out (G := fun m k => (nsetC.ris (ltL ltI) m .none).P B k) (fun x k hx => rfl)))
      obtain ⟨res2, hres2⟩ : ∃ r1, r1 = dbnd (dbnd res1 fun _ k => cntD B k 0 (lf - i) 9 0 k 0) fun m k => (nsetC.ris (ltL ltI) m .none).P B k := ⟨_, rfl⟩
      have HLS := hid (js_lst (C := nsetC) (lt := ltL ltI) HJ2.out)
      rw [← hres2] at HLS HT3
      clear hres2 HT2 HJ2
      obtain ⟨ss, hss⟩ : ∃ ss, ss = sl := ⟨_, rfl⟩
      rw [← hss] at HC HT3
      clear hss
      go_wp2_with fail
      go_loopw [9] (fun iv wr => ∃ (i : Nat) (sl : List (List Int)) (v : Value), i ≤ n2 ∧ sl.length = i ∧ iv = .int .i64 (i : Int) ∧ Hid (Cst w0 wr rb rb pb z7 (.slice a0 L0 c0) (.slice a1 L1 c1) (.slice a2 L2 c2s) v nl ⟨t, u, ss, sl, [], d, lo⟩) ∧ Hid (Lst g a cap B nsetC (ltL ltI) n2 i sl res2 wr) ∧ Hid (∀ y ∈ sl, y.length ≤ 1000)) (fun iv _ => n2 - (intOf iv).toNat)
      case atStart => exact ⟨0, [], nl, Nat.zero_le _, rfl, rfl, HC, HLS, hid (fun y hy => by cases hy)⟩
      case round =>
        clear HC HLS
        obtain ⟨i, sl, v, hi, hl, rfl, HC, HS, HSM⟩ := hrel
        have HLL := hid hl
        by_cases hlt : i < n2
        · have g1 : (i : Int) < (n2 : Int) := by omega
          rcases HS.out with ⟨kk, hd, hE⟩ | ⟨c, p, kk, hc0, hd, hE⟩
          · have HBX := hid hd
            have HE := hid hE
            have HIN := hid hlt
            have c1 : wr.cell? ⟨g, 1, none⟩ = some (.int .i64 (kk : Int)) := cell_of_row _ _ 1 _ _ _ hd.box
            have c2 : wr.cell? ⟨g, 2, none⟩ = some (.int .i64 0) := cell_of_row _ _ 2 _ _ _ hd.box
            have HJ0 := hid (show Js g a cap B wr (.ok ((), kk) : DR Unit) (fun _ => True) True from Or.inl ⟨(), kk, rfl, trivial, hd⟩)
            have HQC := hid (dcnt_join HJ0.out 1 1000 (by decide) (by decide))
            clear hd hE HS hl
            go_wp2_with fail
            clear c1 c2
            refine HQC.out.mono ?_
            rintro e w1 ⟨m, rfl, hm, gb1, hj1⟩
            have HC := hid (cst_gb HC.out HBX.out.box gb1 HN0.out HN1.out HN2.out)
            have HQT := hid (dix_join hj1 (by omega))
            have HBB := hid (show w0.heap.size ≤ w1.heap.size from HC.out.bl.size)
            obtain ⟨k1', c1', p1', hd1⟩ := hj1.dm
            have HBX1 := hid hd1
            have HM := hid hm
            clear gb1 hj1 HQC HJ0 hd1 hm
            go_wp2_with fail
            refine HQT.out.mono ?_
            rintro e w2 ⟨vx, x, rfl, hox, hxl, gb2, hj2⟩
            have HC := hid (cst_gb HC.out HBX1.out.box gb2 HN0.out HN1.out HN2.out)
            have HX := hid hox
            have HXL := hid (show x.length ≤ 1000 from Nat.le_trans hxl HM.out)
            have HSP := hid (show dbnd (dbnd (.ok ((), kk) : DR Unit) fun _ k => cntD B k 1 1000 9 0 k 0) (fun m k => (sgnC.ris ltI m .none).P B k) = nsetC.P B kk from (lst_P sgnC ltI 1 1000 (by decide) B kk).symm)
            rw [HSP.out] at hj2
            clear hox hxl gb2 HQT HBX HBX1 HSP HM
            obtain ⟨xa0, xn0, xc0, hvx⟩ := slice_own HX.out
            subst hvx
            rcases hj2 with ⟨y, k1, hr, ⟨rfl, _⟩, hd⟩ | ⟨c, p, k1, hr, hc, _, hd⟩
            · have HRR0 := hid hr
              have HD1 := hid hd
              have c2 : w2.cell? ⟨g, 2, none⟩ = some (.int .i64 0) := cell_of_row _ _ 2 _ _ _ hd.box
              clear hr hd
              by_cases hi0 : i = 0
              · have g3 : ¬ (0 : Int) < (i : Int) := by omega
                have g4 : (i : Int) ≤ 0 := by omega
                have HOK := hid (show okB (ltL ltI) sl.getLast? y = true from by rw [show sl = [] from List.eq_nil_of_length_eq_zero (by rw [HLL.out]; exact hi0)]; rfl)
                clear hi0
                go_upto_region 18 with fail
                clear c2 g3 g4
                obtain ⟨vs, hr, hw⟩ := HC.out.ns
                have HRR := hid hr
                have HWW := hid hw
                clear hr hw
                obtain ⟨ya, yn, yc, rfl⟩ := slice_own HRR.out
                have y2 : w2.cell? ⟨pb, 3, none⟩ = some (.slice ya yn yc) := cell_of_row _ _ 3 _ _ _ HC.out.box
                have HBS := hid (show w0.heap.size ≤ w2.heap.size from HC.out.bl.size)
                have hil : i ≤ 1000000 := by omega
                have HRI := hid (show w2.ownsRow w0.heap.size 25 1 (.slice ya yn yc) (i) vs from by have h := HRR.out; simp only at h; rw [HLL.out] at h; exact h)
                go_wp2_with (at_builtin; go_loud (refine wpl_is rfl _ _ rfl w0.heap.size (.slice ya yn yc) (i) vs (.slice xa0 xn0 xc0) rfl HRI.out rfl hil HBS.out rfl ?_))
                intro v' w4 ho' hg'
                obtain ⟨va', vn', vc', rfl⟩ := slice_own ho'
                have HST := hid (cst_ns HC.out HRR.out HWW.out (Below.refl _ _) HX.out HBB.out (by rw [show (⟨t, u, ss, sl, [], d, lo⟩ : Pg).ns.length = i from HLL.out]; exact ho') hg')
                have HD4 := hid (dm_grow HD1.out HRR.out (by decide) HLW.out HN0.out hg')
                have d2 : w4.cell? ⟨pb, 3, none⟩ = some (.slice ya yn yc) := cell_of_row _ _ 3 _ _ _ HST.out.1
                have f2 : w4.frozen? ⟨pb, 3, none⟩ = false := frz_row HST.out.1 3
                have HC4 := hid HST.out.2.2.2
                have HD5 := hid (dm_new (j := 3) (v := .slice va' vn' vc') HD4.out HST.out.1 HGP.out)
                clear ho' hg' y2 HST HRI HRR HWW HBS HX HBB HD1 HC
                go_wp2_with fail
                exact ⟨⟨i + 1, sl ++ [y], .slice va' vn' vc', by omega, by simp [HLL.out], by go_num, HC4, hid (lst_yes HE.out HIN.out HRR0.out HOK.out HD5.out), hid (snoc_le HSM.out HXL.out)⟩, by simp [intOf]; omega⟩
              · obtain ⟨i', rfl⟩ : ∃ i', i = i' + 1 := ⟨i - 1, by omega⟩
                clear hi0
                obtain ⟨vs, hr, hw⟩ := HC.out.ns
                have hq0 : i' < sl.length := by have := HLL.out; omega
                obtain ⟨q, hq⟩ : ∃ q, q = sl.getD i' [] := ⟨_, rfl⟩
                have hqm : q ∈ sl := by rw [hq, List.getD_eq_getElem?_getD, List.getElem?_eq_getElem hq0]; exact List.getElem_mem _
                have hql : sl.getLast? = some q := by rw [List.getLast?_eq_getElem?, HLL.out, hq, List.getD_eq_getElem?_getD, show i' + 1 - 1 = i' by omega, List.getElem?_eq_getElem hq0]; rfl
                obtain ⟨qa, qc, hqv, hqr⟩ := own_form (hw.row i' hq0)
                rw [← hq] at hqv hqr
                obtain ⟨gb, vcap, rfl, hvc, hvm⟩ : ∃ gb vcap, v = .slice (some ⟨gb, 0, none⟩) (i' + 1) vcap ∧ i' + 1 ≤ vcap ∧ vcap ≤ maxLen := by
                  rcases hr.2 with ⟨_, h0⟩ | ⟨gb, vcap, cur, e, _, _, h3, h4, _⟩
                  · exact absurd h0 (by rw [show (⟨t, u, ss, sl, [], d, lo⟩ : Pg).ns.length = i' + 1 from HLL.out]; omega)
                  · rw [show (⟨t, u, ss, sl, [], d, lo⟩ : Pg).ns.length = i' + 1 from HLL.out] at e h3
                    exact ⟨gb, vcap, e, h3, h4⟩
                have y3 : w2.cell? ⟨gb, i', none⟩ = some (.slice qa q.length qc) := by
                  have h5 := hr.cells (g := gb) rfl i' (.slice qa q.length qc) (by rw [← hqv, List.getD_eq_getElem?_getD, List.getElem?_eq_getElem (by have := hw.len; simp only at this; omega)]; rfl)
                  rw [Go.WideShapes.add_plain] at h5
                  simpa using h5
                have y2 : w2.cell? ⟨pb, 3, none⟩ = some (.slice (some ⟨gb, 0, none⟩) (i' + 1) vcap) := cell_of_row _ _ 3 _ _ _ HC.out.box
                obtain ⟨xa, xc, hxe, hxr⟩ := own_form HX.out
                injection hxe with e1 e2 e3
                have HQL := hid hql
                have hqn := HSM.out q hqm
                have hxn := HXL.out
                have HLE := hid (less_i q y qa xa qc xc w2 (by omega) (by omega) hqr hxr)
                obtain ⟨QL, hQL⟩ : ∃ n, n = q.length := ⟨_, rfl⟩
                rw [← hQL] at y3 HLE
                rw [← e1, ← e2, ← e3] at HLE
                have hq5 : QL ≤ maxLen := by unfold maxLen; omega
                clear hr hw hq hqm hql hqv hqr hQL hxr hqn hxn hq0 e1 e2 e3
                have e7 : IntKind.i64.wrap (i' : Int) = (i' : Int) := by rw [IntKind.wrap_i64]; omega
                have g3 : (0 : Int) < (i' : Int) + 1 := by omega
                go_wp2_with fail
                refine HLE.out.mono ?_
                rintro e w3 ⟨rfl, l3⟩
                have HC := hid (HC.out.low l3)
                have HX := hid (row_low HX.out l3)
                have HD1 := hid (HD1.out.low' l3)
                clear c2 y2 y3 l3 HLE e7
                cases hlz : ltL ltI q y with
                | true =>
                  have HOK := hid (show okB (ltL ltI) sl.getLast? y = true from by rw [HQL.out]; exact hlz)
                  clear hlz
                  go_upto_region 18 with fail
                  obtain ⟨vs, hr, hw⟩ := HC.out.ns
                  have HRR := hid hr
                  have HWW := hid hw
                  clear hr hw
                  have y2 : w3.cell? ⟨pb, 3, none⟩ = some (.slice (some ⟨gb, 0, none⟩) (i' + 1) vcap) := cell_of_row _ _ 3 _ _ _ HC.out.box
                  have HBS := hid (show w0.heap.size ≤ w3.heap.size from HC.out.bl.size)
                  have hil : (i' + 1) ≤ 1000000 := by omega
                  have HRI := hid (show w3.ownsRow w0.heap.size 25 1 (.slice (some ⟨gb, 0, none⟩) (i' + 1) vcap) ((i' + 1)) vs from by have h := HRR.out; simp only at h; rw [HLL.out] at h; exact h)
                  go_wp2_with (at_builtin; go_loud (refine wpl_is rfl _ _ rfl w0.heap.size (.slice (some ⟨gb, 0, none⟩) (i' + 1) vcap) ((i' + 1)) vs (.slice xa0 xn0 xc0) rfl HRI.out rfl hil HBS.out rfl ?_))
                  intro v' w4 ho' hg'
                  obtain ⟨va', vn', vc', rfl⟩ := slice_own ho'
                  have HST := hid (cst_ns HC.out HRR.out HWW.out (Below.refl _ _) HX.out HBB.out (by rw [show (⟨t, u, ss, sl, [], d, lo⟩ : Pg).ns.length = (i' + 1) from HLL.out]; exact ho') hg')
                  have HD4 := hid (dm_grow HD1.out HRR.out (by decide) HLW.out HN0.out hg')
                  have d2 : w4.cell? ⟨pb, 3, none⟩ = some (.slice (some ⟨gb, 0, none⟩) (i' + 1) vcap) := cell_of_row _ _ 3 _ _ _ HST.out.1
                  have f2 : w4.frozen? ⟨pb, 3, none⟩ = false := frz_row HST.out.1 3
                  have HC4 := hid HST.out.2.2.2
                  have HD5 := hid (dm_new (j := 3) (v := .slice va' vn' vc') HD4.out HST.out.1 HGP.out)
                  clear ho' hg' y2 HST HRI HRR HWW HBS HX HBB HD1 HC
                  go_wp2_with fail
                  exact ⟨⟨(i' + 1) + 1, sl ++ [y], .slice va' vn' vc', by omega, by simp [HLL.out], by go_num, HC4, hid (lst_yes HE.out HIN.out HRR0.out HOK.out HD5.out), hid (snoc_le HSM.out HXL.out)⟩, by simp [intOf]; omega⟩
                | false =>
                  have HOK := hid (show okB (ltL ltI) sl.getLast? y = false from by rw [HQL.out]; exact hlz)
                  clear hlz
                  have HFA := hid (dfail_any HD1.out 204 kk)
                  go_wp2_with fail
                  refine HFA.out.mono ?_
                  rintro e w5 ⟨rfl, h1, h2⟩
                  have HC := hid (cst_gb HC.out HD1.out.box h2 HN0.out HN1.out HN2.out)
                  have HX := hid (HX.out.kept h2 (row_box HX.out HD1.out.box (by decide)))
                  have HD1 := hid h1
                  clear h1 h2 HFA
                  go_upto_region 18 with fail
                  obtain ⟨vs, hr, hw⟩ := HC.out.ns
                  have HRR := hid hr
                  have HWW := hid hw
                  clear hr hw
                  have y2 : w5.cell? ⟨pb, 3, none⟩ = some (.slice (some ⟨gb, 0, none⟩) (i' + 1) vcap) := cell_of_row _ _ 3 _ _ _ HC.out.box
                  have HBS := hid (show w0.heap.size ≤ w5.heap.size from HC.out.bl.size)
                  have hil : (i' + 1) ≤ 1000000 := by omega
                  have HRI := hid (show w5.ownsRow w0.heap.size 25 1 (.slice (some ⟨gb, 0, none⟩) (i' + 1) vcap) ((i' + 1)) vs from by have h := HRR.out; simp only at h; rw [HLL.out] at h; exact h)
                  go_wp2_with (at_builtin; go_loud (refine wpl_is rfl _ _ rfl w0.heap.size (.slice (some ⟨gb, 0, none⟩) (i' + 1) vcap) ((i' + 1)) vs (.slice xa0 xn0 xc0) rfl HRI.out rfl hil HBS.out rfl ?_))
                  intro v' w4 ho' hg'
                  obtain ⟨va', vn', vc', rfl⟩ := slice_own ho'
                  have HST := hid (cst_ns HC.out HRR.out HWW.out (Below.refl _ _) HX.out HBB.out (by rw [show (⟨t, u, ss, sl, [], d, lo⟩ : Pg).ns.length = (i' + 1) from HLL.out]; exact ho') hg')
                  have HD4 := hid (dm_grow HD1.out HRR.out (by decide) HLW.out HN0.out hg')
                  have d2 : w4.cell? ⟨pb, 3, none⟩ = some (.slice (some ⟨gb, 0, none⟩) (i' + 1) vcap) := cell_of_row _ _ 3 _ _ _ HST.out.1
                  have f2 : w4.frozen? ⟨pb, 3, none⟩ = false := frz_row HST.out.1 3
                  have HC4 := hid HST.out.2.2.2
                  have HD5 := hid (dm_new (j := 3) (v := .slice va' vn' vc') HD4.out HST.out.1 HGP.out)
                  clear ho' hg' y2 HST HRI HRR HWW HBS HX HBB HD1 HC
                  go_wp2_with fail
                  exact ⟨⟨(i' + 1) + 1, sl ++ [y], .slice va' vn' vc', by omega, by simp [HLL.out], by go_num, HC4, hid (lst_no HE.out HIN.out HRR0.out HOK.out HD5.out _), hid (snoc_le HSM.out HXL.out)⟩, by simp [intOf]; omega⟩
            · have HRR0 := hid hr
              have HD1 := hid hd
              have HC0 := hid hc
              have e1 : ((c : Int) != 0) = true := by simpa using hc
              have e2 : ((c : Int) == 0) = false := by simpa using hc
              have c2 : w2.cell? ⟨g, 2, none⟩ = some (.int .i64 (c : Int)) := cell_of_row _ _ 2 _ _ _ hd.box
              clear hr hd hc
              by_cases hi0 : i = 0
              · have g3 : ¬ (0 : Int) < (i : Int) := by omega
                have g4 : (i : Int) ≤ 0 := by omega
                clear hi0
                go_upto_region 18 with fail
                clear c2 g3 g4
                obtain ⟨vs, hr, hw⟩ := HC.out.ns
                have HRR := hid hr
                have HWW := hid hw
                clear hr hw
                obtain ⟨ya, yn, yc, rfl⟩ := slice_own HRR.out
                have y2 : w2.cell? ⟨pb, 3, none⟩ = some (.slice ya yn yc) := cell_of_row _ _ 3 _ _ _ HC.out.box
                have HBS := hid (show w0.heap.size ≤ w2.heap.size from HC.out.bl.size)
                have hil : i ≤ 1000000 := by omega
                have HRI := hid (show w2.ownsRow w0.heap.size 25 1 (.slice ya yn yc) (i) vs from by have h := HRR.out; simp only at h; rw [HLL.out] at h; exact h)
                go_wp2_with (at_builtin; go_loud (refine wpl_is rfl _ _ rfl w0.heap.size (.slice ya yn yc) (i) vs (.slice xa0 xn0 xc0) rfl HRI.out rfl hil HBS.out rfl ?_))
                intro v' w4 ho' hg'
                obtain ⟨va', vn', vc', rfl⟩ := slice_own ho'
                have HST := hid (cst_ns HC.out HRR.out HWW.out (Below.refl _ _) HX.out HBB.out (by rw [show (⟨t, u, ss, sl, [], d, lo⟩ : Pg).ns.length = i from HLL.out]; exact ho') hg')
                have HD4 := hid (dm_grow HD1.out HRR.out (by decide) HLW.out HN0.out hg')
                have d2 : w4.cell? ⟨pb, 3, none⟩ = some (.slice ya yn yc) := cell_of_row _ _ 3 _ _ _ HST.out.1
                have f2 : w4.frozen? ⟨pb, 3, none⟩ = false := frz_row HST.out.1 3
                have HC4 := hid HST.out.2.2.2
                have HD5 := hid (dm_new (j := 3) (v := .slice va' vn' vc') HD4.out HST.out.1 HGP.out)
                clear ho' hg' y2 HST HRI HRR HWW HBS HX HBB HD1 HC
                go_wp2_with fail
                exact ⟨⟨i + 1, sl ++ [x], .slice va' vn' vc', by omega, by simp [HLL.out], by go_num, HC4, hid (lst_bad HE.out HIN.out HRR0.out HC0.out HD5.out _), hid (snoc_le HSM.out HXL.out)⟩, by simp [intOf]; omega⟩
              · have g3 : (0 : Int) < (i : Int) := by omega
                clear hi0
                go_upto_region 18 with fail
                clear c2 g3
                obtain ⟨vs, hr, hw⟩ := HC.out.ns
                have HRR := hid hr
                have HWW := hid hw
                clear hr hw
                obtain ⟨ya, yn, yc, rfl⟩ := slice_own HRR.out
                have y2 : w2.cell? ⟨pb, 3, none⟩ = some (.slice ya yn yc) := cell_of_row _ _ 3 _ _ _ HC.out.box
                have HBS := hid (show w0.heap.size ≤ w2.heap.size from HC.out.bl.size)
                have hil : i ≤ 1000000 := by omega
                have HRI := hid (show w2.ownsRow w0.heap.size 25 1 (.slice ya yn yc) (i) vs from by have h := HRR.out; simp only at h; rw [HLL.out] at h; exact h)
                go_wp2_with (at_builtin; go_loud (refine wpl_is rfl _ _ rfl w0.heap.size (.slice ya yn yc) (i) vs (.slice xa0 xn0 xc0) rfl HRI.out rfl hil HBS.out rfl ?_))
                intro v' w4 ho' hg'
                obtain ⟨va', vn', vc', rfl⟩ := slice_own ho'
                have HST := hid (cst_ns HC.out HRR.out HWW.out (Below.refl _ _) HX.out HBB.out (by rw [show (⟨t, u, ss, sl, [], d, lo⟩ : Pg).ns.length = i from HLL.out]; exact ho') hg')
                have HD4 := hid (dm_grow HD1.out HRR.out (by decide) HLW.out HN0.out hg')
                have d2 : w4.cell? ⟨pb, 3, none⟩ = some (.slice ya yn yc) := cell_of_row _ _ 3 _ _ _ HST.out.1
                have f2 : w4.frozen? ⟨pb, 3, none⟩ = false := frz_row HST.out.1 3
                have HC4 := hid HST.out.2.2.2
                have HD5 := hid (dm_new (j := 3) (v := .slice va' vn' vc') HD4.out HST.out.1 HGP.out)
                clear ho' hg' y2 HST HRI HRR HWW HBS HX HBB HD1 HC
                go_wp2_with fail
                exact ⟨⟨i + 1, sl ++ [x], .slice va' vn' vc', by omega, by simp [HLL.out], by go_num, HC4, hid (lst_bad HE.out HIN.out HRR0.out HC0.out HD5.out _), hid (snoc_le HSM.out HXL.out)⟩, by simp [intOf]; omega⟩
          · have HJ1 := hid (show Js g a cap B wr res2 (fun x => x = sl ∧ sl.length = n2) True from Or.inr ⟨c, p, kk, hE, hc0, trivial, hd⟩)
            have e1 : ((c : Int) != 0) = true := by simpa using hc0
            have e2 : ((c : Int) == 0) = false := by simpa using hc0
            have c2 : wr.cell? ⟨g, 2, none⟩ = some (.int .i64 (c : Int)) := cell_of_row _ _ 2 _ _ _ hd.box
            clear hc0 hd hE hl HS HLL HSM
            obtain ⟨va, vn, vc, rfl⟩ : ∃ va vn vc, v = .slice va vn vc := by
              obtain ⟨us, hu, _⟩ := HC.out.ns
              exact slice_own hu
            go_wp2_with fail
            go_end0
            refine ⟨rfl, _, _, _, _, HC.out, ?_⟩
            rw [HT3.out]
            exact js_pair HJ1.out
        · obtain rfl : i = n2 := by omega
          have g1 : ¬ (i : Int) < (i : Int) := by omega
          have HJ1 := hid (lst_js HS.out hl)
          clear hl HS HLL HSM hlt
          obtain ⟨va, vn, vc, rfl⟩ : ∃ va vn vc, v = .slice va vn vc := by
            obtain ⟨us, hu, _⟩ := HC.out.ns
            exact slice_own hu
          go_wp2_with fail
          go_end0
          refine ⟨rfl, _, _, _, _, HC.out, ?_⟩
          rw [HT3.out]
          exact js_pair HJ1.out
end Go.Proofs.Ytnclpdgbjefpmaa.L
