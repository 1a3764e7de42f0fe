import Derived.Deep.RegionWith
import Derived.Test.YtnclpdgbjefpmaaGc
namespace Go.Proofs.Ytnclpdgbjefpmaa.L
open Go.RowKit
set_option linter.unusedVariables false
set_option linter.unusedSimpArgs false
theorem pst_app {g : Nat} {a : Option Addr} {cap : Nat} {B : List UInt8} {W w1 w2 : World} {rb ob k room : Nat} {v0 v1 v2 v3 : Value} {a4 a5 : Option Addr} {q4 c4 q5 c5 : Nat} {t : List ByteArray} {u : List Int} {s : List (List ByteArray)} {ns : List (List Int)} {c : List Ins} {d lo : Int} {x : Ins}
    (h : Pst g a cap B W w1 rb ob k room v0 v1 v2 v3 (.slice a4 q4 c4) ⟨t, u, s, ns, c, d, lo⟩) (hg' : w1.grownBy w2 (Value.slice a4 q4 c4).ownBlock) (ho1 : w2.ownsRow W.heap.size 68 4 (.slice a5 q5 c5) (c.length + 1) (insX c ++ (insV x).toList)) :
    w2.heap[ob]? = some (.cells #[v0, v1, v2, v3, .slice a4 q4 c4, .int .i64 d, .int .i64 lo] 30 (0, 0)) ∧ Pst g a cap B W (w2.setCell ⟨ob, 4, none⟩ (.slice a5 q5 c5)) rb ob k room v0 v1 v2 v3 (.slice a5 q5 c5) ⟨t, u, s, ns, c ++ [x], d, lo⟩ := by
  have HO2 := h.own.grow (c := c ++ [x]) hg' (by rw [insX_snoc, List.length_append]; exact ho1)
  have HBX : w2.heap[ob]? = some (.cells #[v0, v1, v2, v3, .slice a4 q4 c4, .int .i64 d, .int .i64 lo] 30 (0, 0)) := (hg'.block ob (lt_blk h.box) (fun e => by
    rcases row_box h.own.cd h.box (by decide) with h1 | h1
    · rw [h1] at e; cases e
    · exact h1 e.symm)).trans h.box
  have HBR := (hg'.block rb (lt_blk h.res) (fun e => by
    rcases row_box h.own.cd h.res (by decide) with h1 | h1
    · rw [h1] at e; cases e
    · exact h1 e.symm)).trans h.res
  refine ⟨HBX, rm_new (rm_row h.rm h.own.cd h.gl hg') HBX (by have := h.gl; have := h.nob; omega), gb_new (gb_row h.own.cd h.gb hg') HBX h.nob, ?_, ?_, HO2.box HBX (by decide) (by decide) (by decide) (by decide) (by decide) (gb_set HBX 4 _), h.gl, h.nrb, h.nob, h.ne⟩
  · rw [setCell_eq_setRow _ _ _ _ _ _ _ HBX, setRow_heap _ _ _ _ _ _ HBX]; rfl
  · rw [setCell_eq_setRow _ _ _ _ _ _ _ HBX, setRow_other _ _ _ _ h.ne]; exact HBR
set_option maxHeartbeats 4000000 in
set_option maxRecDepth 100000 in
theorem rprog_any {g : Nat} {a : Option Addr} {cap : Nat} {B : List UInt8} {W : World} (h : Rm g a cap B W 0 4096) :
    Calls Try.prog 37 #[.pointer (some ⟨g, 0, none⟩)] W (RoG g W (dec B)) := by
  obtain ⟨res, hres⟩ : ∃ r, r = dec B := ⟨_, rfl⟩
  rw [← hres]
  rw [dec_fin, pg_P] at hres
  unfold rd2 at hres
  have he := hres.symm
  clear hres
  have HP0 := hid (Pst.new h)
  clear h
  obtain ⟨ob, hob⟩ : ∃ ob, ob = W.heap.size + 1 := ⟨_, rfl⟩
  obtain ⟨rb, hrb⟩ : ∃ rb, rb = W.heap.size := ⟨_, rfl⟩
  rw [← hob, ← hrb] at HP0
  have he1 := hid he
  clear he
  go_enter Try.func37, Try.ntmps37
  go_upto_region 2 with fail
  try simp only [World.size_alloc]
  rw [← hob, ← hrb]
  clear hob hrb
  generalize ((W.alloc (.cells #[.slice none 0 0, .slice none 0 0, .slice none 0 0, .slice none 0 0, .slice none 0 0, .int .i64 0, .int .i64 0] 30)).alloc (.cells #[.slice none 0 0, .slice none 0 0, .slice none 0 0, .slice none 0 0, .slice none 0 0, .int .i64 0, .int .i64 0] 30)) = W1 at *
  have he := he1.out
  clear he1
  have HT := hid (rhead_any HP0.out.rm)
  obtain ⟨r0, hr0⟩ : ∃ r0, r0 = headC.P B 0 := ⟨_, rfl⟩
  rw [← hr0] at HT he
  clear hr0
  rcases r0 with ⟨c, q⟩ | ⟨x, k1⟩
  · have HE3 := hid (show res = .error (c, q) from he.symm)
    clear he
    go_wp2_with fail
    refine HT.out.mono ?_
    rintro e w1 ⟨NN, rfl, h3, h4⟩
    have HF := hid h3
    have HGG := hid (HP0.out.gb.trans h4)
    clear h3 h4
    go_wp2_with fail
    refine ⟨rfl, ?_⟩
    rw [HE3.out]
    exact ⟨NN, rfl, HF.out, HGG.out⟩
  have he : fin B (rd3 B k1) = res := he
  unfold rd3 at he
  have HEE := hid he
  clear he
  go_wp2_with fail
  refine HT.out.mono ?_
  rintro e W2 ⟨v, rfl, rfl, h1, h2⟩
  have HP1 := hid (HP0.out.call h1 h2)
  clear h1 h2 HT
  have he := HEE.out
  clear HEE
  have HT := hid (rcount_any HP1.out.rm 0 128 (by decide) (by decide))
  obtain ⟨r0, hr0⟩ : ∃ r0, r0 = cntD B k1 0 128 9 0 k1 0 := ⟨_, rfl⟩
  rw [← hr0] at HT he
  clear hr0
  rcases r0 with ⟨c, q⟩ | ⟨d, k2⟩
  · have HE3 := hid (show res = .error (c, q) from he.symm)
    clear he
    go_wp2_with fail
    refine HT.out.mono ?_
    rintro e w1 ⟨NN, rfl, h3, h4⟩
    have HF := hid h3
    have HGG := hid (HP1.out.gb.trans h4)
    clear h3 h4
    go_wp2_with fail
    refine ⟨rfl, ?_⟩
    rw [HE3.out]
    exact ⟨NN, rfl, HF.out, HGG.out⟩
  have he : fin B (rd4 B (d : Int) k2) = res := he
  unfold rd4 at he
  have HEE := hid he
  clear he
  go_wp2_with fail
  refine HT.out.mono ?_
  rintro e w1 ⟨v, rfl, rfl, h1, h2⟩
  have HQ := hid (HP1.out.call h1 h2)
  clear h1 h2 HT
  have fz : w1.frozen? ⟨ob, 5, none⟩ = false := frz_row HQ.out.box 5
  have cc : w1.cell? ⟨ob, 5, none⟩ = some (.int .i64 0) := cell_of_row _ _ 5 _ _ _ HQ.out.box
  go_upto_region 4 with fail
  have HP2 := hid (HQ.out.set 5 (.int .i64 (d : Int)) (q := ⟨[], [], [], [], [], (d : Int), 0⟩) (ow_0 _ _ _ _) rfl)
  clear fz cc
  generalize w1.setCell ⟨ob, 5, none⟩ (.int .i64 (d : Int)) = W2 at *
  have he := HEE.out
  clear HEE HQ
  have HT := hid (rcount_any HP2.out.rm 0 1024 (by decide) (by decide))
  obtain ⟨r0, hr0⟩ : ∃ r0, r0 = cntD B k2 0 1024 9 0 k2 0 := ⟨_, rfl⟩
  rw [← hr0] at HT he
  clear hr0
  rcases r0 with ⟨c, q⟩ | ⟨lo, k3⟩
  · have HE3 := hid (show res = .error (c, q) from he.symm)
    clear he
    go_wp2_with fail
    refine HT.out.mono ?_
    rintro e w1 ⟨NN, rfl, h3, h4⟩
    have HF := hid h3
    have HGG := hid (HP2.out.gb.trans h4)
    clear h3 h4
    go_wp2_with fail
    refine ⟨rfl, ?_⟩
    rw [HE3.out]
    exact ⟨NN, rfl, HF.out, HGG.out⟩
  have he : fin B (rd5 B (d : Int) (lo : Int) 4096 k3) = res := he
  unfold rd5 at he
  have HEE := hid he
  clear he
  go_wp2_with fail
  refine HT.out.mono ?_
  rintro e w1 ⟨v, rfl, rfl, h1, h2⟩
  have HQ := hid (HP2.out.call h1 h2)
  clear h1 h2 HT
  have fz : w1.frozen? ⟨ob, 6, none⟩ = false := frz_row HQ.out.box 6
  have cc : w1.cell? ⟨ob, 6, none⟩ = some (.int .i64 0) := cell_of_row _ _ 6 _ _ _ HQ.out.box
  go_upto_region 5 with fail
  have HP3 := hid (HQ.out.set 6 (.int .i64 (lo : Int)) (q := ⟨[], [], [], [], [], (d : Int), (lo : Int)⟩) (ow_0 _ _ _ _) rfl)
  clear fz cc
  generalize w1.setCell ⟨ob, 6, none⟩ (.int .i64 (lo : Int)) = W3 at *
  have he := HEE.out
  clear HEE HQ
  have HT := hid (rpool_any HP3.out.rm)
  obtain ⟨r0, hr0⟩ : ∃ r0, r0 = cntD B k3 0 (4096) 9 0 k3 0 := ⟨_, rfl⟩
  rw [← hr0] at HT he
  have HR0 := hid hr0
  clear hr0
  rcases r0 with ⟨c, q⟩ | ⟨n0, k4⟩
  · have HE3 := hid (show res = .error (c, q) from he.symm)
    clear he
    go_wp2_with fail
    refine HT.out.mono ?_
    rintro e w1 ⟨NN, rfl, h3, h4⟩
    have HF := hid h3
    have HGG := hid (HP3.out.gb.trans h4)
    clear h3 h4
    go_wp2_with fail
    refine ⟨rfl, ?_⟩
    rw [HE3.out]
    exact ⟨NN, rfl, HF.out, HGG.out⟩
  have hn : n0 ≤ 4096 := by have := (cntD_le HR0.out.symm).2; have := HP3.out.rm.rm; omega
  have HRS := hid (fun (w : World) (hw : Rm g a cap B w k4 (4096 - n0)) => rising_s hw n0 hn)
  clear HR0 hn
  have he : fin B (dbnd ((textC.ris ltS n0 .none).P B k4) fun t k => rd6 B (d : Int) (lo : Int) t (4096 - n0) k) = res := he
  obtain ⟨r1, hr1⟩ : ∃ r1, r1 = (textC.ris ltS n0 .none).P B k4 := ⟨_, rfl⟩
  rw [← hr1] at he HRS
  clear hr1
  have HEE := hid he
  clear he
  go_wp2_with fail
  refine HT.out.mono ?_
  rintro e w1 ⟨v, rfl, rfl, h1, h2⟩
  have HQ := hid (HP3.out.call h1 h2)
  clear h1 h2 HT
  have HT := hid (HRS.out w1 HQ.out.rm)
  clear HRS
  have hmf : ∀ (fn : Fn) (first cap : Array Value) (w : World), (Instr.makeFunc fn first cap).run Try.prog w = .ok (.func fn first cap) w := fun _ _ _ _ => rfl
  rcases r1 with ⟨c, q⟩ | ⟨t, k5⟩
  · have HE3 := hid (show res = .error (c, q) from HEE.out.symm)
    clear HEE
    go_wp2_with fail
    refine HT.out.mono ?_
    rintro e w2 ⟨NN, rfl, h3, h4⟩
    have HF := hid h3
    have HGG := hid (HQ.out.gb.trans h4)
    clear h3 h4
    go_wp2_with fail
    refine ⟨rfl, ?_⟩
    rw [HE3.out]
    exact ⟨NN, rfl, HF.out, HGG.out⟩
  have he : fin B (rd6 B (d : Int) (lo : Int) t (4096 - n0) k5) = res := HEE.out
  unfold rd6 at he
  have HEE := hid he
  clear he
  go_wp2_with fail
  refine HT.out.mono ?_
  rintro e w2 ⟨v, rfl, h0, h1, h2⟩
  have HQ2 := hid (HQ.out.call h1 h2)
  have HV := hid h0
  have HSZ := hid (show W.heap.size ≤ w1.heap.size from HQ.out.gb.size)
  clear h1 h2 HT h0
  obtain ⟨va, vn, vc, rfl⟩ : ∃ a1 a2 a3, v = .slice a1 a2 a3 := by
    rcases HV.out.2 with ⟨e, _⟩ | ⟨_, _, _, e, _⟩
    · exact ⟨_, _, _, e⟩
    · exact ⟨_, _, _, e⟩
  have fz : w2.frozen? ⟨ob, 0, none⟩ = false := frz_row HQ2.out.box 0
  have cc : w2.cell? ⟨ob, 0, none⟩ = some (.slice none 0 0) := cell_of_row _ _ 0 _ _ _ HQ2.out.box
  go_upto_region 6 with fail
  have HP4 := hid (HQ2.out.set 0 (.slice va vn vc) (q := ⟨t, [], [], [], [], (d : Int), (lo : Int)⟩) (ow_1 HV.out HSZ.out) rfl)
  clear fz cc
  generalize w2.setCell ⟨ob, 0, none⟩ (.slice va vn vc) = W4 at *
  have HS0 := hid (show ∃ a1 a2 a3, (Value.slice va vn vc) = .slice a1 a2 a3 from ⟨_, _, _, rfl⟩)
  generalize hvv : Value.slice va vn vc = v0 at *
  clear hvv
  have he := HEE.out
  clear HEE HQ HQ2 HV HSZ hmf
  have HT := hid (rpool_any HP4.out.rm)
  obtain ⟨r0, hr0⟩ : ∃ r0, r0 = cntD B k5 0 (4096 - n0) 9 0 k5 0 := ⟨_, rfl⟩
  rw [← hr0] at HT he
  have HR0 := hid hr0
  clear hr0
  rcases r0 with ⟨c, q⟩ | ⟨n1, k6⟩
  · have HE3 := hid (show res = .error (c, q) from he.symm)
    clear he
    go_wp2_with fail
    refine HT.out.mono ?_
    rintro e w1 ⟨NN, rfl, h3, h4⟩
    have HF := hid h3
    have HGG := hid (HP4.out.gb.trans h4)
    clear h3 h4
    go_wp2_with fail
    refine ⟨rfl, ?_⟩
    rw [HE3.out]
    exact ⟨NN, rfl, HF.out, HGG.out⟩
  have hn : n1 ≤ 4096 := by have := (cntD_le HR0.out.symm).2; have := HP4.out.rm.rm; omega
  have HRS := hid (fun (w : World) (hw : Rm g a cap B w k6 (4096 - n0 - n1)) => rising_i hw n1 hn)
  clear HR0 hn
  have he : fin B (dbnd ((sgnC.ris ltI n1 .none).P B k6) fun u k => rd7 B (d : Int) (lo : Int) t u (4096 - n0 - n1) k) = res := he
  obtain ⟨r1, hr1⟩ : ∃ r1, r1 = (sgnC.ris ltI n1 .none).P B k6 := ⟨_, rfl⟩
  rw [← hr1] at he HRS
  clear hr1
  have HEE := hid he
  clear he
  go_wp2_with fail
  refine HT.out.mono ?_
  rintro e w1 ⟨v, rfl, rfl, h1, h2⟩
  have HQ := hid (HP4.out.call h1 h2)
  clear h1 h2 HT
  have HT := hid (HRS.out w1 HQ.out.rm)
  clear HRS
  have hmf : ∀ (fn : Fn) (first cap : Array Value) (w : World), (Instr.makeFunc fn first cap).run Try.prog w = .ok (.func fn first cap) w := fun _ _ _ _ => rfl
  rcases r1 with ⟨c, q⟩ | ⟨u, k7⟩
  · have HE3 := hid (show res = .error (c, q) from HEE.out.symm)
    clear HEE
    go_wp2_with fail
    refine HT.out.mono ?_
    rintro e w2 ⟨NN, rfl, h3, h4⟩
    have HF := hid h3
    have HGG := hid (HQ.out.gb.trans h4)
    clear h3 h4
    go_wp2_with fail
    refine ⟨rfl, ?_⟩
    rw [HE3.out]
    exact ⟨NN, rfl, HF.out, HGG.out⟩
  have he : fin B (rd7 B (d : Int) (lo : Int) t u (4096 - n0 - n1) k7) = res := HEE.out
  unfold rd7 at he
  have HEE := hid he
  clear he
  go_wp2_with fail
  refine HT.out.mono ?_
  rintro e w2 ⟨v, rfl, h0, h1, h2⟩
  have HQ2 := hid (HQ.out.call h1 h2)
  have HV := hid h0
  have HSZ := hid (show W.heap.size ≤ w1.heap.size from HQ.out.gb.size)
  clear h1 h2 HT h0
  obtain ⟨va, vn, vc, rfl⟩ : ∃ a1 a2 a3, v = .slice a1 a2 a3 := by
    rcases HV.out.2 with ⟨e, _⟩ | ⟨_, _, _, e, _⟩
    · exact ⟨_, _, _, e⟩
    · exact ⟨_, _, _, e⟩
  have fz : w2.frozen? ⟨ob, 1, none⟩ = false := frz_row HQ2.out.box 1
  have cc : w2.cell? ⟨ob, 1, none⟩ = some (.slice none 0 0) := cell_of_row _ _ 1 _ _ _ HQ2.out.box
  go_upto_region 7 with fail
  have HP5 := hid (HQ2.out.set 1 (.slice va vn vc) (q := ⟨t, u, [], [], [], (d : Int), (lo : Int)⟩) (ow_2 HQ2.out.own HV.out HSZ.out) rfl)
  clear fz cc
  generalize w2.setCell ⟨ob, 1, none⟩ (.slice va vn vc) = W6 at *
  have HS1 := hid (show ∃ a1 a2 a3, (Value.slice va vn vc) = .slice a1 a2 a3 from ⟨_, _, _, rfl⟩)
  generalize hvv : Value.slice va vn vc = v1 at *
  clear hvv
  have he := HEE.out
  clear HEE HQ HQ2 HV HSZ hmf
  have HT := hid (rpool_any HP5.out.rm)
  obtain ⟨r0, hr0⟩ : ∃ r0, r0 = cntD B k7 0 (4096 - n0 - n1) 9 0 k7 0 := ⟨_, rfl⟩
  rw [← hr0] at HT he
  have HR0 := hid hr0
  clear hr0
  rcases r0 with ⟨c, q⟩ | ⟨n2, k8⟩
  · have HE3 := hid (show res = .error (c, q) from he.symm)
    clear he
    go_wp2_with fail
    refine HT.out.mono ?_
    rintro e w1 ⟨NN, rfl, h3, h4⟩
    have HF := hid h3
    have HGG := hid (HP5.out.gb.trans h4)
    clear h3 h4
    go_wp2_with fail
    refine ⟨rfl, ?_⟩
    rw [HE3.out]
    exact ⟨NN, rfl, HF.out, HGG.out⟩
  have hn : n2 ≤ 4096 := by have := (cntD_le HR0.out.symm).2; have := HP5.out.rm.rm; omega
  have HRS := hid (fun (w : World) (hw : Rm g a cap B w k8 (4096 - n0 - n1 - n2)) => rising_ss hw n2 hn)
  clear HR0 hn
  have he : fin B (dbnd ((setC.ris (ltL ltS) n2 .none).P B k8) fun s k => rd8 B (d : Int) (lo : Int) t u s (4096 - n0 - n1 - n2) k) = res := he
  obtain ⟨r1, hr1⟩ : ∃ r1, r1 = (setC.ris (ltL ltS) n2 .none).P B k8 := ⟨_, rfl⟩
  rw [← hr1] at he HRS
  clear hr1
  have HEE := hid he
  clear he
  go_wp2_with fail
  refine HT.out.mono ?_
  rintro e w1 ⟨v, rfl, rfl, h1, h2⟩
  have HQ := hid (HP5.out.call h1 h2)
  clear h1 h2 HT
  have HT := hid (HRS.out w1 HQ.out.rm)
  clear HRS
  have hmf : ∀ (fn : Fn) (first cap : Array Value) (w : World), (Instr.makeFunc fn first cap).run Try.prog w = .ok (.func fn first cap) w := fun _ _ _ _ => rfl
  rcases r1 with ⟨c, q⟩ | ⟨s, k9⟩
  · have HE3 := hid (show res = .error (c, q) from HEE.out.symm)
    clear HEE
    go_wp2_with fail
    refine HT.out.mono ?_
    rintro e w2 ⟨NN, rfl, h3, h4⟩
    have HF := hid h3
    have HGG := hid (HQ.out.gb.trans h4)
    clear h3 h4
    go_wp2_with fail
    refine ⟨rfl, ?_⟩
    rw [HE3.out]
    exact ⟨NN, rfl, HF.out, HGG.out⟩
  have he : fin B (rd8 B (d : Int) (lo : Int) t u s (4096 - n0 - n1 - n2) k9) = res := HEE.out
  unfold rd8 at he
  have HEE := hid he
  clear he
  go_wp2_with fail
  refine HT.out.mono ?_
  rintro e w2 ⟨v, rfl, h0, h1, h2⟩
  have HQ2 := hid (HQ.out.call h1 h2)
  have HV := hid h0
  have HSZ := hid (show W.heap.size ≤ w1.heap.size from HQ.out.gb.size)
  clear h1 h2 HT h0
  obtain ⟨va, vn, vc, rfl⟩ : ∃ a1 a2 a3, v = .slice a1 a2 a3 := by
    obtain ⟨_, hr, _⟩ := HV.out
    rcases hr.2 with ⟨e, _⟩ | ⟨_, _, _, e, _⟩
    · exact ⟨_, _, _, e⟩
    · exact ⟨_, _, _, e⟩
  have fz : w2.frozen? ⟨ob, 2, none⟩ = false := frz_row HQ2.out.box 2
  have cc : w2.cell? ⟨ob, 2, none⟩ = some (.slice none 0 0) := cell_of_row _ _ 2 _ _ _ HQ2.out.box
  go_upto_region 8 with fail
  have HP6 := hid (HQ2.out.set 2 (.slice va vn vc) (q := ⟨t, u, s, [], [], (d : Int), (lo : Int)⟩) (ow_3 HQ2.out.own HV.out HSZ.out (fun k hk => (HQ.out.own.tx.lt k hk).2)) rfl)
  clear fz cc
  generalize w2.setCell ⟨ob, 2, none⟩ (.slice va vn vc) = W8 at *
  have HS2 := hid (show ∃ a1 a2 a3, (Value.slice va vn vc) = .slice a1 a2 a3 from ⟨_, _, _, rfl⟩)
  generalize hvv : Value.slice va vn vc = v2 at *
  clear hvv
  have he := HEE.out
  clear HEE HQ HQ2 HV HSZ hmf
  have HT := hid (rpool_any HP6.out.rm)
  obtain ⟨r0, hr0⟩ : ∃ r0, r0 = cntD B k9 0 (4096 - n0 - n1 - n2) 9 0 k9 0 := ⟨_, rfl⟩
  rw [← hr0] at HT he
  have HR0 := hid hr0
  clear hr0
  rcases r0 with ⟨c, q⟩ | ⟨n3, k10⟩
  · have HE3 := hid (show res = .error (c, q) from he.symm)
    clear he
    go_wp2_with fail
    refine HT.out.mono ?_
    rintro e w1 ⟨NN, rfl, h3, h4⟩
    have HF := hid h3
    have HGG := hid (HP6.out.gb.trans h4)
    clear h3 h4
    go_wp2_with fail
    refine ⟨rfl, ?_⟩
    rw [HE3.out]
    exact ⟨NN, rfl, HF.out, HGG.out⟩
  have hn : n3 ≤ 4096 := by have := (cntD_le HR0.out.symm).2; have := HP6.out.rm.rm; omega
  have HRS := hid (fun (w : World) (hw : Rm g a cap B w k10 (4096 - n0 - n1 - n2 - n3)) => rising_is hw n3 hn)
  clear HR0 hn
  have he : fin B (dbnd ((nsetC.ris (ltL ltI) n3 .none).P B k10) fun ns k => rd9 B (d : Int) (lo : Int) t u s ns k) = res := he
  obtain ⟨r1, hr1⟩ : ∃ r1, r1 = (nsetC.ris (ltL ltI) n3 .none).P B k10 := ⟨_, rfl⟩
  rw [← hr1] at he HRS
  clear hr1
  have HEE := hid he
  clear he
  go_wp2_with fail
  refine HT.out.mono ?_
  rintro e w1 ⟨v, rfl, rfl, h1, h2⟩
  have HQ := hid (HP6.out.call h1 h2)
  clear h1 h2 HT
  have HT := hid (HRS.out w1 HQ.out.rm)
  clear HRS
  have hmf : ∀ (fn : Fn) (first cap : Array Value) (w : World), (Instr.makeFunc fn first cap).run Try.prog w = .ok (.func fn first cap) w := fun _ _ _ _ => rfl
  rcases r1 with ⟨c, q⟩ | ⟨ns, k11⟩
  · have HE3 := hid (show res = .error (c, q) from HEE.out.symm)
    clear HEE
    go_wp2_with fail
    refine HT.out.mono ?_
    rintro e w2 ⟨NN, rfl, h3, h4⟩
    have HF := hid h3
    have HGG := hid (HQ.out.gb.trans h4)
    clear h3 h4
    go_wp2_with fail
    refine ⟨rfl, ?_⟩
    rw [HE3.out]
    exact ⟨NN, rfl, HF.out, HGG.out⟩
  have he : fin B (rd9 B (d : Int) (lo : Int) t u s ns k11) = res := HEE.out
  unfold rd9 at he
  have HEE := hid he
  clear he
  go_wp2_with fail
  refine HT.out.mono ?_
  rintro e w2 ⟨v, rfl, h0, h1, h2⟩
  have HQ2 := hid (HQ.out.call h1 h2)
  have HV := hid h0
  have HSZ := hid (show W.heap.size ≤ w1.heap.size from HQ.out.gb.size)
  clear h1 h2 HT h0
  obtain ⟨va, vn, vc, rfl⟩ : ∃ a1 a2 a3, v = .slice a1 a2 a3 := by
    obtain ⟨_, hr, _⟩ := HV.out
    rcases hr.2 with ⟨e, _⟩ | ⟨_, _, _, e, _⟩
    · exact ⟨_, _, _, e⟩
    · exact ⟨_, _, _, e⟩
  have fz : w2.frozen? ⟨ob, 3, none⟩ = false := frz_row HQ2.out.box 3
  have cc : w2.cell? ⟨ob, 3, none⟩ = some (.slice none 0 0) := cell_of_row _ _ 3 _ _ _ HQ2.out.box
  go_upto_region 9 with fail
  have HP7 := hid (HQ2.out.set 3 (.slice va vn vc) (q := ⟨t, u, s, ns, [], (d : Int), (lo : Int)⟩) (ow_4 HQ2.out.own HV.out HSZ.out (fun k hk => (HQ.out.own.nu.lt k hk).2)) rfl)
  clear fz cc
  generalize w2.setCell ⟨ob, 3, none⟩ (.slice va vn vc) = W10 at *
  have HS3 := hid (show ∃ a1 a2 a3, (Value.slice va vn vc) = .slice a1 a2 a3 from ⟨_, _, _, rfl⟩)
  generalize hvv : Value.slice va vn vc = v3 at *
  clear hvv
  have he := HEE.out
  clear HEE HQ HQ2 HV HSZ hmf
  have HT := hid (rcount_any HP7.out.rm 0 32768 (by decide) (by decide))
  obtain ⟨r0, hr0⟩ : ∃ r0, r0 = cntD B k11 0 32768 9 0 k11 0 := ⟨_, rfl⟩
  rw [← hr0] at HT he
  have HR0 := hid hr0
  clear hr0
  rcases r0 with ⟨c, q⟩ | ⟨m, k12⟩
  · have HE3 := hid (show res = .error (c, q) from he.symm)
    clear he
    go_wp2_with fail
    refine HT.out.mono ?_
    rintro e w1 ⟨NN, rfl, h3, h4⟩
    have HF := hid h3
    have HGG := hid (HP7.out.gb.trans h4)
    clear h3 h4
    go_wp2_with fail
    refine ⟨rfl, ?_⟩
    rw [HE3.out]
    exact ⟨NN, rfl, HF.out, HGG.out⟩
  have hm : m ≤ 32768 := (cntD_le HR0.out.symm).2
  clear HR0
  have he : fin B (dbnd ((insC.ris (fun _ _ => true) m .none).P B k12) fun c k => .ok (⟨t, u, s, ns, c, (d : Int), (lo : Int)⟩, k)) = res := he
  have HEE := hid he
  clear he
  go_wp2_with fail
  refine HT.out.mono ?_
  rintro e w1 ⟨v, rfl, rfl, h1, h2⟩
  have HP8 := hid (HP7.out.call h1 h2)
  clear h1 h2 HT
  go_wp2_with fail
  go_loopw [42] (fun iv wr => ∃ (j kk : Nat) (c : List Ins) (v4 : Value), j ≤ m ∧ c.length = j ∧ iv = .int .i64 (j : Int) ∧ Hid (Pst g a cap B W wr rb ob kk (4096 - n0 - n1 - n2 - n3) v0 v1 v2 v3 v4 ⟨t, u, s, ns, c, (d : Int), (lo : Int)⟩) ∧ Hid (fin B (dbnd ((insC.ris (fun _ _ => true) (m - j) c.getLast?).P B kk) (fun r k => .ok (⟨t, u, s, ns, c ++ r, (d : Int), (lo : Int)⟩, k))) = res)) (fun iv _ => m - (intOf iv).toNat)
  case atStart => exact ⟨0, k12, [], _, by omega, rfl, rfl, HP8, HEE⟩
  case round =>
    obtain ⟨j, kk, c, v4, hj, hc, rfl, HP, HE⟩ := hrel
    obtain ⟨a4, q4, c4, rfl⟩ : ∃ a1 a2 a3, v4 = .slice a1 a2 a3 := by
      rcases HP.out.own.cd.2 with ⟨e, _⟩ | ⟨_, _, _, e, _⟩
      · exact ⟨_, _, _, e⟩
      · exact ⟨_, _, _, e⟩
    by_cases hlt : j < m
    · have g1 : (j : Int) < (m : Int) := by omega
      obtain ⟨mm, hmm⟩ : ∃ mm, m - j = mm + 1 := ⟨m - j - 1, by omega⟩
      have he := HE.out
      rw [hmm, risP_succ] at he
      have HMM := hid hmm
      have HCL := hid hc
      clear hmm hc
      have HDW := hid (show Below wr.heap.size wr wr.drew from ⟨rfl, rfl, rfl, Nat.le_refl _, fun _ _ => rfl⟩)
      have HPD := hid (HP.out.call (HP.out.rm.low' HDW.out) (Gb.of HDW.out))
      clear HDW HP
      go_upto_region 11 with fail
      refine wp_region_held_drew (S := (fun _ => True)) (by kernel_rfl) trivial (fun hHeld => ?_)
      generalize wr.drew = Z at *
      have HT := hid (rinstr_any HPD.out.rm)
      obtain ⟨r0, hr0⟩ : ∃ r0, r0 = insC.P B kk := ⟨_, rfl⟩
      rw [← hr0] at HT he
      clear hr0
      have HCE := hid (fun (Y : World) (hY : Y.heap[ob]? = some (.cells #[v0, v1, v2, v3, .slice a4 q4 c4, .int .i64 (d : Int), .int .i64 (lo : Int)] 30 (0, 0))) => (show Y.cell? ⟨ob, 4, none⟩ = some (.slice a4 q4 c4) from cell_of_row _ _ 4 _ _ _ hY))
      rcases r0 with ⟨c0, q0⟩ | ⟨x, k1⟩
      · have HE3 := hid (show res = .error (c0, q0) from he.symm)
        clear he
        refine wpAnyH_take (i := 0) (v := ?_) rfl (by kernel_rfl) (by kernel_rfl) (by kernel_rfl) (fun _ _ _ h => h) (Or.inl ⟨by rfl, ?_⟩) (by assumption) ?_
        rotate_left
        · (intro w hSw; (try dsimp only at hSw); go_simp; try with_reducible rfl)
        try simp only [Act.put, List.setIfInBounds_toArray, List.set_cons_zero, List.set_cons_succ]
        refine wpAnyH_take (i := 2) (v := ?_) rfl (by kernel_rfl) (by kernel_rfl) (by kernel_rfl) (fun _ _ _ h => h) (Or.inl ⟨by rfl, ?_⟩) (by assumption) ?_
        rotate_left
        · (intro w hSw; (try dsimp only at hSw); go_simp; try with_reducible rfl)
        try simp only [Act.put, List.setIfInBounds_toArray, List.set_cons_zero, List.set_cons_succ]
        refine wpAnyH_ready (rs := [1, 3]) (by kernel_rfl) (by simp) ?_
        refine AllReadyH.cons rfl (fun K hK => ?_) ?_
        · have wc : Z.cell? ⟨ob, 4, none⟩ = some (.slice a4 q4 c4) := HCE.out _ HPD.out.box
          go_simp
          clear wc
          refine hK.out _ _ trivial (fun hHeld => ?_)
          clear hK K hHeld
          have hHeld : (fun _ : World => True) Z := trivial
          try simp only [Act.put, List.setIfInBounds_toArray, List.set_cons_zero, List.set_cons_succ]
          refine wpAnyH_ready (rs := [3]) (by kernel_rfl) (by simp) ?_
          refine AllReadyH.cons rfl (fun K hK => ?_) AllReadyH.nil
          go_simp
          refine HT.out.mono ?_
          rintro e w1 ⟨NN, rfl, h3, h4⟩
          refine ⟨rfl, ?_⟩
          rw [HE3.out]
          exact ⟨NN, rfl, h3, HPD.out.gb.trans h4⟩
        refine AllReadyH.cons rfl (fun K hK => ?_) AllReadyH.nil
        go_simp
        refine HT.out.mono ?_
        rintro e w1 ⟨NN, rfl, h3, h4⟩
        refine ⟨rfl, ?_⟩
        rw [HE3.out]
        exact ⟨NN, rfl, h3, HPD.out.gb.trans h4⟩
      · have he : fin B (dbnd (if okB (fun _ _ => true) c.getLast? x = true then dbnd ((insC.ris (fun _ _ => true) mm (some x)).P B k1) (fun r k2 => .ok (x :: r, k2)) else .error (204, kk)) (fun r k => .ok (⟨t, u, s, ns, c ++ r, (d : Int), (lo : Int)⟩, k))) = res := he
        rw [if_pos (okB_true _ _)] at he
        have HEN := hid (show fin B (dbnd ((insC.ris (fun _ _ => true) (m - (j + 1)) (c ++ [x]).getLast?).P B k1) (fun r k => .ok (⟨t, u, s, ns, (c ++ [x]) ++ r, (d : Int), (lo : Int)⟩, k))) = res from by
          rw [← he, show m - (j + 1) = mm by have := HMM.out; omega, List.getLast?_append]
          show fin B (dbnd ((insC.ris (fun _ _ => true) mm (some x)).P B k1) _) = _
          cases (insC.ris (fun _ _ => true) mm (some x)).P B k1 with
          | error e => rfl
          | ok y => simp [dbnd])
        clear he
        refine wpAnyH_take (i := 0) (v := ?_) rfl (by kernel_rfl) (by kernel_rfl) (by kernel_rfl) (fun _ _ _ h => h) (Or.inl ⟨by rfl, ?_⟩) (by assumption) ?_
        rotate_left
        · (intro w hSw; (try dsimp only at hSw); go_simp; try with_reducible rfl)
        try simp only [Act.put, List.setIfInBounds_toArray, List.set_cons_zero, List.set_cons_succ]
        refine wpAnyH_take (i := 2) (v := ?_) rfl (by kernel_rfl) (by kernel_rfl) (by kernel_rfl) (fun _ _ _ h => h) (Or.inl ⟨by rfl, ?_⟩) (by assumption) ?_
        rotate_left
        · (intro w hSw; (try dsimp only at hSw); go_simp; try with_reducible rfl)
        try simp only [Act.put, List.setIfInBounds_toArray, List.set_cons_zero, List.set_cons_succ]
        refine wpAnyH_ready (rs := [1, 3]) (by kernel_rfl) (by simp) ?_
        refine AllReadyH.cons rfl (fun K hK => ?_) ?_
        · have wc : Z.cell? ⟨ob, 4, none⟩ = some (.slice a4 q4 c4) := HCE.out _ HPD.out.box
          go_simp
          clear wc
          refine hK.out _ _ trivial (fun hHeld => ?_)
          clear hK K hHeld
          have hHeld : (fun _ : World => True) Z := trivial
          try simp only [Act.put, List.setIfInBounds_toArray, List.set_cons_zero, List.set_cons_succ]
          refine wpAnyH_ready (rs := [3]) (by kernel_rfl) (by simp) ?_
          refine AllReadyH.cons rfl (fun K hK => ?_) AllReadyH.nil
          go_simp
          refine HT.out.mono ?_
          rintro e w1 ⟨v, rfl, rfl, h1, h2⟩
          have HQ := hid (HPD.out.call h1 h2)
          clear h1 h2 HT
          refine hK.out _ _ trivial (fun hHeld => ?_)
          clear hK K hHeld
          have hHeld : (fun _ : World => True) w1 := trivial
          try simp only [Act.put, List.setIfInBounds_toArray, List.set_cons_zero, List.set_cons_succ]
          refine wpAnyH_ready (rs := [4]) (by kernel_rfl) (by simp) ?_
          refine AllReadyH.cons rfl (fun K hK => ?_) AllReadyH.nil
          unfold insV
          go_simp
          refine hK.out _ _ trivial (fun hHeld => ?_)
          clear hK K hHeld
          have hHeld : (fun _ : World => True) w1 := trivial
          try simp only [Act.put, List.setIfInBounds_toArray, List.set_cons_zero, List.set_cons_succ]
          refine wpAnyH_ready (rs := [5]) (by kernel_rfl) (by simp) ?_
          refine AllReadyH.cons rfl (fun K hK => ?_) AllReadyH.nil
          rw [if_pos (by rfl)]
          obtain ⟨i0, hi, hz0, hz1, hz2⟩ := info_parts info_c
          refine wp_append_own _ _ _ 28 rfl W.heap.size 68 i0 (.agg #[.int .i64 0, .int .i64 0, .int .i64 0, .int .i64 0]) 4 32 Try.underlying28 hi hz0 hz1 hz2 rfl (by decide) (.slice a4 q4 c4) c.length (insX c) rfl (World.ownsRow.alloc HQ.out.own.cd (.cells (insV x) 68)) ⟨w1.heap.size, 0, none⟩ 1 1 (insV x).toList rfl rfl (cell_ins_new w1 x) (fun u hu => by simp [insV] at hu; rcases hu with rfl | rfl | rfl | rfl <;> rfl) (by have := HCL.out; unfold maxLen; omega) (by have := HCL.out; omega) (by have := HQ.out.gb.size; simp; omega) ?_
          intro v' w2 ho1 hg1 _
          have hg' := grow_alloc hg1
          obtain ⟨a5, q5, c5, rfl⟩ : ∃ a1 a2 a3, v' = .slice a1 a2 a3 := by
            rcases ho1.2 with ⟨e, _⟩ | ⟨_, _, _, e, _⟩
            · exact ⟨_, _, _, e⟩
            · exact ⟨_, _, _, e⟩
          obtain ⟨HBX, HP2⟩ := pst_app (x := x) HQ.out hg' ho1
          have HBX := hid HBX
          have HP2 := hid HP2
          clear ho1 hg1 hg' HQ
          refine hK.out _ _ trivial (fun hHeld => ?_)
          clear hK K hHeld
          try simp only [Act.put, List.setIfInBounds_toArray, List.set_cons_zero, List.set_cons_succ]
          have hHeld : (fun _ : World => True) w2 := trivial
          refine wpAnyH_take (i := 6) (v := ?_) rfl (by kernel_rfl) (by kernel_rfl) (by kernel_rfl) (fun _ _ _ h => h) (Or.inl ⟨by rfl, ?_⟩) (by assumption) ?_
          rotate_left
          · (intro w hSw; (try dsimp only at hSw); go_simp; try with_reducible rfl)
          try simp only [Act.put, List.setIfInBounds_toArray, List.set_cons_zero, List.set_cons_succ]
          refine wpAnyH_ready (rs := [7]) (by kernel_rfl) (by simp) ?_
          refine AllReadyH.cons rfl (fun K hK => ?_) AllReadyH.nil
          have wc : w2.cell? ⟨ob, 4, none⟩ = some (.slice a4 q4 c4) := HCE.out _ HBX.out
          have wf : w2.frozen? ⟨ob, 4, none⟩ = false := frz_row HBX.out 4
          go_simp
          clear wc wf hHeld
          refine hK.out _ _ trivial (fun hHeld => ?_)
          clear hK K hHeld
          try simp only [Act.put, List.setIfInBounds_toArray, List.set_cons_zero, List.set_cons_succ]
          refine wpAnyH_done (by kernel_rfl) ?_ _
          generalize w2.setCell ⟨ob, 4, none⟩ (.slice a5 q5 c5) = U at *
          go_wp2_with fail
          exact ⟨⟨j + 1, k1, c ++ [x], .slice a5 q5 c5, by omega, by simp [HCL.out], by go_num, HP2, HEN⟩, by simp [intOf]; omega⟩
        refine AllReadyH.cons rfl (fun K hK => ?_) AllReadyH.nil
        go_simp
        refine HT.out.mono ?_
        rintro e w1 ⟨v, rfl, rfl, h1, h2⟩
        have HQ := hid (HPD.out.call h1 h2)
        clear h1 h2 HT
        refine hK.out _ _ trivial (fun hHeld => ?_)
        clear hK K hHeld
        have hHeld : (fun _ : World => True) w1 := trivial
        try simp only [Act.put, List.setIfInBounds_toArray, List.set_cons_zero, List.set_cons_succ]
        refine wpAnyH_ready (rs := [1, 4]) (by kernel_rfl) (by simp) ?_
        refine AllReadyH.cons rfl (fun K hK => ?_) ?_
        · have wc : w1.cell? ⟨ob, 4, none⟩ = some (.slice a4 q4 c4) := HCE.out _ HQ.out.box
          go_simp
          clear wc
          refine hK.out _ _ trivial (fun hHeld => ?_)
          clear hK K hHeld
          have hHeld : (fun _ : World => True) w1 := trivial
          try simp only [Act.put, List.setIfInBounds_toArray, List.set_cons_zero, List.set_cons_succ]
          refine wpAnyH_ready (rs := [4]) (by kernel_rfl) (by simp) ?_
          refine AllReadyH.cons rfl (fun K hK => ?_) AllReadyH.nil
          unfold insV
          go_simp
          refine hK.out _ _ trivial (fun hHeld => ?_)
          clear hK K hHeld
          have hHeld : (fun _ : World => True) w1 := trivial
          try simp only [Act.put, List.setIfInBounds_toArray, List.set_cons_zero, List.set_cons_succ]
          refine wpAnyH_ready (rs := [5]) (by kernel_rfl) (by simp) ?_
          refine AllReadyH.cons rfl (fun K hK => ?_) AllReadyH.nil
          rw [if_pos (by rfl)]
          obtain ⟨i0, hi, hz0, hz1, hz2⟩ := info_parts info_c
          refine wp_append_own _ _ _ 28 rfl W.heap.size 68 i0 (.agg #[.int .i64 0, .int .i64 0, .int .i64 0, .int .i64 0]) 4 32 Try.underlying28 hi hz0 hz1 hz2 rfl (by decide) (.slice a4 q4 c4) c.length (insX c) rfl (World.ownsRow.alloc HQ.out.own.cd (.cells (insV x) 68)) ⟨w1.heap.size, 0, none⟩ 1 1 (insV x).toList rfl rfl (cell_ins_new w1 x) (fun u hu => by simp [insV] at hu; rcases hu with rfl | rfl | rfl | rfl <;> rfl) (by have := HCL.out; unfold maxLen; omega) (by have := HCL.out; omega) (by have := HQ.out.gb.size; simp; omega) ?_
          intro v' w2 ho1 hg1 _
          have hg' := grow_alloc hg1
          obtain ⟨a5, q5, c5, rfl⟩ : ∃ a1 a2 a3, v' = .slice a1 a2 a3 := by
            rcases ho1.2 with ⟨e, _⟩ | ⟨_, _, _, e, _⟩
            · exact ⟨_, _, _, e⟩
            · exact ⟨_, _, _, e⟩
          obtain ⟨HBX, HP2⟩ := pst_app (x := x) HQ.out hg' ho1
          have HBX := hid HBX
          have HP2 := hid HP2
          clear ho1 hg1 hg' HQ
          refine hK.out _ _ trivial (fun hHeld => ?_)
          clear hK K hHeld
          try simp only [Act.put, List.setIfInBounds_toArray, List.set_cons_zero, List.set_cons_succ]
          have hHeld : (fun _ : World => True) w2 := trivial
          refine wpAnyH_take (i := 6) (v := ?_) rfl (by kernel_rfl) (by kernel_rfl) (by kernel_rfl) (fun _ _ _ h => h) (Or.inl ⟨by rfl, ?_⟩) (by assumption) ?_
          rotate_left
          · (intro w hSw; (try dsimp only at hSw); go_simp; try with_reducible rfl)
          try simp only [Act.put, List.setIfInBounds_toArray, List.set_cons_zero, List.set_cons_succ]
          refine wpAnyH_ready (rs := [7]) (by kernel_rfl) (by simp) ?_
          refine AllReadyH.cons rfl (fun K hK => ?_) AllReadyH.nil
          have wc : w2.cell? ⟨ob, 4, none⟩ = some (.slice a4 q4 c4) := HCE.out _ HBX.out
          have wf : w2.frozen? ⟨ob, 4, none⟩ = false := frz_row HBX.out 4
          go_simp
          clear wc wf hHeld
          refine hK.out _ _ trivial (fun hHeld => ?_)
          clear hK K hHeld
          try simp only [Act.put, List.setIfInBounds_toArray, List.set_cons_zero, List.set_cons_succ]
          refine wpAnyH_done (by kernel_rfl) ?_ _
          generalize w2.setCell ⟨ob, 4, none⟩ (.slice a5 q5 c5) = U at *
          go_wp2_with fail
          exact ⟨⟨j + 1, k1, c ++ [x], .slice a5 q5 c5, by omega, by simp [HCL.out], by go_num, HP2, HEN⟩, by simp [intOf]; omega⟩
        refine AllReadyH.cons rfl (fun K hK => ?_) AllReadyH.nil
        unfold insV
        go_simp
        refine hK.out _ _ trivial (fun hHeld => ?_)
        clear hK K hHeld
        have hHeld : (fun _ : World => True) w1 := trivial
        try simp only [Act.put, List.setIfInBounds_toArray, List.set_cons_zero, List.set_cons_succ]
        refine wpAnyH_ready (rs := [1]) (by kernel_rfl) (by simp) ?_
        refine AllReadyH.cons rfl (fun K hK => ?_) AllReadyH.nil
        have wc : (w1.alloc (.cells #[.int .i64 x.op, .int .i64 x.a, .int .i64 x.b, .int .i64 x.c] 68)).cell? ⟨ob, 4, none⟩ = some (.slice a4 q4 c4) := HCE.out _ (((belowA w1 _).block _ (lt_blk HQ.out.box)).trans HQ.out.box)
        go_simp
        clear wc
        refine hK.out _ _ trivial (fun hHeld => ?_)
        clear hK K hHeld
        have hHeld : (fun _ : World => True) w1 := trivial
        try simp only [Act.put, List.setIfInBounds_toArray, List.set_cons_zero, List.set_cons_succ]
        refine wpAnyH_ready (rs := [5]) (by kernel_rfl) (by simp) ?_
        refine AllReadyH.cons rfl (fun K hK => ?_) AllReadyH.nil
        rw [if_pos (by rfl)]
        obtain ⟨i0, hi, hz0, hz1, hz2⟩ := info_parts info_c
        refine wp_append_own _ _ _ 28 rfl W.heap.size 68 i0 (.agg #[.int .i64 0, .int .i64 0, .int .i64 0, .int .i64 0]) 4 32 Try.underlying28 hi hz0 hz1 hz2 rfl (by decide) (.slice a4 q4 c4) c.length (insX c) rfl (World.ownsRow.alloc HQ.out.own.cd (.cells (insV x) 68)) ⟨w1.heap.size, 0, none⟩ 1 1 (insV x).toList rfl rfl (cell_ins_new w1 x) (fun u hu => by simp [insV] at hu; rcases hu with rfl | rfl | rfl | rfl <;> rfl) (by have := HCL.out; unfold maxLen; omega) (by have := HCL.out; omega) (by have := HQ.out.gb.size; simp; omega) ?_
        intro v' w2 ho1 hg1 _
        have hg' := grow_alloc hg1
        obtain ⟨a5, q5, c5, rfl⟩ : ∃ a1 a2 a3, v' = .slice a1 a2 a3 := by
          rcases ho1.2 with ⟨e, _⟩ | ⟨_, _, _, e, _⟩
          · exact ⟨_, _, _, e⟩
          · exact ⟨_, _, _, e⟩
        obtain ⟨HBX, HP2⟩ := pst_app (x := x) HQ.out hg' ho1
        have HBX := hid HBX
        have HP2 := hid HP2
        clear ho1 hg1 hg' HQ
        refine hK.out _ _ trivial (fun hHeld => ?_)
        clear hK K hHeld
        try simp only [Act.put, List.setIfInBounds_toArray, List.set_cons_zero, List.set_cons_succ]
        have hHeld : (fun _ : World => True) w2 := trivial
        refine wpAnyH_take (i := 6) (v := ?_) rfl (by kernel_rfl) (by kernel_rfl) (by kernel_rfl) (fun _ _ _ h => h) (Or.inl ⟨by rfl, ?_⟩) (by assumption) ?_
        rotate_left
        · (intro w hSw; (try dsimp only at hSw); go_simp; try with_reducible rfl)
        try simp only [Act.put, List.setIfInBounds_toArray, List.set_cons_zero, List.set_cons_succ]
        refine wpAnyH_ready (rs := [7]) (by kernel_rfl) (by simp) ?_
        refine AllReadyH.cons rfl (fun K hK => ?_) AllReadyH.nil
        have wc : w2.cell? ⟨ob, 4, none⟩ = some (.slice a4 q4 c4) := HCE.out _ HBX.out
        have wf : w2.frozen? ⟨ob, 4, none⟩ = false := frz_row HBX.out 4
        go_simp
        clear wc wf hHeld
        refine hK.out _ _ trivial (fun hHeld => ?_)
        clear hK K hHeld
        try simp only [Act.put, List.setIfInBounds_toArray, List.set_cons_zero, List.set_cons_succ]
        refine wpAnyH_done (by kernel_rfl) ?_ _
        generalize w2.setCell ⟨ob, 4, none⟩ (.slice a5 q5 c5) = U at *
        go_wp2_with fail
        exact ⟨⟨j + 1, k1, c ++ [x], .slice a5 q5 c5, by omega, by simp [HCL.out], by go_num, HP2, HEN⟩, by simp [intOf]; omega⟩
    · obtain rfl : j = m := by omega
      have he : fin B (dbnd (.ok ([], kk)) (fun r k => .ok (⟨t, u, s, ns, c ++ r, (d : Int), (lo : Int)⟩, k))) = res := by rw [← HE.out, Nat.sub_self]; rfl
      have he : fin B (.ok (⟨t, u, s, ns, c, (d : Int), (lo : Int)⟩, kk)) = res := by rw [← he]; simp [dbnd]
      have hle := HP.out.rm.le
      have hlen := HP.out.rm.len
      have hb : B.length ≤ maxLen := by unfold maxLen; omega
      have c0 : wr.cell? ⟨g, 0, none⟩ = some (.slice a B.length cap) := cell_of_row _ _ 0 _ _ _ HP.out.rm.box
      have c1 : wr.cell? ⟨g, 1, none⟩ = some (.int .i64 (kk : Int)) := cell_of_row _ _ 1 _ _ _ HP.out.rm.box
      have HG := hid (fun w => giveup_any 206 kk w)
      by_cases hkl : kk < B.length
      · have HE3 := hid (show res = .error (206, kk) from by rw [← he]; show (if kk < B.length then _ else _) = _; rw [if_pos hkl])
        have g1 : (kk : Int) < (B.length : Int) := by omega
        clear he
        go_upto_region 13 with fail
        go_quiet (fail)
        have HD1 := hid (drew_below wr nq)
        have HP1 := hid (HP.out.call (HP.out.rm.low' HD1.out) (Gb.of HD1.out))
        generalize wr.drewN nq = V at *
        clear c0 c1
        have c1 : V.cell? ⟨g, 1, none⟩ = some (.int .i64 (kk : Int)) := cell_of_row _ _ 1 _ _ _ HP1.out.rm.box
        go_wp2_with fail
        refine (HG.out V).mono ?_
        rintro e U ⟨N, rfl, h1, h2⟩
        have HF := hid h1
        have HD2 := hid (HP1.out.gb.trans (Gb.of h2))
        clear h1 h2
        go_wp2_with fail
        refine ⟨rfl, ?_⟩
        rw [HE3.out]
        exact ⟨N, rfl, HF.out, HD2.out⟩
      · have HE3 := hid (show res = .ok ⟨t, u, s, ns, c, (d : Int), (lo : Int)⟩ from by rw [← he]; show (if kk < B.length then _ else _) = _; rw [if_neg hkl])
        have g1 : ¬ (kk : Int) < (B.length : Int) := by omega
        have g2 : (B.length : Int) ≤ (kk : Int) := by omega
        clear he hkl
        go_upto_region 13 with fail
        go_quiet (fail)
        have HD1 := hid (drew_below wr nq)
        have HP1 := hid (HP.out.call (HP.out.rm.low' HD1.out) (Gb.of HD1.out))
        generalize wr.drewN nq = V at *
        clear c0 c1
        obtain ⟨a0, q0, c0, hv0⟩ := HS0.out
        obtain ⟨a1, q1, c1, hv1⟩ := HS1.out
        obtain ⟨a2, q2, c2, hv2⟩ := HS2.out
        obtain ⟨a3, q3, c3, hv3⟩ := HS3.out
        subst hv0 hv1 hv2 hv3
        have HBX := HP1.out.box
        have x0 : V.cell? ⟨ob, 0, none⟩ = some (.slice a0 q0 c0) := cell_of_row _ _ 0 _ _ _ HP1.out.box
        have x1 : V.cell? ⟨ob, 1, none⟩ = some (.slice a1 q1 c1) := cell_of_row _ _ 1 _ _ _ HP1.out.box
        have x2 : V.cell? ⟨ob, 2, none⟩ = some (.slice a2 q2 c2) := cell_of_row _ _ 2 _ _ _ HP1.out.box
        have x3 : V.cell? ⟨ob, 3, none⟩ = some (.slice a3 q3 c3) := cell_of_row _ _ 3 _ _ _ HP1.out.box
        have x4 : V.cell? ⟨ob, 4, none⟩ = some (.slice a4 q4 c4) := cell_of_row _ _ 4 _ _ _ HP1.out.box
        have x5 : V.cell? ⟨ob, 5, none⟩ = some (.int .i64 (d : Int)) := cell_of_row _ _ 5 _ _ _ HP1.out.box
        have x6 : V.cell? ⟨ob, 6, none⟩ = some (.int .i64 (lo : Int)) := cell_of_row _ _ 6 _ _ _ HP1.out.box
        have y0 : V.cell? ⟨rb, 0, none⟩ = some (.slice none 0 0) := cell_of_row _ _ 0 _ _ _ HP1.out.res
        have y1 : V.cell? ⟨rb, 1, none⟩ = some (.slice none 0 0) := cell_of_row _ _ 1 _ _ _ HP1.out.res
        have y2 : V.cell? ⟨rb, 2, none⟩ = some (.slice none 0 0) := cell_of_row _ _ 2 _ _ _ HP1.out.res
        have y3 : V.cell? ⟨rb, 3, none⟩ = some (.slice none 0 0) := cell_of_row _ _ 3 _ _ _ HP1.out.res
        have y4 : V.cell? ⟨rb, 4, none⟩ = some (.slice none 0 0) := cell_of_row _ _ 4 _ _ _ HP1.out.res
        have y5 : V.cell? ⟨rb, 5, none⟩ = some (.int .i64 0) := cell_of_row _ _ 5 _ _ _ HP1.out.res
        have y6 : V.cell? ⟨rb, 6, none⟩ = some (.int .i64 0) := cell_of_row _ _ 6 _ _ _ HP1.out.res
        have z0 : V.frozen? ⟨rb, 0, none⟩ = false := frz_row HP1.out.res 0
        have z1 : V.frozen? ⟨rb, 1, none⟩ = false := frz_row HP1.out.res 1
        have z2 : V.frozen? ⟨rb, 2, none⟩ = false := frz_row HP1.out.res 2
        have z3 : V.frozen? ⟨rb, 3, none⟩ = false := frz_row HP1.out.res 3
        have z4 : V.frozen? ⟨rb, 4, none⟩ = false := frz_row HP1.out.res 4
        have z5 : V.frozen? ⟨rb, 5, none⟩ = false := frz_row HP1.out.res 5
        have z6 : V.frozen? ⟨rb, 6, none⟩ = false := frz_row HP1.out.res 6
        have HS := hid (set7 HP1.out.res (.slice a0 q0 c0) (.slice a1 q1 c1) (.slice a2 q2 c2) (.slice a3 q3 c3) (.slice a4 q4 c4) (.int .i64 (d : Int)) (.int .i64 (lo : Int)))
        have HGZ := hid (gb_res HP1.out.gb HS.out.2 HP1.out.nrb)
        have HOZ := hid (HP1.out.own.box HP1.out.res (by decide) (by decide) (by decide) (by decide) (by decide) HS.out.2)
        clear HBX
        go_wp2_with fail
        generalize (((((((V.setCell ⟨rb, 0, none⟩ (.slice a0 q0 c0)).setCell ⟨rb, 1, none⟩ (.slice a1 q1 c1)).setCell ⟨rb, 2, none⟩ (.slice a2 q2 c2)).setCell ⟨rb, 3, none⟩ (.slice a3 q3 c3)).setCell ⟨rb, 4, none⟩ (.slice a4 q4 c4)).setCell ⟨rb, 5, none⟩ (.int .i64 (d : Int))).setCell ⟨rb, 6, none⟩ (.int .i64 (lo : Int))) = U at *
        refine ⟨rfl, .agg #[.slice a0 q0 c0, .slice a1 q1 c1, .slice a2 q2 c2, .slice a3 q3 c3, .slice a4 q4 c4, .int .i64 (d : Int), .int .i64 (lo : Int)], results_cell_row Try.results37 _ U rb 30 #[.slice a0 q0 c0, .slice a1 q1 c1, .slice a2 q2 c2, .slice a3 q3 c3, .slice a4 q4 c4, .int .i64 (d : Int), .int .i64 (lo : Int)] (0, 0) _ rfl HS.out.1 Try.underlying30 rfl infoPg, ?_⟩
        rw [HE3.out]
        exact ⟨_, _, _, _, _, rfl, HOZ.out, HGZ.out⟩
end Go.Proofs.Ytnclpdgbjefpmaa.L
