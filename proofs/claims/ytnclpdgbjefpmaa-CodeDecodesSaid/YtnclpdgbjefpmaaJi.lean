import Derived.Test.YtnclpdgbjefpmaaJh
import Derived.Deep.RegionHeld3
import Derived.Laws.Tables
namespace Go.Proofs.Ytnclpdgbjefpmaa.L
open Go.RowKit
set_option linter.unusedVariables false
set_option linter.unusedSimpArgs false
theorem cst_dep {w0 W : World} {rb pb : Nat} {v0 v1 v2 v3 v4 : Value} {t : List ByteArray} {u : List Int} {s : List (List ByteArray)} {ns : List (List Int)} {c : List Ins} {d lo : Int} (n : Int) (h : Cst w0 W rb rb pb z7 v0 v1 v2 v3 v4 ⟨t, u, s, ns, c, d, lo⟩) : Cst w0 (W.setCell ⟨pb, 5, none⟩ (.int .i64 n)) rb rb pb z7 v0 v1 v2 v3 v4 ⟨t, u, s, ns, c, n, lo⟩ := by
  have k := gb_set h.box 5 (.int .i64 n)
  obtain ⟨vs, st1, st2⟩ := h.st
  obtain ⟨us, ns1, ns2⟩ := h.ns
  exact Cst.set 5 (.int .i64 n) h.bl h.arg h.res h.box rfl h.tx h.nu h.cd ⟨vs, st1, st2⟩ ⟨us, ns1, ns2⟩ h.nq h.nr h.n1 h.n2
theorem cst_loc {w0 W : World} {rb pb : Nat} {v0 v1 v2 v3 v4 : Value} {t : List ByteArray} {u : List Int} {s : List (List ByteArray)} {ns : List (List Int)} {c : List Ins} {d lo : Int} (n : Int) (h : Cst w0 W rb rb pb z7 v0 v1 v2 v3 v4 ⟨t, u, s, ns, c, d, lo⟩) : Cst w0 (W.setCell ⟨pb, 6, none⟩ (.int .i64 n)) rb rb pb z7 v0 v1 v2 v3 v4 ⟨t, u, s, ns, c, d, n⟩ := by
  have k := gb_set h.box 6 (.int .i64 n)
  obtain ⟨vs, st1, st2⟩ := h.st
  obtain ⟨us, ns1, ns2⟩ := h.ns
  exact Cst.set 6 (.int .i64 n) h.bl h.arg h.res h.box rfl h.tx h.nu h.cd ⟨vs, st1, st2⟩ ⟨us, ns1, ns2⟩ h.nq h.nr h.n1 h.n2
theorem cst_tx {w0 W : World} {rb pb : Nat} {v0 v1 v2 v3 v4 : Value} {t : List ByteArray} {u : List Int} {s : List (List ByteArray)} {ns : List (List Int)} {c : List Ins} {d lo : Int} {v : Value} {l : List ByteArray} {b : Nat} (ho : W.ownsRow b 9 1 v l.length (l.map Value.string)) (hb : w0.heap.size ≤ b) (h : Cst w0 W rb rb pb z7 v0 v1 v2 v3 v4 ⟨t, u, s, ns, c, d, lo⟩) : Cst w0 (W.setCell ⟨pb, 0, none⟩ v) rb rb pb z7 v v1 v2 v3 v4 ⟨l, u, s, ns, c, d, lo⟩ := by
  have k := gb_set h.box 0 v
  obtain ⟨vs, st1, st2⟩ := h.st
  obtain ⟨us, ns1, ns2⟩ := h.ns
  exact Cst.set 0 v h.bl h.arg h.res h.box rfl (row_base ho hb) h.nu h.cd ⟨vs, st1, st2⟩ ⟨us, ns1, ns2⟩ h.nq h.nr h.n1 h.n2
theorem cst_nu {w0 W : World} {rb pb : Nat} {v0 v1 v2 v3 v4 : Value} {t : List ByteArray} {u : List Int} {s : List (List ByteArray)} {ns : List (List Int)} {c : List Ins} {d lo : Int} {v : Value} {l : List Int} {b : Nat} (ho : W.ownsRow b 3 1 v l.length (l.map (Value.int .i64))) (hb : w0.heap.size ≤ b) (h : Cst w0 W rb rb pb z7 v0 v1 v2 v3 v4 ⟨t, u, s, ns, c, d, lo⟩) : Cst w0 (W.setCell ⟨pb, 1, none⟩ v) rb rb pb z7 v0 v v2 v3 v4 ⟨t, l, s, ns, c, d, lo⟩ := by
  have k := gb_set h.box 1 v
  obtain ⟨vs, st1, st2⟩ := h.st
  obtain ⟨us, ns1, ns2⟩ := h.ns
  exact Cst.set 1 v h.bl h.arg h.res h.box rfl h.tx (row_base ho hb) h.cd ⟨vs, st1, st2⟩ ⟨us, ns1, ns2⟩ h.nq h.nr h.n1 h.n2
theorem cst_cd {w0 W : World} {rb pb : Nat} {v0 v1 v2 v3 v4 : Value} {t : List ByteArray} {u : List Int} {s : List (List ByteArray)} {ns : List (List Int)} {c : List Ins} {d lo : Int} {W4 : World} {v' : Value} {x : Ins} (h : Cst w0 W rb rb pb z7 v0 v1 v2 v3 v4 ⟨t, u, s, ns, c, d, lo⟩) (hr4 : W4.ownsRow w0.heap.size 68 4 v' (c.length + 1) (insX c ++ (insV x).toList)) (k : W.grownBy W4 v4.ownBlock) :
    W4.heap[pb]? = some (.cells #[v0, v1, v2, v3, v4, .int .i64 d, .int .i64 lo] 30 (0, 0)) ∧ Cst w0 (W4.setCell ⟨pb, 4, none⟩ v') rb rb pb z7 v0 v1 v2 v3 v' ⟨t, u, s, ns, c ++ [x], d, lo⟩ := by
  obtain ⟨vs, st1, st2⟩ := h.st
  obtain ⟨us, ns1, ns2⟩ := h.ns
  have hr := h.cd
  have hbx := box_grow hr h.box (by decide) k
  refine ⟨hbx, Cst.set 4 v' (below_grow h.bl hr k) (box_grow hr h.arg (by decide) k) (box_grow hr h.res (by decide) k) hbx rfl (h.tx.kept k (row_ne h.tx hr (by decide))) (h.nu.kept k (row_ne h.nu hr (by decide))) ?_ ⟨vs, st1.kept k (row_ne st1 hr (by decide)), st2.grow hr (by decide) k⟩ ⟨us, ns1.kept k (row_ne ns1 hr (by decide)), ns2.grow hr (by decide) k⟩ h.nq h.nr h.n1 h.n2⟩
  show W4.ownsRow w0.heap.size 68 4 v' (c ++ [x]).length (insX (c ++ [x]))
  rw [insX_snoc, List.length_append]
  exact hr4
theorem rd7_sets (B : List UInt8) (d lo : Int) (t : List ByteArray) (u : List Int) (r k : Nat) : rd7 B d lo t u r k = dbnd (setsP B r k) fun x k => rd9 B d lo t u x.1 x.2 k := by
  unfold rd7 rd8 setsP
  simp only [dbnd_asc, dbnd_ok]
/-- What the document's Decode answers. -/
def DdF (r : Except (Nat × Nat) Pg) (e : Ending) (w' : World) : Prop :=
  match r with
  | .ok p => ∃ pv, e = .returned (.tuple #[.agg pv, .int .i64 0, .int .i64 0]) ∧ PgR w' pv p
  | .error (c, q) => e = .returned (.tuple #[.agg z7, .int .i64 (c : Int), .int .i64 (q : Int)])
def DdR (B : List UInt8) (e : Ending) (w' : World) : Prop := DdF (dec B) e w'
theorem results_row3 {P : Program} {fn : Func} {p u t : Tmp} {ty : TypeId} (h : fn.results = #[.cell p ty, .tmp u, .tmp t]) (tmps : Array Value) (w : World) (g : Nat) (tt : TypeId) (cs : Array Value) (fr : Nat × Nat) (d : TypeDesc)
    (x y : Value) (hp : tmps.getD p undef = .pointer (some ⟨g, 0, none⟩)) (hx : tmps.getD u undef = x) (hy : tmps.getD t undef = y) (hg : w.heap[g]? = some (.cells cs tt fr))
    (hu : P.underlying ty = some d) (hd : (match d with | .struct _ | .array _ _ => true | _ => false) = true) (hi : (P.info? ty).map (·.size) = some cs.size) :
    (results fn tmps).run P w = .ok (.tuple #[.agg cs, x, y]) w := by
  subst hx hy
  have hp' : tmps[p]?.getD undef = .pointer (some ⟨g, 0, none⟩) := by simpa using hp
  simp [results, h, hp', asAddr, run_loadVar_row w g tt ty cs fr d hg hu hd hi, Sem.run_bind, Result.andThen]
theorem gb_setRow {rb : Nat} {W : World} {old cs : Array Value} {t : TypeId} (h : W.heap[rb]? = some (.cells old t (0, 0))) : Gb rb W (W.setRow rb cs) :=
  ⟨rfl, rfl, rfl, by simp, fun k hk hn => setRow_other _ _ _ _ (fun e => hn (by rw [e]))⟩
theorem cell_setRow {rb g j : Nat} {W : World} {cs : Array Value} (h : g ≠ rb) : (W.setRow rb cs).cell? ⟨g, j, none⟩ = W.cell? ⟨g, j, none⟩ :=
  World.cell?_of_block (a := ⟨g, j, none⟩) (setRow_other _ _ _ _ h)
theorem infoPg7 : (Try.prog.info? 30).map (·.size) = some 7 := by kernel_rfl
theorem lst_all {α : Type} [Inhabited α] {g : Nat} {a : Option Addr} {cap : Nat} {B : List UInt8} {W W' : World} {C : Cod α} {n i kk : Nat} {l : List α} {x : α} {res : DR (List α)} (he : dbnd ((C.ris (fun _ _ => true) (n - i) l.getLast?).P B kk) (fun r k' => .ok (l ++ r, k')) = res) (hi : i < n)
    (h : (∃ k1, C.P B kk = .ok (x, k1) ∧ Dm g a cap B W k1 0 0) ∨ ∃ c p k1, C.P B kk = .error (c, p) ∧ c ≠ 0 ∧ Dm g a cap B W k1 c p) (f : ∀ k c p, Dm g a cap B W k c p → Dm g a cap B W' k c p) : Lst g a cap B C (fun _ _ => true) n (i + 1) (l ++ [x]) res W' := by
  rcases h with ⟨k1, hr, d⟩ | ⟨c, p, k1, hr, hc, d⟩
  · exact lst_yes he hi hr (by unfold okB; split <;> rfl) (f _ _ _ d)
  · exact lst_bad he hi hr hc (f _ _ _ d) _
set_option maxHeartbeats 4000000 in
set_option maxRecDepth 100000 in
theorem ddecode_any (B : List UInt8) (a : Option Addr) (cap : Nat) (w : World) (hR : BR w a B) (ha : ∀ b off u, a = some ⟨b, off, u⟩ → b < w.heap.size) (hl : B.length ≤ 140737488355328) (hc : B.length ≤ cap) (hm : cap ≤ maxLen) :
    Calls Try.prog 15 #[.slice a B.length cap] w fun e w' => DdR B e w' ∧ Below w.heap.size w w' := by
  have hbm : B.length ≤ maxLen := Nat.le_trans hc hm
  have HA0 := hid (belowA w (.cells z7 30))
  have HRB0 := hid (heap_alloc_new w (.cells z7 30))
  have HSZ := hid (show (w.alloc (.cells z7 30)).heap.size = w.heap.size + 1 from World.size_alloc _ _)
  have HA1 := hid (belowA (w.alloc (.cells z7 30)) (.cells #[.slice a B.length cap, .int .i64 0, .int .i64 0, .int .i64 0] 73))
  have HGX := hid (heap_alloc_new (w.alloc (.cells z7 30)) (.cells #[.slice a B.length cap, .int .i64 0, .int .i64 0, .int .i64 0] 73))
  have HRB := hid ((HA1.out.block _ (lt_blk HRB0.out)).trans HRB0.out)
  have HBL := hid (HA0.out.trans (HA1.out.mono HA0.out.size))
  have HDM := hid (show Dm (w.alloc (.cells z7 30)).heap.size a cap B ((w.alloc (.cells z7 30)).alloc (.cells #[.slice a B.length cap, .int .i64 0, .int .i64 0, .int .i64 0] 73)) 0 0 0 from ⟨HGX.out, br_below (br_below hR HA0.out) HA1.out, fun b off u h => by rw [HSZ.out]; have := ha b off u h; omega, Nat.zero_le _, hl, hc, hm⟩)
  have HLW := hid ha
  obtain ⟨T, hT⟩ : ∃ T, T = rd2 B := ⟨_, rfl⟩
  have HT0 := hid (show T = dbnd (headC.P B 0) (fun _ k => rd3 B k) from hT)
  have HFIN := hid (show dec B = fin B T from by rw [dec_fin, pg_P, hT])
  clear hT hR ha hc hm
  unfold DdR
  rw [HFIN.out]
  clear HFIN
  obtain ⟨g, hg⟩ : ∃ g, g = (w.alloc (.cells z7 30)).heap.size := ⟨_, rfl⟩
  rw [← hg] at HDM HGX
  go_enter Try.func15, Try.ntmps15
  go_upto_region 2 with fail
  (try rw [HSZ.out])
  have hg2 : g = w.heap.size + 1 := by rw [hg]; exact HSZ.out
  obtain ⟨rb, hrb⟩ : ∃ rb, rb = w.heap.size := ⟨_, rfl⟩
  have HN0 := hid (show w.heap.size ≤ g by omega)
  have HN1 := hid (show rb ≠ g by omega)
  have HRG := hid (show rb < g by omega)
  have HRW := hid (show w.heap.size ≤ rb by omega)
  rw [← hrb] at HRB hg2
  (try rw [← hrb])
  (try rw [← hg2])
  generalize (w.alloc (.cells z7 30)).alloc (.cells #[.slice a B.length cap, .int .i64 0, .int .i64 0, .int .i64 0] 73) = W1 at *
  clear hg hg2 hrb HSZ HA0 HA1 HRB0 HGX
  have HDH := hid (dhead_any HDM.out)
  go_wp2_with fail
  refine HDH.out.mono ?_
  intro e W2 hd
  have HJX := hid (show e = .returned (.tuple #[]) ∧ Gb g W1 W2 ∧ Js g a cap B W2 (headC.P B 0) (fun _ => True) True from by
    obtain ⟨q, hq⟩ : ∃ q, q = headC.P B 0 := ⟨_, rfl⟩
    rw [← hq] at hd ⊢
    cases q with
    | ok y => obtain ⟨x, k'⟩ := y; obtain ⟨v, rfl, rfl, h1, h2⟩ := hd; exact ⟨rfl, h2, Or.inl ⟨x, k', rfl, trivial, h1⟩⟩
    | error y => obtain ⟨c, p⟩ := y; obtain ⟨v, k', rfl, rfl, hc, h1, h2⟩ := hd; exact ⟨rfl, h2, Or.inr ⟨c, p, k', rfl, hc, trivial, h1⟩⟩)
  clear hd HDH
  obtain ⟨rfl, hgb, hj⟩ := HJX.out
  have HJ := hid hj
  have HRB := hid (hgb.at HRB.out HN1.out)
  have HBL := hid (below_gb HBL.out hgb HN0.out)
  clear hj hgb HJX HDM
  have HA := hid (belowA W2 (.cells z7 30))
  have HPB := hid (heap_alloc_new W2 (.cells z7 30))
  have HGW := hid (show g < W2.heap.size from by obtain ⟨k, c, p, h⟩ := HJ.out.dm; exact lt_blk h.box)
  have HRP := hid (show rb < W2.heap.size from lt_blk HRB.out)
  have HJ := hid (HJ.out.mv (fun k c p h => h.low' HA.out))
  have HRB := hid ((HA.out.block _ (lt_blk HRB.out)).trans HRB.out)
  have HBL2 := hid (HBL.out.trans (HA.out.mono HBL.out.size))
  have HNQ := hid (HBL.out.size)
  go_upto_region 4 with fail
  generalize W2.alloc (.cells z7 30) = W3 at *
  obtain ⟨pb, hpb⟩ : ∃ pb, pb = W2.heap.size := ⟨_, rfl⟩
  rw [← hpb] at HPB HGW HRP HNQ ⊢
  have HGP := HGW
  have HN2 := hid (show pb ≠ g by have := HGW.out; omega)
  have HC := hid (show Cst w W3 rb rb pb z7 nl nl nl nl nl ⟨[], [], [], [], [], 0, 0⟩ from ⟨HBL2.out, HRB.out, HRB.out, HPB.out, World.ownsRow_nil _ _ _ _, World.ownsRow_nil _ _ _ _, World.ownsRow_nil _ _ _ _, ⟨[], World.ownsRow_nil _ _ _ _, ⟨rfl, fun j h => absurd h (Nat.not_lt_zero j)⟩⟩, ⟨[], World.ownsRow_nil _ _ _ _, ⟨rfl, fun j h => absurd h (Nat.not_lt_zero j)⟩⟩, HNQ.out, HRW.out, by have := HRP.out; omega, by have := HRP.out; omega⟩)
  clear hpb HA HPB HRB HBL HBL2 HNQ HGW HRP HRW
  have HQ := hid (dcnt_join HJ.out 0 (128) (by decide) (by decide))
  obtain ⟨kd, cd, pd, hbx⟩ := HJ.out.dm
  have HBX := hid hbx
  clear hbx
  go_wp2_with fail
  refine HQ.out.mono ?_
  rintro e V1 ⟨n1, rfl, hn1, gb, hj⟩
  have HT1 := hid (HT0.out.trans (js_step2 (F' := fun (n : Nat) k => rd4 B (n : Int) k) HJ.out (G := fun _ k => cntD B k 0 (128) 9 0 k 0) (fun x k hx => rfl)))
  have HC := hid (cst_gb HC.out HBX.out.box gb HN0.out HN1.out HN2.out)
  have HJ := hid hj
  clear gb hj HQ HBX HT0
  have d9 : V1.cell? ⟨pb, 5, none⟩ = some (.int .i64 0) := cell_of_row _ _ 5 _ _ _ HC.out.box
  have f9 : V1.frozen? ⟨pb, 5, none⟩ = false := frz_row HC.out.box 5
  have HJ := hid (HJ.out.mv (fun k c p h => dm_new (j := 5) (v := .int .i64 (n1 : Int)) h HC.out.box HGP.out))
  have HC := hid (cst_dep (n1 : Int) HC.out)
  go_upto_region 5 with fail
  generalize V1.setCell ⟨pb, 5, none⟩ (.int .i64 (n1 : Int)) = V2 at *
  clear d9 f9
  have HQ := hid (dcnt_join HJ.out 0 (1024) (by decide) (by decide))
  obtain ⟨kd, cd, pd, hbx⟩ := HJ.out.dm
  have HBX := hid hbx
  clear hbx
  go_wp2_with fail
  refine HQ.out.mono ?_
  rintro e V3 ⟨n2, rfl, hn2, gb, hj⟩
  have HT2 := hid (HT1.out.trans (js_step2 (F' := fun (n : Nat) k => rd5 B (n1 : Int) (n : Int) 4096 k) HJ.out (G := fun _ k => cntD B k 0 (1024) 9 0 k 0) (fun x k hx => by rw [hx]; rfl)))
  have HC := hid (cst_gb HC.out HBX.out.box gb HN0.out HN1.out HN2.out)
  have HJ := hid hj
  clear gb hj HQ HBX HT1
  have d9 : V3.cell? ⟨pb, 6, none⟩ = some (.int .i64 0) := cell_of_row _ _ 6 _ _ _ HC.out.box
  have f9 : V3.frozen? ⟨pb, 6, none⟩ = false := frz_row HC.out.box 6
  have HJ := hid (HJ.out.mv (fun k c p h => dm_new (j := 6) (v := .int .i64 (n2 : Int)) h HC.out.box HGP.out))
  have HC := hid (cst_loc (n2 : Int) HC.out)
  go_upto_region 6 with fail
  generalize V3.setCell ⟨pb, 6, none⟩ (.int .i64 (n2 : Int)) = V4 at *
  clear d9 f9
  have HQ := hid (dcnt_join HJ.out 0 (4096) (by decide) (by decide))
  obtain ⟨kd, cd, pd, hbx⟩ := HJ.out.dm
  have HBX := hid hbx
  clear hbx
  go_wp2_with fail
  refine HQ.out.mono ?_
  rintro e V5 ⟨n3, rfl, hn3, gb, hj⟩
  have HT3 := hid (HT2.out.trans (js_step2 (F' := fun (n : Nat) k => dbnd ((textC.ris ltS n .none).P B k) fun t k => rd6 B (n1 : Int) (n2 : Int) t (4096 - n) k) HJ.out (G := fun _ k => cntD B k 0 (4096) 9 0 k 0) (fun x k hx => by rw [hx]; rfl)))
  have HC := hid (cst_gb HC.out HBX.out.box gb HN0.out HN1.out HN2.out)
  have HJ := hid hj
  clear gb hj HQ HBX HT2
  have HQ := hid (dsx_join HJ.out (by omega))
  have HBW := hid (HC.out.bl.size)
  obtain ⟨kd, cd, pd, hbx⟩ := HJ.out.dm
  have HBX := hid hbx
  clear hbx
  go_wp2_with fail
  refine HQ.out.mono ?_
  rintro e V6 ⟨v0, tl, rfl, ho, hln, gb, hj⟩
  have HT4 := hid (HT3.out.trans (js_step2 (F' := fun t k => rd6 B (n1 : Int) (n2 : Int) t (4096 - n3) k) HJ.out (G := fun m k => (textC.ris ltS m .none).P B k) (fun x k hx => by rw [hx])))
  have HC := hid (cst_gb HC.out HBX.out.box gb HN0.out HN1.out HN2.out)
  have HJ := hid hj
  have HO := hid ho
  clear gb hj HQ HBX HT3 ho
  obtain ⟨a0, c0, rfl, _⟩ := own_form HO.out
  simp only [List.length_map] at HO ⊢
  obtain ⟨L0, hL0⟩ : ∃ L, L = tl.length := ⟨_, rfl⟩
  rw [← hL0] at hln HO ⊢
  have HL0 := hid hL0
  clear hL0
  have d9 : V6.cell? ⟨pb, 0, none⟩ = some (.slice none 0 0) := cell_of_row _ _ 0 _ _ _ HC.out.box
  have f9 : V6.frozen? ⟨pb, 0, none⟩ = false := frz_row HC.out.box 0
  have HJ := hid (HJ.out.mv (fun k c p h => dm_new (j := 0) (v := .slice a0 L0 c0) h HC.out.box HGP.out))
  have HC := hid (cst_tx (l := tl) (by rw [← HL0.out]; exact HO.out) HBW.out HC.out)
  go_upto_region 7 with fail
  generalize V6.setCell ⟨pb, 0, none⟩ (.slice a0 L0 c0) = V7 at *
  clear d9 f9
  have hm0 : L0 ≤ maxLen := by unfold maxLen; omega
  have x0 : V7.cell? ⟨pb, 0, none⟩ = some (.slice a0 L0 c0) := cell_of_row _ _ 0 _ _ _ HC.out.box
  have HSUB := hid (show (4096 : Int) - (L0 : Int) = ((4096 - L0 : Nat) : Int) by omega)
  clear HO HBW
  have HQ := hid (dcnt_join HJ.out 0 (4096 - L0) (by omega) (by decide))
  obtain ⟨kd, cd, pd, hbx⟩ := HJ.out.dm
  have HBX := hid hbx
  clear hbx
  go_wp2_with fail
  rw [HSUB.out]
  refine HQ.out.mono ?_
  rintro e V8 ⟨n5, rfl, hn5, gb, hj⟩
  have HT5 := hid (HT4.out.trans (js_step2 (F' := fun (n : Nat) k => dbnd ((sgnC.ris ltI n .none).P B k) fun u k => rd7 B (n1 : Int) (n2 : Int) tl u (4096 - L0 - n) k) HJ.out (G := fun _ k => cntD B k 0 (4096 - L0) 9 0 k 0) (fun x k hx => by rw [hx.1, ← hx.2, ← HL0.out]; rfl)))
  have HC := hid (cst_gb HC.out HBX.out.box gb HN0.out HN1.out HN2.out)
  have HJ := hid hj
  clear gb hj HQ HBX HT4
  clear x0
  have HQ := hid (dix_join HJ.out (by omega))
  have HBW := hid (HC.out.bl.size)
  obtain ⟨kd, cd, pd, hbx⟩ := HJ.out.dm
  have HBX := hid hbx
  clear hbx
  go_wp2_with fail
  refine HQ.out.mono ?_
  rintro e V9 ⟨v1, ul, rfl, ho, hlm, gb, hj⟩
  have HT6 := hid (HT5.out.trans (js_step2 (F' := fun u k => rd7 B (n1 : Int) (n2 : Int) tl u (4096 - L0 - n5) k) HJ.out (G := fun m k => (sgnC.ris ltI m .none).P B k) (fun x k hx => by rw [hx])))
  have HC := hid (cst_gb HC.out HBX.out.box gb HN0.out HN1.out HN2.out)
  have HJ := hid hj
  have HO := hid ho
  clear gb hj HQ HBX HT5 ho
  obtain ⟨a1, c1, rfl, _⟩ := own_form HO.out
  simp only [List.length_map] at HO ⊢
  obtain ⟨L1, hL1⟩ : ∃ L, L = ul.length := ⟨_, rfl⟩
  rw [← hL1] at hlm HO ⊢
  have HL1 := hid hL1
  clear hL1
  have d9 : V9.cell? ⟨pb, 1, none⟩ = some (.slice none 0 0) := cell_of_row _ _ 1 _ _ _ HC.out.box
  have f9 : V9.frozen? ⟨pb, 1, none⟩ = false := frz_row HC.out.box 1
  have HJ := hid (HJ.out.mv (fun k c p h => dm_new (j := 1) (v := .slice a1 L1 c1) h HC.out.box HGP.out))
  have HC := hid (cst_nu (l := ul) (by rw [← HL1.out]; exact HO.out) HBW.out HC.out)
  go_upto_region 8 with fail
  generalize V9.setCell ⟨pb, 1, none⟩ (.slice a1 L1 c1) = Va at *
  clear d9 f9
  clear HO HBW
  have HQ := hid (dsets_any HJ.out HC.out HN0.out HGP.out HRG.out HLW.out (by rw [← HL0.out, ← HL1.out]; omega))
  obtain ⟨kd, cd, pd, hbx⟩ := HJ.out.dm
  have HBX := hid hbx
  clear hbx
  go_wp2_with fail
  refine HQ.out.mono ?_
  rintro e Vb ⟨rfl, v2, v3, sl, nl', hcb, hj⟩
  have HT7 := hid (HT6.out.trans (js_step2 (F' := fun x k => rd9 B (n1 : Int) (n2 : Int) tl ul x.1 x.2 k) HJ.out (G := fun _ k => setsP B (4096 - tl.length - ul.length) k) (fun x k hx => by rw [hx.1, rd7_sets, ← HL0.out, hx.2])))
  have HC := hid hcb
  have HJ := hid hj
  clear hcb hj HQ HBX HT6
  obtain ⟨v1, hv1⟩ : ∃ v, v = (.slice a1 L1 c1 : Value) := ⟨_, rfl⟩
  obtain ⟨v0, hv0⟩ : ∃ v, v = (.slice a0 L0 c0 : Value) := ⟨_, rfl⟩
  rw [← hv0, ← hv1] at HC
  clear hv0 hv1
  have HQ := hid (dcnt_join HJ.out 0 (32768) (by decide) (by decide))
  obtain ⟨kd, cd, pd, hbx⟩ := HJ.out.dm
  have HBX := hid hbx
  clear hbx
  go_wp2_with fail
  refine HQ.out.mono ?_
  rintro e Vc ⟨n8, rfl, hn8, gb, hj⟩
  have HT8 := hid (HT7.out.trans (js_step2 (F' := fun (n : Nat) k => dbnd ((insC.ris (fun _ _ => true) n .none).P B k) fun c k => .ok (⟨tl, ul, sl, nl', c, (n1 : Int), (n2 : Int)⟩, k)) HJ.out (G := fun _ k => cntD B k 0 (32768) 9 0 k 0) (fun x k hx => by rw [hx]; rfl)))
  have HC := hid (cst_gb HC.out HBX.out.box gb HN0.out HN1.out HN2.out)
  have HJ := hid hj
  clear gb hj HQ HBX HT7
  have HT9 := hid (HT8.out.trans (js_step2 (F' := fun c k => .ok (⟨tl, ul, sl, nl', c, (n1 : Int), (n2 : Int)⟩, k)) HJ.out (G := fun m k => (insC.ris (fun _ _ => true) m .none).P B k) (fun x k hx => rfl)))
  have HLS := hid (js_lst (C := insC) (lt := fun _ _ => true) HJ.out)
  generalize (dbnd _ fun m k => (insC.ris (fun _ _ => true) m .none).P B k) = res at HLS HT9
  clear HJ HT8
  go_wp2_with fail
  go_loopw [8] (fun iv wr => ∃ (i : Nat) (cl : List Ins) (v : Value), i ≤ n8 ∧ cl.length = i ∧ iv = .int .i64 (i : Int) ∧ Hid (Cst w wr rb rb pb z7 v0 v1 v2 v3 v ⟨tl, ul, sl, nl', cl, (n1 : Int), (n2 : Int)⟩) ∧ Hid (Lst g a cap B insC (fun _ _ => true) n8 i cl res wr)) (fun iv _ => n8 - (intOf iv).toNat)
  case atStart => exact ⟨0, [], nl, Nat.zero_le _, rfl, rfl, HC, HLS⟩
  case round =>
    clear HC HLS
    obtain ⟨i, cl, v, hi, hl, rfl, HC, HS⟩ := hrel
    have HLL := hid hl
    by_cases hlt : i < n8
    · have g1 : (i : Int) < (n8 : Int) := by omega
      rcases HS.out with ⟨kk, hd, hE⟩ | ⟨c, p, kk, hc0, hd, hE⟩
      · have HD0 := hid hd
        have HE := hid hE
        have HIN := hid hlt
        have c2 : wr.cell? ⟨g, 2, none⟩ = some (.int .i64 0) := cell_of_row _ _ 2 _ _ _ hd.box
        have HDI := hid (dins_any hd)
        clear hd hE HS hl
        go_wp2_with fail
        clear c2
        refine HDI.out.mono ?_
        intro e w1 hd
        have HX := hid (show ∃ x : Ins, e = .returned (.agg (insV x)) ∧ Gb g wr w1 ∧ ((∃ k1, insC.P B kk = .ok (x, k1) ∧ Dm g a cap B w1 k1 0 0) ∨ ∃ c p k1, insC.P B kk = .error (c, p) ∧ c ≠ 0 ∧ Dm g a cap B w1 k1 c p) from by
          obtain ⟨q, hq⟩ : ∃ q, q = insC.P B kk := ⟨_, rfl⟩
          rw [← hq] at hd ⊢
          cases q with
          | ok y => obtain ⟨x, k'⟩ := y; obtain ⟨v, rfl, rfl, h1, h2⟩ := hd; exact ⟨x, rfl, h2, Or.inl ⟨k', rfl, h1⟩⟩
          | error y => obtain ⟨c, p⟩ := y; obtain ⟨v, k', rfl, ⟨x, rfl⟩, hc, h1, h2⟩ := hd; exact ⟨x, rfl, h2, Or.inr ⟨c, p, k', rfl, hc, h1⟩⟩)
        obtain ⟨x, rfl, gb, hxx⟩ := HX.out
        have HC := hid (cst_gb HC.out HD0.out.box gb HN0.out HN1.out HN2.out)
        have HXX := hid hxx
        clear hd HX gb hxx HD0 HDI
        obtain ⟨xo, xa, xb, xc⟩ := x
        unfold insV
        simp only
        have HAX := hid (belowA w1 (.cells #[.int .i64 xo, .int .i64 xa, .int .i64 xb, .int .i64 xc] 68))
        have HTX := hid (heap_alloc_new w1 (.cells #[.int .i64 xo, .int .i64 xa, .int .i64 xb, .int .i64 xc] 68))
        have HC := hid (HC.out.low HAX.out)
        go_upto_region 14 with fail
        generalize w1.alloc (.cells #[.int .i64 xo, .int .i64 xa, .int .i64 xb, .int .i64 xc] 68) = w3 at *
        obtain ⟨xq, hxq⟩ : ∃ q, q = w1.heap.size := ⟨_, rfl⟩
        rw [← hxq] at HTX ⊢
        clear hxq
        have t0 : w3.cell? ⟨xq, 0, none⟩ = some (.int .i64 xo) := cell_of_row _ _ 0 _ _ _ HTX.out
        have t1 : w3.cell? ⟨xq, 1, none⟩ = some (.int .i64 xa) := cell_of_row _ _ 1 _ _ _ HTX.out
        have t2 : w3.cell? ⟨xq, 2, none⟩ = some (.int .i64 xb) := cell_of_row _ _ 2 _ _ _ HTX.out
        have t3 : w3.cell? ⟨xq, 3, none⟩ = some (.int .i64 xc) := cell_of_row _ _ 3 _ _ _ HTX.out
        obtain ⟨ya, yn, yc, rfl⟩ := slice_own HC.out.cd
        have y4 : w3.cell? ⟨pb, 4, none⟩ = some (.slice ya yn yc) := cell_of_row _ _ 4 _ _ _ HC.out.box
        have HRR := hid (show w3.ownsRow w.heap.size 68 4 (.slice ya yn yc) i (insX cl) from by have h := HC.out.cd; simp only at h; rw [HLL.out] at h; exact h)
        have hil : i ≤ 1000000 := by omega
        have HBS := hid (show w.heap.size ≤ w3.heap.size from HC.out.bl.size)
        go_wp2_with (at_builtin; go_loud (refine wpl_c rfl _ _ rfl w.heap.size (.slice ya yn yc) i (insX cl) ⟨xo, xa, xb, xc⟩ rfl HRR.out rfl hil HBS.out ?_))
        intro v' w4 ho' hg'
        obtain ⟨va', vn', vc', rfl⟩ := slice_own ho'
        have HST := hid (cst_cd (x := ⟨xo, xa, xb, xc⟩) HC.out (by rw [HLL.out]; exact ho') hg')
        have HMV := hid (fun (k c p : Nat) (h : Dm g a cap B w1 k c p) => dm_new (j := 4) (v := .slice va' vn' vc') (dm_grow (h.low' HAX.out) HRR.out (by decide) HLW.out HN0.out hg') HST.out.1 HGP.out)
        have HLN := hid (lst_all HE.out HIN.out HXX.out HMV.out)
        have d4 : w4.cell? ⟨pb, 4, none⟩ = some (.slice ya yn yc) := cell_of_row _ _ 4 _ _ _ HST.out.1
        have f4 : w4.frozen? ⟨pb, 4, none⟩ = false := frz_row HST.out.1 4
        have HC4 := hid HST.out.2
        clear ho' hg' y4 t0 t1 t2 t3 HST HRR HBS HC HMV HXX HTX
        go_wp2_with fail
        exact ⟨⟨i + 1, cl ++ [⟨xo, xa, xb, xc⟩], .slice va' vn' vc', by omega, by simp [HLL.out], by go_num, HC4, HLN⟩, by simp [intOf]; omega⟩
      · have HJ1 := hid (show Js g a cap B wr res (fun x => x = cl ∧ cl.length = n8) True from Or.inr ⟨c, p, kk, hE, hc0, trivial, hd⟩)
        have e1 : ((c : Int) != 0) = true := by simpa using hc0
        have e2 : ((c : Int) == 0) = false := by simpa using hc0
        have c2 : wr.cell? ⟨g, 2, none⟩ = some (.int .i64 (c : Int)) := cell_of_row _ _ 2 _ _ _ hd.box
        clear hc0 hd hE hl HS HLL
        go_upto_region 15 with fail
        clear c2 e1 e2
        rcases HJ1.out with ⟨cc, kz, hr, ⟨rfl, _⟩, hd⟩ | ⟨c, p, kz, hr, hc, _, hd⟩
        · have HTT := hid (show T = .ok (⟨tl, ul, sl, nl', cc, (n1 : Int), (n2 : Int)⟩, kz) from by rw [HT9.out, hr]; rfl)
          have HD := hid hd
          have c1 : wr.cell? ⟨g, 1, none⟩ = some (.int .i64 (kz : Int)) := cell_of_row _ _ 1 _ _ _ hd.box
          have c2 : wr.cell? ⟨g, 2, none⟩ = some (.int .i64 0) := cell_of_row _ _ 2 _ _ _ hd.box
          have hkl := hd.le
          clear hr hd HJ1
          by_cases hkk : kz < B.length
          · have a1 : (kz : Int) < (B.length : Int) := by omega
            have HFN := hid (show fin B T = .error (206, kz) from by rw [HTT.out]; unfold fin; simp only; rw [if_pos hkk])
            have HFA := hid (dfail_any HD.out 206 kz)
            clear hkk hkl
            go_wp2_with fail
            refine HFA.out.mono ?_
            rintro e U ⟨rfl, h1, h2⟩
            have HC := hid (cst_gb HC.out HD.out.box h2 HN0.out HN1.out HN2.out)
            have c2 : U.cell? ⟨g, 2, none⟩ = some (.int .i64 206) := cell_of_row _ _ 2 _ _ _ h1.box
            have c3 : U.cell? ⟨g, 3, none⟩ = some (.int .i64 (kz : Int)) := cell_of_row _ _ 3 _ _ _ h1.box
            clear h1 h2 HFA c1 HD
            go_upto_region 18 with fail
            rename_i aK
            have HAK := hid aK
            clear aK
            have HS2 := hid (show (U.drew).cell? ⟨g, 2, none⟩ = some (.int .i64 206) from c2)
            have HS3 := hid (show (U.drew).cell? ⟨g, 3, none⟩ = some (.int .i64 (kz : Int)) from c3)
            refine wp_region_held_drew (S := (fun Y : World => Y.cell? ⟨g, 2, none⟩ = some (.int .i64 206) ∧ Y.cell? ⟨g, 3, none⟩ = some (.int .i64 (kz : Int)))) (by kernel_rfl) ?_ (fun hHeld => ?_)
            · exact ⟨HS2.out, HS3.out⟩
            have HRZ := hid (show (U.drew).heap[rb]? = some (.cells z7 30 (0, 0)) from HC.out.res)
            have HBZ := hid (show Below w.heap.size w U.drew from HC.out.bl.drew)
            have HNR := hid HC.out.nr
            clear c2 c3
            generalize U.drew = Z0 at *
            refine wpAnyH_take (i := 0) (oi := ⟨some 85, .build 30 #[], _, _, _, none⟩) (v := ?_) rfl (by kernel_rfl) (by kernel_rfl) (by kernel_rfl) (fun _ _ _ h => h) (Or.inl ⟨by rfl, ?_⟩) (by assumption) ?_
            rotate_left
            · (intro w hSw; (try dsimp only at hSw); go_simp; try with_reducible rfl)
            try simp only [Act.put, List.setIfInBounds_toArray, List.set_cons_zero, List.set_cons_succ]
            refine wpAnyH_take (i := 1) (oi := ⟨some 86, .move (.tmp 5), _, _, _, none⟩) (v := ?_) rfl (by kernel_rfl) (by kernel_rfl) (by kernel_rfl) (fun _ _ _ h => h) (Or.inl ⟨by rfl, ?_⟩) (by assumption) ?_
            rotate_left
            · (intro w hSw; (try dsimp only at hSw); go_simp; try with_reducible rfl)
            try simp only [Act.put, List.setIfInBounds_toArray, List.set_cons_zero, List.set_cons_succ]
            refine wpAnyH_take (i := 2) (oi := ⟨some 87, .nilCheck (.tmp 86), _, _, _, none⟩) (v := ?_) rfl (by kernel_rfl) (by kernel_rfl) (by kernel_rfl) (fun _ _ _ h => h) (Or.inl ⟨by rfl, ?_⟩) (by assumption) ?_
            rotate_left
            · (intro w hSw; (try dsimp only at hSw); go_simp; try with_reducible rfl)
            try simp only [Act.put, List.setIfInBounds_toArray, List.set_cons_zero, List.set_cons_succ]
            refine wpAnyH_take (i := 3) (oi := ⟨some 88, .fieldAddr 73 (.tmp 87) 2, _, _, _, none⟩) (v := ?_) rfl (by kernel_rfl) (by kernel_rfl) (by kernel_rfl) (fun _ _ _ h => h) (Or.inl ⟨by rfl, ?_⟩) (by assumption) ?_
            rotate_left
            · (intro w hSw; (try dsimp only at hSw); go_simp; try with_reducible rfl)
            try simp only [Act.put, List.setIfInBounds_toArray, List.set_cons_zero, List.set_cons_succ]
            refine wpAnyH_take (i := 4) (oi := ⟨some 89, .load 3 (.tmp 88), _, _, _, none⟩) (v := ?_) rfl (by kernel_rfl) (by kernel_rfl) (by kernel_rfl) (fun _ _ _ h => h) (Or.inl ⟨by rfl, ?_⟩) (by assumption) ?_
            rotate_left
            · (intro w hSw; (try dsimp only at hSw); go_simp; try with_reducible rfl)
            try simp only [Act.put, List.setIfInBounds_toArray, List.set_cons_zero, List.set_cons_succ]
            refine wpAnyH_take (i := 5) (oi := ⟨some 90, .move (.tmp 5), _, _, _, none⟩) (v := ?_) rfl (by kernel_rfl) (by kernel_rfl) (by kernel_rfl) (fun _ _ _ h => h) (Or.inl ⟨by rfl, ?_⟩) (by assumption) ?_
            rotate_left
            · (intro w hSw; (try dsimp only at hSw); go_simp; try with_reducible rfl)
            try simp only [Act.put, List.setIfInBounds_toArray, List.set_cons_zero, List.set_cons_succ]
            refine wpAnyH_take (i := 6) (oi := ⟨some 91, .nilCheck (.tmp 90), _, _, _, none⟩) (v := ?_) rfl (by kernel_rfl) (by kernel_rfl) (by kernel_rfl) (fun _ _ _ h => h) (Or.inl ⟨by rfl, ?_⟩) (by assumption) ?_
            rotate_left
            · (intro w hSw; (try dsimp only at hSw); go_simp; try with_reducible rfl)
            try simp only [Act.put, List.setIfInBounds_toArray, List.set_cons_zero, List.set_cons_succ]
            refine wpAnyH_take (i := 7) (oi := ⟨some 92, .fieldAddr 73 (.tmp 91) 3, _, _, _, none⟩) (v := ?_) rfl (by kernel_rfl) (by kernel_rfl) (by kernel_rfl) (fun _ _ _ h => h) (Or.inl ⟨by rfl, ?_⟩) (by assumption) ?_
            rotate_left
            · (intro w hSw; (try dsimp only at hSw); go_simp; try with_reducible rfl)
            try simp only [Act.put, List.setIfInBounds_toArray, List.set_cons_zero, List.set_cons_succ]
            refine wpAnyH_take (i := 8) (oi := ⟨some 93, .load 3 (.tmp 92), _, _, _, none⟩) (v := ?_) rfl (by kernel_rfl) (by kernel_rfl) (by kernel_rfl) (fun _ _ _ h => h) (Or.inl ⟨by rfl, ?_⟩) (by assumption) ?_
            rotate_left
            · (intro w hSw; (try dsimp only at hSw); go_simp; try with_reducible rfl)
            try simp only [Act.put, List.setIfInBounds_toArray, List.set_cons_zero, List.set_cons_succ]
            refine wpAnyH_ready (rs := [9]) (by kernel_rfl) (by simp) ?_
            refine AllReadyH.cons (o := ⟨none, .store 30 (.tmp 2) (.tmp 85), _, _, _, none⟩) rfl (fun K hK => ?_) AllReadyH.nil
            refine wp_store_row 30 _ _ rfl rb z7 rfl rfl 30 _ HRZ.out infoPg7 rfl (by kernel_rfl) ?_
            have HGR := hid (gb_setRow (cs := z7) HRZ.out)
            have HRR := hid (setRow_heap Z0 _ _ z7 _ _ HRZ.out)
            have HBE := hid (below_gb HBZ.out HGR.out HNR.out)
            have HU2 := hid (show (Z0.setRow rb z7).cell? ⟨g, 2, none⟩ = some (.int .i64 206) from (cell_setRow (fun e => HN1.out e.symm)).trans HS2.out)
            have HU3 := hid (show (Z0.setRow rb z7).cell? ⟨g, 3, none⟩ = some (.int .i64 (kz : Int)) from (cell_setRow (fun e => HN1.out e.symm)).trans HS3.out)
            clear hHeld
            generalize Z0.setRow rb z7 = Z at *
            refine hK.out _ _ ?_ (fun hHeld => ?_)
            · exact ⟨HU2.out, HU3.out⟩
            clear hK K
            try simp only [Act.put, List.setIfInBounds_toArray, List.set_cons_zero, List.set_cons_succ]
            refine wpAnyH_take (i := 10) (oi := ⟨some 3, .assign (.tmp 89), _, _, _, none⟩) (v := ?_) rfl (by kernel_rfl) (by kernel_rfl) (by kernel_rfl) (fun _ _ _ h => h) (Or.inl ⟨by rfl, ?_⟩) (by assumption) ?_
            rotate_left
            · (intro w hSw; (try dsimp only at hSw); go_simp; try with_reducible rfl)
            try simp only [Act.put, List.setIfInBounds_toArray, List.set_cons_zero, List.set_cons_succ]
            refine wpAnyH_take (i := 11) (oi := ⟨some 4, .assign (.tmp 93), _, _, _, none⟩) (v := ?_) rfl (by kernel_rfl) (by kernel_rfl) (by kernel_rfl) (fun _ _ _ h => h) (Or.inl ⟨by rfl, ?_⟩) (by assumption) ?_
            rotate_left
            · (intro w hSw; (try dsimp only at hSw); go_simp; try with_reducible rfl)
            try simp only [Act.put, List.setIfInBounds_toArray, List.set_cons_zero, List.set_cons_succ]
            refine wpAnyH_done (by kernel_rfl) ?_ _
            refine HAK.out _ _ (wp_ret ?_)
            (try simp only [Exit.inBlock, Exit.then])
            refine bodyPost_ret (v := .tuple #[.agg z7, .int .i64 206, .int .i64 (kz : Int)]) (results_row3 Try.results15 _ Z rb 30 z7 (0, 0) _ _ _ ?_ ?_ ?_ HRR.out Try.underlying30 rfl infoPg7) rfl ?_
            · rfl
            · rfl
            · rfl
            refine ⟨?_, HBE.out⟩
            rw [HFN.out]
            exact rfl
          · have a1 : ¬ (kz : Int) < (B.length : Int) := by omega
            have HFN := hid (show fin B T = .ok ⟨tl, ul, sl, nl', cc, (n1 : Int), (n2 : Int)⟩ from by rw [HTT.out]; unfold fin; simp only; rw [if_neg hkk])
            clear hkk hkl
            obtain ⟨b0, m0, q0, rfl⟩ := slice_own HC.out.tx
            obtain ⟨b1, m1, q1, rfl⟩ := slice_own HC.out.nu
            obtain ⟨b2, m2, q2, rfl⟩ : ∃ x y z, v2 = .slice x y z := by obtain ⟨us, h, _⟩ := HC.out.st; exact slice_own h
            obtain ⟨b3, m3, q3, rfl⟩ : ∃ x y z, v3 = .slice x y z := by obtain ⟨us, h, _⟩ := HC.out.ns; exact slice_own h
            obtain ⟨b4, m4, q4, rfl⟩ := slice_own HC.out.cd
            have HGR := hid (gb_setRow (cs := #[.slice b0 m0 q0, .slice b1 m1 q1, .slice b2 m2 q2, .slice b3 m3 q3, .slice b4 m4 q4, .int .i64 (n1 : Int), .int .i64 (n2 : Int)]) HC.out.res)
            have HRR := hid (setRow_heap wr _ _ #[.slice b0 m0 q0, .slice b1 m1 q1, .slice b2 m2 q2, .slice b3 m3 q3, .slice b4 m4 q4, .int .i64 (n1 : Int), .int .i64 (n2 : Int)] _ _ HC.out.res)
            have HBE := hid (below_gb HC.out.bl HGR.out HC.out.nr)
            have HPG := hid (cst_pgr (p := ⟨tl, ul, sl, nl', cc, (n1 : Int), (n2 : Int)⟩) HC.out HGR.out rfl rfl)
            go_upto_region 19 with fail
            refine wp_region_lit ?_
            refine wpList_load_row rfl 30 _ rfl pb rfl 30 #[.slice b0 m0 q0, .slice b1 m1 q1, .slice b2 m2 q2, .slice b3 m3 q3, .slice b4 m4 q4, .int .i64 (n1 : Int), .int .i64 (n2 : Int)] (0, 0) _ HC.out.box Try.underlying30 rfl infoPg7 ?_
            try simp only [Act.put, List.setIfInBounds_toArray, List.set_cons_zero, List.set_cons_succ]
            refine wpList_store_row rfl 30 _ _ rfl rb #[.slice b0 m0 q0, .slice b1 m1 q1, .slice b2 m2 q2, .slice b3 m3 q3, .slice b4 m4 q4, .int .i64 (n1 : Int), .int .i64 (n2 : Int)] rfl rfl 30 _ HC.out.res infoPg7 rfl (by kernel_rfl) ?_
            try simp only [Act.put, List.setIfInBounds_toArray, List.set_cons_zero, List.set_cons_succ]
            generalize wr.setRow rb #[.slice b0 m0 q0, .slice b1 m1 q1, .slice b2 m2 q2, .slice b3 m3 q3, .slice b4 m4 q4, .int .i64 (n1 : Int), .int .i64 (n2 : Int)] = Z at *
            rename_i aK
            have HAK := hid aK
            clear aK
            refine wpList_plain rfl fun K hK => ?_
            have HK := hid hK
            clear hK
            go_simp
            refine HK.out _ _ ?_
            clear HK K
            try simp only [Act.put, List.setIfInBounds_toArray, List.set_cons_zero, List.set_cons_succ]
            refine wpList_plain rfl fun K hK => ?_
            have HK := hid hK
            clear hK
            go_simp
            refine HK.out _ _ ?_
            clear HK K
            try simp only [Act.put, List.setIfInBounds_toArray, List.set_cons_zero, List.set_cons_succ]
            refine wpList_nil ?_
            refine HAK.out _ _ (wp_ret ?_)
            refine bodyPost_ret (v := .tuple #[.agg #[.slice b0 m0 q0, .slice b1 m1 q1, .slice b2 m2 q2, .slice b3 m3 q3, .slice b4 m4 q4, .int .i64 (n1 : Int), .int .i64 (n2 : Int)], .int .i64 0, .int .i64 0]) (results_row3 Try.results15 _ Z rb 30 #[.slice b0 m0 q0, .slice b1 m1 q1, .slice b2 m2 q2, .slice b3 m3 q3, .slice b4 m4 q4, .int .i64 (n1 : Int), .int .i64 (n2 : Int)] (0, 0) _ _ _ ?_ ?_ ?_ HRR.out Try.underlying30 rfl infoPg7) rfl ?_
            · rfl
            · rfl
            · rfl
            refine ⟨?_, HBE.out⟩
            rw [HFN.out]
            exact ⟨_, rfl, HPG.out⟩
        · have HFN := hid (show fin B T = .error (c, p) from by rw [HT9.out, hr]; rfl)
          have c2 : wr.cell? ⟨g, 2, none⟩ = some (.int .i64 (c : Int)) := cell_of_row _ _ 2 _ _ _ hd.box
          have c3 : wr.cell? ⟨g, 3, none⟩ = some (.int .i64 (p : Int)) := cell_of_row _ _ 3 _ _ _ hd.box
          have e1 : ((c : Int) != 0) = true := by simpa using hc
          have e2 : ((c : Int) == 0) = false := by simpa using hc
          clear hr hd HJ1 hc
          go_upto_region 18 with fail
          rename_i aK
          have HAK := hid aK
          clear aK
          have HS2 := hid (show (wr.drew).cell? ⟨g, 2, none⟩ = some (.int .i64 (c : Int)) from c2)
          have HS3 := hid (show (wr.drew).cell? ⟨g, 3, none⟩ = some (.int .i64 (p : Int)) from c3)
          refine wp_region_held_drew (S := (fun Y : World => Y.cell? ⟨g, 2, none⟩ = some (.int .i64 (c : Int)) ∧ Y.cell? ⟨g, 3, none⟩ = some (.int .i64 (p : Int)))) (by kernel_rfl) ?_ (fun hHeld => ?_)
          · exact ⟨HS2.out, HS3.out⟩
          have HRZ := hid (show (wr.drew).heap[rb]? = some (.cells z7 30 (0, 0)) from HC.out.res)
          have HBZ := hid (show Below w.heap.size w wr.drew from HC.out.bl.drew)
          have HNR := hid HC.out.nr
          clear c2 c3
          generalize wr.drew = Z0 at *
          refine wpAnyH_take (i := 0) (oi := ⟨some 85, .build 30 #[], _, _, _, none⟩) (v := ?_) rfl (by kernel_rfl) (by kernel_rfl) (by kernel_rfl) (fun _ _ _ h => h) (Or.inl ⟨by rfl, ?_⟩) (by assumption) ?_
          rotate_left
          · (intro w hSw; (try dsimp only at hSw); go_simp; try with_reducible rfl)
          try simp only [Act.put, List.setIfInBounds_toArray, List.set_cons_zero, List.set_cons_succ]
          refine wpAnyH_take (i := 1) (oi := ⟨some 86, .move (.tmp 5), _, _, _, none⟩) (v := ?_) rfl (by kernel_rfl) (by kernel_rfl) (by kernel_rfl) (fun _ _ _ h => h) (Or.inl ⟨by rfl, ?_⟩) (by assumption) ?_
          rotate_left
          · (intro w hSw; (try dsimp only at hSw); go_simp; try with_reducible rfl)
          try simp only [Act.put, List.setIfInBounds_toArray, List.set_cons_zero, List.set_cons_succ]
          refine wpAnyH_take (i := 2) (oi := ⟨some 87, .nilCheck (.tmp 86), _, _, _, none⟩) (v := ?_) rfl (by kernel_rfl) (by kernel_rfl) (by kernel_rfl) (fun _ _ _ h => h) (Or.inl ⟨by rfl, ?_⟩) (by assumption) ?_
          rotate_left
          · (intro w hSw; (try dsimp only at hSw); go_simp; try with_reducible rfl)
          try simp only [Act.put, List.setIfInBounds_toArray, List.set_cons_zero, List.set_cons_succ]
          refine wpAnyH_take (i := 3) (oi := ⟨some 88, .fieldAddr 73 (.tmp 87) 2, _, _, _, none⟩) (v := ?_) rfl (by kernel_rfl) (by kernel_rfl) (by kernel_rfl) (fun _ _ _ h => h) (Or.inl ⟨by rfl, ?_⟩) (by assumption) ?_
          rotate_left
          · (intro w hSw; (try dsimp only at hSw); go_simp; try with_reducible rfl)
          try simp only [Act.put, List.setIfInBounds_toArray, List.set_cons_zero, List.set_cons_succ]
          refine wpAnyH_take (i := 4) (oi := ⟨some 89, .load 3 (.tmp 88), _, _, _, none⟩) (v := ?_) rfl (by kernel_rfl) (by kernel_rfl) (by kernel_rfl) (fun _ _ _ h => h) (Or.inl ⟨by rfl, ?_⟩) (by assumption) ?_
          rotate_left
          · (intro w hSw; (try dsimp only at hSw); go_simp; try with_reducible rfl)
          try simp only [Act.put, List.setIfInBounds_toArray, List.set_cons_zero, List.set_cons_succ]
          refine wpAnyH_take (i := 5) (oi := ⟨some 90, .move (.tmp 5), _, _, _, none⟩) (v := ?_) rfl (by kernel_rfl) (by kernel_rfl) (by kernel_rfl) (fun _ _ _ h => h) (Or.inl ⟨by rfl, ?_⟩) (by assumption) ?_
          rotate_left
          · (intro w hSw; (try dsimp only at hSw); go_simp; try with_reducible rfl)
          try simp only [Act.put, List.setIfInBounds_toArray, List.set_cons_zero, List.set_cons_succ]
          refine wpAnyH_take (i := 6) (oi := ⟨some 91, .nilCheck (.tmp 90), _, _, _, none⟩) (v := ?_) rfl (by kernel_rfl) (by kernel_rfl) (by kernel_rfl) (fun _ _ _ h => h) (Or.inl ⟨by rfl, ?_⟩) (by assumption) ?_
          rotate_left
          · (intro w hSw; (try dsimp only at hSw); go_simp; try with_reducible rfl)
          try simp only [Act.put, List.setIfInBounds_toArray, List.set_cons_zero, List.set_cons_succ]
          refine wpAnyH_take (i := 7) (oi := ⟨some 92, .fieldAddr 73 (.tmp 91) 3, _, _, _, none⟩) (v := ?_) rfl (by kernel_rfl) (by kernel_rfl) (by kernel_rfl) (fun _ _ _ h => h) (Or.inl ⟨by rfl, ?_⟩) (by assumption) ?_
          rotate_left
          · (intro w hSw; (try dsimp only at hSw); go_simp; try with_reducible rfl)
          try simp only [Act.put, List.setIfInBounds_toArray, List.set_cons_zero, List.set_cons_succ]
          refine wpAnyH_take (i := 8) (oi := ⟨some 93, .load 3 (.tmp 92), _, _, _, none⟩) (v := ?_) rfl (by kernel_rfl) (by kernel_rfl) (by kernel_rfl) (fun _ _ _ h => h) (Or.inl ⟨by rfl, ?_⟩) (by assumption) ?_
          rotate_left
          · (intro w hSw; (try dsimp only at hSw); go_simp; try with_reducible rfl)
          try simp only [Act.put, List.setIfInBounds_toArray, List.set_cons_zero, List.set_cons_succ]
          refine wpAnyH_ready (rs := [9]) (by kernel_rfl) (by simp) ?_
          refine AllReadyH.cons (o := ⟨none, .store 30 (.tmp 2) (.tmp 85), _, _, _, none⟩) rfl (fun K hK => ?_) AllReadyH.nil
          refine wp_store_row 30 _ _ rfl rb z7 rfl rfl 30 _ HRZ.out infoPg7 rfl (by kernel_rfl) ?_
          have HGR := hid (gb_setRow (cs := z7) HRZ.out)
          have HRR := hid (setRow_heap Z0 _ _ z7 _ _ HRZ.out)
          have HBE := hid (below_gb HBZ.out HGR.out HNR.out)
          have HU2 := hid (show (Z0.setRow rb z7).cell? ⟨g, 2, none⟩ = some (.int .i64 (c : Int)) from (cell_setRow (fun e => HN1.out e.symm)).trans HS2.out)
          have HU3 := hid (show (Z0.setRow rb z7).cell? ⟨g, 3, none⟩ = some (.int .i64 (p : Int)) from (cell_setRow (fun e => HN1.out e.symm)).trans HS3.out)
          clear hHeld
          generalize Z0.setRow rb z7 = Z at *
          refine hK.out _ _ ?_ (fun hHeld => ?_)
          · exact ⟨HU2.out, HU3.out⟩
          clear hK K
          try simp only [Act.put, List.setIfInBounds_toArray, List.set_cons_zero, List.set_cons_succ]
          refine wpAnyH_take (i := 10) (oi := ⟨some 3, .assign (.tmp 89), _, _, _, none⟩) (v := ?_) rfl (by kernel_rfl) (by kernel_rfl) (by kernel_rfl) (fun _ _ _ h => h) (Or.inl ⟨by rfl, ?_⟩) (by assumption) ?_
          rotate_left
          · (intro w hSw; (try dsimp only at hSw); go_simp; try with_reducible rfl)
          try simp only [Act.put, List.setIfInBounds_toArray, List.set_cons_zero, List.set_cons_succ]
          refine wpAnyH_take (i := 11) (oi := ⟨some 4, .assign (.tmp 93), _, _, _, none⟩) (v := ?_) rfl (by kernel_rfl) (by kernel_rfl) (by kernel_rfl) (fun _ _ _ h => h) (Or.inl ⟨by rfl, ?_⟩) (by assumption) ?_
          rotate_left
          · (intro w hSw; (try dsimp only at hSw); go_simp; try with_reducible rfl)
          try simp only [Act.put, List.setIfInBounds_toArray, List.set_cons_zero, List.set_cons_succ]
          refine wpAnyH_done (by kernel_rfl) ?_ _
          refine HAK.out _ _ (wp_ret ?_)
          (try simp only [Exit.inBlock, Exit.then])
          refine bodyPost_ret (v := .tuple #[.agg z7, .int .i64 (c : Int), .int .i64 (p : Int)]) (results_row3 Try.results15 _ Z rb 30 z7 (0, 0) _ _ _ ?_ ?_ ?_ HRR.out Try.underlying30 rfl infoPg7) rfl ?_
          · rfl
          · rfl
          · rfl
          refine ⟨?_, HBE.out⟩
          rw [HFN.out]
          exact rfl
    · obtain rfl : i = n8 := by omega
      have g1 : ¬ (i : Int) < (i : Int) := by omega
      have HJ1 := hid (lst_js HS.out hl)
      clear hl HS HLL hlt
      go_upto_region 15 with fail
      rcases HJ1.out with ⟨cc, kz, hr, ⟨rfl, _⟩, hd⟩ | ⟨c, p, kz, hr, hc, _, hd⟩
      · have HTT := hid (show T = .ok (⟨tl, ul, sl, nl', cc, (n1 : Int), (n2 : Int)⟩, kz) from by rw [HT9.out, hr]; rfl)
        have HD := hid hd
        have c1 : wr.cell? ⟨g, 1, none⟩ = some (.int .i64 (kz : Int)) := cell_of_row _ _ 1 _ _ _ hd.box
        have c2 : wr.cell? ⟨g, 2, none⟩ = some (.int .i64 0) := cell_of_row _ _ 2 _ _ _ hd.box
        have hkl := hd.le
        clear hr hd HJ1
        by_cases hkk : kz < B.length
        · have a1 : (kz : Int) < (B.length : Int) := by omega
          have HFN := hid (show fin B T = .error (206, kz) from by rw [HTT.out]; unfold fin; simp only; rw [if_pos hkk])
          have HFA := hid (dfail_any HD.out 206 kz)
          clear hkk hkl
          go_wp2_with fail
          refine HFA.out.mono ?_
          rintro e U ⟨rfl, h1, h2⟩
          have HC := hid (cst_gb HC.out HD.out.box h2 HN0.out HN1.out HN2.out)
          have c2 : U.cell? ⟨g, 2, none⟩ = some (.int .i64 206) := cell_of_row _ _ 2 _ _ _ h1.box
          have c3 : U.cell? ⟨g, 3, none⟩ = some (.int .i64 (kz : Int)) := cell_of_row _ _ 3 _ _ _ h1.box
          clear h1 h2 HFA c1 HD
          go_upto_region 18 with fail
          rename_i aK
          have HAK := hid aK
          clear aK
          have HS2 := hid (show (U.drew).cell? ⟨g, 2, none⟩ = some (.int .i64 206) from c2)
          have HS3 := hid (show (U.drew).cell? ⟨g, 3, none⟩ = some (.int .i64 (kz : Int)) from c3)
          refine wp_region_held_drew (S := (fun Y : World => Y.cell? ⟨g, 2, none⟩ = some (.int .i64 206) ∧ Y.cell? ⟨g, 3, none⟩ = some (.int .i64 (kz : Int)))) (by kernel_rfl) ?_ (fun hHeld => ?_)
          · exact ⟨HS2.out, HS3.out⟩
          have HRZ := hid (show (U.drew).heap[rb]? = some (.cells z7 30 (0, 0)) from HC.out.res)
          have HBZ := hid (show Below w.heap.size w U.drew from HC.out.bl.drew)
          have HNR := hid HC.out.nr
          clear c2 c3
          generalize U.drew = Z0 at *
          refine wpAnyH_take (i := 0) (oi := ⟨some 85, .build 30 #[], _, _, _, none⟩) (v := ?_) rfl (by kernel_rfl) (by kernel_rfl) (by kernel_rfl) (fun _ _ _ h => h) (Or.inl ⟨by rfl, ?_⟩) (by assumption) ?_
          rotate_left
          · (intro w hSw; (try dsimp only at hSw); go_simp; try with_reducible rfl)
          try simp only [Act.put, List.setIfInBounds_toArray, List.set_cons_zero, List.set_cons_succ]
          refine wpAnyH_take (i := 1) (oi := ⟨some 86, .move (.tmp 5), _, _, _, none⟩) (v := ?_) rfl (by kernel_rfl) (by kernel_rfl) (by kernel_rfl) (fun _ _ _ h => h) (Or.inl ⟨by rfl, ?_⟩) (by assumption) ?_
          rotate_left
          · (intro w hSw; (try dsimp only at hSw); go_simp; try with_reducible rfl)
          try simp only [Act.put, List.setIfInBounds_toArray, List.set_cons_zero, List.set_cons_succ]
          refine wpAnyH_take (i := 2) (oi := ⟨some 87, .nilCheck (.tmp 86), _, _, _, none⟩) (v := ?_) rfl (by kernel_rfl) (by kernel_rfl) (by kernel_rfl) (fun _ _ _ h => h) (Or.inl ⟨by rfl, ?_⟩) (by assumption) ?_
          rotate_left
          · (intro w hSw; (try dsimp only at hSw); go_simp; try with_reducible rfl)
          try simp only [Act.put, List.setIfInBounds_toArray, List.set_cons_zero, List.set_cons_succ]
          refine wpAnyH_take (i := 3) (oi := ⟨some 88, .fieldAddr 73 (.tmp 87) 2, _, _, _, none⟩) (v := ?_) rfl (by kernel_rfl) (by kernel_rfl) (by kernel_rfl) (fun _ _ _ h => h) (Or.inl ⟨by rfl, ?_⟩) (by assumption) ?_
          rotate_left
          · (intro w hSw; (try dsimp only at hSw); go_simp; try with_reducible rfl)
          try simp only [Act.put, List.setIfInBounds_toArray, List.set_cons_zero, List.set_cons_succ]
          refine wpAnyH_take (i := 4) (oi := ⟨some 89, .load 3 (.tmp 88), _, _, _, none⟩) (v := ?_) rfl (by kernel_rfl) (by kernel_rfl) (by kernel_rfl) (fun _ _ _ h => h) (Or.inl ⟨by rfl, ?_⟩) (by assumption) ?_
          rotate_left
          · (intro w hSw; (try dsimp only at hSw); go_simp; try with_reducible rfl)
          try simp only [Act.put, List.setIfInBounds_toArray, List.set_cons_zero, List.set_cons_succ]
          refine wpAnyH_take (i := 5) (oi := ⟨some 90, .move (.tmp 5), _, _, _, none⟩) (v := ?_) rfl (by kernel_rfl) (by kernel_rfl) (by kernel_rfl) (fun _ _ _ h => h) (Or.inl ⟨by rfl, ?_⟩) (by assumption) ?_
          rotate_left
          · (intro w hSw; (try dsimp only at hSw); go_simp; try with_reducible rfl)
          try simp only [Act.put, List.setIfInBounds_toArray, List.set_cons_zero, List.set_cons_succ]
          refine wpAnyH_take (i := 6) (oi := ⟨some 91, .nilCheck (.tmp 90), _, _, _, none⟩) (v := ?_) rfl (by kernel_rfl) (by kernel_rfl) (by kernel_rfl) (fun _ _ _ h => h) (Or.inl ⟨by rfl, ?_⟩) (by assumption) ?_
          rotate_left
          · (intro w hSw; (try dsimp only at hSw); go_simp; try with_reducible rfl)
          try simp only [Act.put, List.setIfInBounds_toArray, List.set_cons_zero, List.set_cons_succ]
          refine wpAnyH_take (i := 7) (oi := ⟨some 92, .fieldAddr 73 (.tmp 91) 3, _, _, _, none⟩) (v := ?_) rfl (by kernel_rfl) (by kernel_rfl) (by kernel_rfl) (fun _ _ _ h => h) (Or.inl ⟨by rfl, ?_⟩) (by assumption) ?_
          rotate_left
          · (intro w hSw; (try dsimp only at hSw); go_simp; try with_reducible rfl)
          try simp only [Act.put, List.setIfInBounds_toArray, List.set_cons_zero, List.set_cons_succ]
          refine wpAnyH_take (i := 8) (oi := ⟨some 93, .load 3 (.tmp 92), _, _, _, none⟩) (v := ?_) rfl (by kernel_rfl) (by kernel_rfl) (by kernel_rfl) (fun _ _ _ h => h) (Or.inl ⟨by rfl, ?_⟩) (by assumption) ?_
          rotate_left
          · (intro w hSw; (try dsimp only at hSw); go_simp; try with_reducible rfl)
          try simp only [Act.put, List.setIfInBounds_toArray, List.set_cons_zero, List.set_cons_succ]
          refine wpAnyH_ready (rs := [9]) (by kernel_rfl) (by simp) ?_
          refine AllReadyH.cons (o := ⟨none, .store 30 (.tmp 2) (.tmp 85), _, _, _, none⟩) rfl (fun K hK => ?_) AllReadyH.nil
          refine wp_store_row 30 _ _ rfl rb z7 rfl rfl 30 _ HRZ.out infoPg7 rfl (by kernel_rfl) ?_
          have HGR := hid (gb_setRow (cs := z7) HRZ.out)
          have HRR := hid (setRow_heap Z0 _ _ z7 _ _ HRZ.out)
          have HBE := hid (below_gb HBZ.out HGR.out HNR.out)
          have HU2 := hid (show (Z0.setRow rb z7).cell? ⟨g, 2, none⟩ = some (.int .i64 206) from (cell_setRow (fun e => HN1.out e.symm)).trans HS2.out)
          have HU3 := hid (show (Z0.setRow rb z7).cell? ⟨g, 3, none⟩ = some (.int .i64 (kz : Int)) from (cell_setRow (fun e => HN1.out e.symm)).trans HS3.out)
          clear hHeld
          generalize Z0.setRow rb z7 = Z at *
          refine hK.out _ _ ?_ (fun hHeld => ?_)
          · exact ⟨HU2.out, HU3.out⟩
          clear hK K
          try simp only [Act.put, List.setIfInBounds_toArray, List.set_cons_zero, List.set_cons_succ]
          refine wpAnyH_take (i := 10) (oi := ⟨some 3, .assign (.tmp 89), _, _, _, none⟩) (v := ?_) rfl (by kernel_rfl) (by kernel_rfl) (by kernel_rfl) (fun _ _ _ h => h) (Or.inl ⟨by rfl, ?_⟩) (by assumption) ?_
          rotate_left
          · (intro w hSw; (try dsimp only at hSw); go_simp; try with_reducible rfl)
          try simp only [Act.put, List.setIfInBounds_toArray, List.set_cons_zero, List.set_cons_succ]
          refine wpAnyH_take (i := 11) (oi := ⟨some 4, .assign (.tmp 93), _, _, _, none⟩) (v := ?_) rfl (by kernel_rfl) (by kernel_rfl) (by kernel_rfl) (fun _ _ _ h => h) (Or.inl ⟨by rfl, ?_⟩) (by assumption) ?_
          rotate_left
          · (intro w hSw; (try dsimp only at hSw); go_simp; try with_reducible rfl)
          try simp only [Act.put, List.setIfInBounds_toArray, List.set_cons_zero, List.set_cons_succ]
          refine wpAnyH_done (by kernel_rfl) ?_ _
          refine HAK.out _ _ (wp_ret ?_)
          (try simp only [Exit.inBlock, Exit.then])
          refine bodyPost_ret (v := .tuple #[.agg z7, .int .i64 206, .int .i64 (kz : Int)]) (results_row3 Try.results15 _ Z rb 30 z7 (0, 0) _ _ _ ?_ ?_ ?_ HRR.out Try.underlying30 rfl infoPg7) rfl ?_
          · rfl
          · rfl
          · rfl
          refine ⟨?_, HBE.out⟩
          rw [HFN.out]
          exact rfl
        · have a1 : ¬ (kz : Int) < (B.length : Int) := by omega
          have HFN := hid (show fin B T = .ok ⟨tl, ul, sl, nl', cc, (n1 : Int), (n2 : Int)⟩ from by rw [HTT.out]; unfold fin; simp only; rw [if_neg hkk])
          clear hkk hkl
          obtain ⟨b0, m0, q0, rfl⟩ := slice_own HC.out.tx
          obtain ⟨b1, m1, q1, rfl⟩ := slice_own HC.out.nu
          obtain ⟨b2, m2, q2, rfl⟩ : ∃ x y z, v2 = .slice x y z := by obtain ⟨us, h, _⟩ := HC.out.st; exact slice_own h
          obtain ⟨b3, m3, q3, rfl⟩ : ∃ x y z, v3 = .slice x y z := by obtain ⟨us, h, _⟩ := HC.out.ns; exact slice_own h
          obtain ⟨b4, m4, q4, rfl⟩ := slice_own HC.out.cd
          have HGR := hid (gb_setRow (cs := #[.slice b0 m0 q0, .slice b1 m1 q1, .slice b2 m2 q2, .slice b3 m3 q3, .slice b4 m4 q4, .int .i64 (n1 : Int), .int .i64 (n2 : Int)]) HC.out.res)
          have HRR := hid (setRow_heap wr _ _ #[.slice b0 m0 q0, .slice b1 m1 q1, .slice b2 m2 q2, .slice b3 m3 q3, .slice b4 m4 q4, .int .i64 (n1 : Int), .int .i64 (n2 : Int)] _ _ HC.out.res)
          have HBE := hid (below_gb HC.out.bl HGR.out HC.out.nr)
          have HPG := hid (cst_pgr (p := ⟨tl, ul, sl, nl', cc, (n1 : Int), (n2 : Int)⟩) HC.out HGR.out rfl rfl)
          go_upto_region 19 with fail
          refine wp_region_lit ?_
          refine wpList_load_row rfl 30 _ rfl pb rfl 30 #[.slice b0 m0 q0, .slice b1 m1 q1, .slice b2 m2 q2, .slice b3 m3 q3, .slice b4 m4 q4, .int .i64 (n1 : Int), .int .i64 (n2 : Int)] (0, 0) _ HC.out.box Try.underlying30 rfl infoPg7 ?_
          try simp only [Act.put, List.setIfInBounds_toArray, List.set_cons_zero, List.set_cons_succ]
          refine wpList_store_row rfl 30 _ _ rfl rb #[.slice b0 m0 q0, .slice b1 m1 q1, .slice b2 m2 q2, .slice b3 m3 q3, .slice b4 m4 q4, .int .i64 (n1 : Int), .int .i64 (n2 : Int)] rfl rfl 30 _ HC.out.res infoPg7 rfl (by kernel_rfl) ?_
          try simp only [Act.put, List.setIfInBounds_toArray, List.set_cons_zero, List.set_cons_succ]
          generalize wr.setRow rb #[.slice b0 m0 q0, .slice b1 m1 q1, .slice b2 m2 q2, .slice b3 m3 q3, .slice b4 m4 q4, .int .i64 (n1 : Int), .int .i64 (n2 : Int)] = Z at *
          rename_i aK
          have HAK := hid aK
          clear aK
          refine wpList_plain rfl fun K hK => ?_
          have HK := hid hK
          clear hK
          go_simp
          refine HK.out _ _ ?_
          clear HK K
          try simp only [Act.put, List.setIfInBounds_toArray, List.set_cons_zero, List.set_cons_succ]
          refine wpList_plain rfl fun K hK => ?_
          have HK := hid hK
          clear hK
          go_simp
          refine HK.out _ _ ?_
          clear HK K
          try simp only [Act.put, List.setIfInBounds_toArray, List.set_cons_zero, List.set_cons_succ]
          refine wpList_nil ?_
          refine HAK.out _ _ (wp_ret ?_)
          refine bodyPost_ret (v := .tuple #[.agg #[.slice b0 m0 q0, .slice b1 m1 q1, .slice b2 m2 q2, .slice b3 m3 q3, .slice b4 m4 q4, .int .i64 (n1 : Int), .int .i64 (n2 : Int)], .int .i64 0, .int .i64 0]) (results_row3 Try.results15 _ Z rb 30 #[.slice b0 m0 q0, .slice b1 m1 q1, .slice b2 m2 q2, .slice b3 m3 q3, .slice b4 m4 q4, .int .i64 (n1 : Int), .int .i64 (n2 : Int)] (0, 0) _ _ _ ?_ ?_ ?_ HRR.out Try.underlying30 rfl infoPg7) rfl ?_
          · rfl
          · rfl
          · rfl
          refine ⟨?_, HBE.out⟩
          rw [HFN.out]
          exact ⟨_, rfl, HPG.out⟩
      · have HFN := hid (show fin B T = .error (c, p) from by rw [HT9.out, hr]; rfl)
        have c2 : wr.cell? ⟨g, 2, none⟩ = some (.int .i64 (c : Int)) := cell_of_row _ _ 2 _ _ _ hd.box
        have c3 : wr.cell? ⟨g, 3, none⟩ = some (.int .i64 (p : Int)) := cell_of_row _ _ 3 _ _ _ hd.box
        have e1 : ((c : Int) != 0) = true := by simpa using hc
        have e2 : ((c : Int) == 0) = false := by simpa using hc
        clear hr hd HJ1 hc
        go_upto_region 18 with fail
        rename_i aK
        have HAK := hid aK
        clear aK
        have HS2 := hid (show (wr.drew).cell? ⟨g, 2, none⟩ = some (.int .i64 (c : Int)) from c2)
        have HS3 := hid (show (wr.drew).cell? ⟨g, 3, none⟩ = some (.int .i64 (p : Int)) from c3)
        refine wp_region_held_drew (S := (fun Y : World => Y.cell? ⟨g, 2, none⟩ = some (.int .i64 (c : Int)) ∧ Y.cell? ⟨g, 3, none⟩ = some (.int .i64 (p : Int)))) (by kernel_rfl) ?_ (fun hHeld => ?_)
        · exact ⟨HS2.out, HS3.out⟩
        have HRZ := hid (show (wr.drew).heap[rb]? = some (.cells z7 30 (0, 0)) from HC.out.res)
        have HBZ := hid (show Below w.heap.size w wr.drew from HC.out.bl.drew)
        have HNR := hid HC.out.nr
        clear c2 c3
        generalize wr.drew = Z0 at *
        refine wpAnyH_take (i := 0) (oi := ⟨some 85, .build 30 #[], _, _, _, none⟩) (v := ?_) rfl (by kernel_rfl) (by kernel_rfl) (by kernel_rfl) (fun _ _ _ h => h) (Or.inl ⟨by rfl, ?_⟩) (by assumption) ?_
        rotate_left
        · (intro w hSw; (try dsimp only at hSw); go_simp; try with_reducible rfl)
        try simp only [Act.put, List.setIfInBounds_toArray, List.set_cons_zero, List.set_cons_succ]
        refine wpAnyH_take (i := 1) (oi := ⟨some 86, .move (.tmp 5), _, _, _, none⟩) (v := ?_) rfl (by kernel_rfl) (by kernel_rfl) (by kernel_rfl) (fun _ _ _ h => h) (Or.inl ⟨by rfl, ?_⟩) (by assumption) ?_
        rotate_left
        · (intro w hSw; (try dsimp only at hSw); go_simp; try with_reducible rfl)
        try simp only [Act.put, List.setIfInBounds_toArray, List.set_cons_zero, List.set_cons_succ]
        refine wpAnyH_take (i := 2) (oi := ⟨some 87, .nilCheck (.tmp 86), _, _, _, none⟩) (v := ?_) rfl (by kernel_rfl) (by kernel_rfl) (by kernel_rfl) (fun _ _ _ h => h) (Or.inl ⟨by rfl, ?_⟩) (by assumption) ?_
        rotate_left
        · (intro w hSw; (try dsimp only at hSw); go_simp; try with_reducible rfl)
        try simp only [Act.put, List.setIfInBounds_toArray, List.set_cons_zero, List.set_cons_succ]
        refine wpAnyH_take (i := 3) (oi := ⟨some 88, .fieldAddr 73 (.tmp 87) 2, _, _, _, none⟩) (v := ?_) rfl (by kernel_rfl) (by kernel_rfl) (by kernel_rfl) (fun _ _ _ h => h) (Or.inl ⟨by rfl, ?_⟩) (by assumption) ?_
        rotate_left
        · (intro w hSw; (try dsimp only at hSw); go_simp; try with_reducible rfl)
        try simp only [Act.put, List.setIfInBounds_toArray, List.set_cons_zero, List.set_cons_succ]
        refine wpAnyH_take (i := 4) (oi := ⟨some 89, .load 3 (.tmp 88), _, _, _, none⟩) (v := ?_) rfl (by kernel_rfl) (by kernel_rfl) (by kernel_rfl) (fun _ _ _ h => h) (Or.inl ⟨by rfl, ?_⟩) (by assumption) ?_
        rotate_left
        · (intro w hSw; (try dsimp only at hSw); go_simp; try with_reducible rfl)
        try simp only [Act.put, List.setIfInBounds_toArray, List.set_cons_zero, List.set_cons_succ]
        refine wpAnyH_take (i := 5) (oi := ⟨some 90, .move (.tmp 5), _, _, _, none⟩) (v := ?_) rfl (by kernel_rfl) (by kernel_rfl) (by kernel_rfl) (fun _ _ _ h => h) (Or.inl ⟨by rfl, ?_⟩) (by assumption) ?_
        rotate_left
        · (intro w hSw; (try dsimp only at hSw); go_simp; try with_reducible rfl)
        try simp only [Act.put, List.setIfInBounds_toArray, List.set_cons_zero, List.set_cons_succ]
        refine wpAnyH_take (i := 6) (oi := ⟨some 91, .nilCheck (.tmp 90), _, _, _, none⟩) (v := ?_) rfl (by kernel_rfl) (by kernel_rfl) (by kernel_rfl) (fun _ _ _ h => h) (Or.inl ⟨by rfl, ?_⟩) (by assumption) ?_
        rotate_left
        · (intro w hSw; (try dsimp only at hSw); go_simp; try with_reducible rfl)
        try simp only [Act.put, List.setIfInBounds_toArray, List.set_cons_zero, List.set_cons_succ]
        refine wpAnyH_take (i := 7) (oi := ⟨some 92, .fieldAddr 73 (.tmp 91) 3, _, _, _, none⟩) (v := ?_) rfl (by kernel_rfl) (by kernel_rfl) (by kernel_rfl) (fun _ _ _ h => h) (Or.inl ⟨by rfl, ?_⟩) (by assumption) ?_
        rotate_left
        · (intro w hSw; (try dsimp only at hSw); go_simp; try with_reducible rfl)
        try simp only [Act.put, List.setIfInBounds_toArray, List.set_cons_zero, List.set_cons_succ]
        refine wpAnyH_take (i := 8) (oi := ⟨some 93, .load 3 (.tmp 92), _, _, _, none⟩) (v := ?_) rfl (by kernel_rfl) (by kernel_rfl) (by kernel_rfl) (fun _ _ _ h => h) (Or.inl ⟨by rfl, ?_⟩) (by assumption) ?_
        rotate_left
        · (intro w hSw; (try dsimp only at hSw); go_simp; try with_reducible rfl)
        try simp only [Act.put, List.setIfInBounds_toArray, List.set_cons_zero, List.set_cons_succ]
        refine wpAnyH_ready (rs := [9]) (by kernel_rfl) (by simp) ?_
        refine AllReadyH.cons (o := ⟨none, .store 30 (.tmp 2) (.tmp 85), _, _, _, none⟩) rfl (fun K hK => ?_) AllReadyH.nil
        refine wp_store_row 30 _ _ rfl rb z7 rfl rfl 30 _ HRZ.out infoPg7 rfl (by kernel_rfl) ?_
        have HGR := hid (gb_setRow (cs := z7) HRZ.out)
        have HRR := hid (setRow_heap Z0 _ _ z7 _ _ HRZ.out)
        have HBE := hid (below_gb HBZ.out HGR.out HNR.out)
        have HU2 := hid (show (Z0.setRow rb z7).cell? ⟨g, 2, none⟩ = some (.int .i64 (c : Int)) from (cell_setRow (fun e => HN1.out e.symm)).trans HS2.out)
        have HU3 := hid (show (Z0.setRow rb z7).cell? ⟨g, 3, none⟩ = some (.int .i64 (p : Int)) from (cell_setRow (fun e => HN1.out e.symm)).trans HS3.out)
        clear hHeld
        generalize Z0.setRow rb z7 = Z at *
        refine hK.out _ _ ?_ (fun hHeld => ?_)
        · exact ⟨HU2.out, HU3.out⟩
        clear hK K
        try simp only [Act.put, List.setIfInBounds_toArray, List.set_cons_zero, List.set_cons_succ]
        refine wpAnyH_take (i := 10) (oi := ⟨some 3, .assign (.tmp 89), _, _, _, none⟩) (v := ?_) rfl (by kernel_rfl) (by kernel_rfl) (by kernel_rfl) (fun _ _ _ h => h) (Or.inl ⟨by rfl, ?_⟩) (by assumption) ?_
        rotate_left
        · (intro w hSw; (try dsimp only at hSw); go_simp; try with_reducible rfl)
        try simp only [Act.put, List.setIfInBounds_toArray, List.set_cons_zero, List.set_cons_succ]
        refine wpAnyH_take (i := 11) (oi := ⟨some 4, .assign (.tmp 93), _, _, _, none⟩) (v := ?_) rfl (by kernel_rfl) (by kernel_rfl) (by kernel_rfl) (fun _ _ _ h => h) (Or.inl ⟨by rfl, ?_⟩) (by assumption) ?_
        rotate_left
        · (intro w hSw; (try dsimp only at hSw); go_simp; try with_reducible rfl)
        try simp only [Act.put, List.setIfInBounds_toArray, List.set_cons_zero, List.set_cons_succ]
        refine wpAnyH_done (by kernel_rfl) ?_ _
        refine HAK.out _ _ (wp_ret ?_)
        (try simp only [Exit.inBlock, Exit.then])
        refine bodyPost_ret (v := .tuple #[.agg z7, .int .i64 (c : Int), .int .i64 (p : Int)]) (results_row3 Try.results15 _ Z rb 30 z7 (0, 0) _ _ _ ?_ ?_ ?_ HRR.out Try.underlying30 rfl infoPg7) rfl ?_
        · rfl
        · rfl
        · rfl
        refine ⟨?_, HBE.out⟩
        rw [HFN.out]
        exact rfl
end Go.Proofs.Ytnclpdgbjefpmaa.L
