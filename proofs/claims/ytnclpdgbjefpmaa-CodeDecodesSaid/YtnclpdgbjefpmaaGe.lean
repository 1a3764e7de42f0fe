import Derived.Recover
import Derived.Defers
import Derived.Laws.Pointers
import Derived.Test.YtnclpdgbjefpmaaGd
namespace Go.Proofs.Ytnclpdgbjefpmaa.L
open Go.RowKit
set_option linter.unusedVariables false
set_option linter.unusedSimpArgs false
abbrev fv (N : Nat) : Value := .iface 51 (.pointer (some ⟨N, 0, none⟩))
theorem run_as (x : Value) (w : World) : (Instr.typeAssert (.iface 51 x) 20 51 false).run Try.prog w = .ok x w := by
  simp [Instr.typeAssert, run_underlying Try.underlying51, go_sem, Result.andThen]
set_option maxHeartbeats 4000000 in
set_option maxRecDepth 100000 in
theorem catch_pan (q N : Nat) (older : List PanicEntry) (w : World) (x : Value) (hc : w.cell? ⟨q, 0, none⟩ = some x) (hz : w.frozen? ⟨q, 0, none⟩ = false) :
    CallsD Try.prog 36 #[.pointer (some ⟨q, 0, none⟩)] (.panicking ({ v := .iface 51 (.pointer (some ⟨N, 0, none⟩)), recovered := false } :: older)) w fun e u' w' =>
      e = .returned (.tuple #[]) ∧ u' = .panicking ({ v := .iface 51 (.pointer (some ⟨N, 0, none⟩)), recovered := true } :: older) ∧ w' = w.setCell ⟨q, 0, none⟩ (fv N) := by
  have hta := run_as
  refine callsD_of_wpS Try.func36 rfl fun c₀ cs hu => ?_
  apply wpS_seq
  apply wpS_region
  simp [wpOpsS, go_sem, recoverD, hu, Try.ntmps36, Exit.thenS]
  apply wpS_seq
  refine wpS_of_wp ?_
  go_wp2
  simp only [Exit.thenS]
  refine wpS_cond (t := true) (by simp [Act.eval, Array.replicate]) ?_
  simp only [if_true]
  refine wpS_of_wp ?_
  simp only [Array.replicate_succ, Array.replicate_zero, List.push_toArray, List.append_toArray, List.nil_append, List.cons_append, List.setIfInBounds_toArray, List.set_cons_zero, List.set_cons_succ]
  go_wp2
  simp [bodyPostS, results, Try.results36, fv]
set_option maxHeartbeats 4000000 in
set_option maxRecDepth 100000 in
theorem catch_idle (q : Nat) (w : World) :
    CallsD Try.prog 36 #[.pointer (some ⟨q, 0, none⟩)] .returning w fun e u' w' => e = .returned (.tuple #[]) ∧ u' = .returning ∧ w' = w := by
  refine callsD_of_wpS Try.func36 rfl fun c₀ cs hu => ?_
  apply wpS_seq
  apply wpS_region
  simp [wpOpsS, go_sem, recoverD, hu, Try.ntmps36, Exit.thenS]
  apply wpS_seq
  refine wpS_of_wp ?_
  go_wp2
  simp only [Exit.thenS]
  refine wpS_cond (t := false) (by simp [Act.eval, Array.replicate]) ?_
  simp only [Bool.false_eq_true, if_false]
  refine wpS_of_wp (wp_skip ?_)
  cases c₀
  simp_all [bodyPostS, results, Try.results36]
theorem results_cc {fn : Func} {p u : Tmp} {t1 t2 : TypeId} (h : fn.results = #[.cell p t1, .cell u t2]) (tmps : Array Value) (P : Program) (w : World) :
    (results fn tmps).run P w = ((asAddr (tmps.getD p undef)).run P w).andThen fun a w₁ => ((loadVar t1 a).run P w₁).andThen fun v w₂ => ((asAddr (tmps.getD u undef)).run P w₂).andThen fun b w₃ => ((loadVar t2 b).run P w₃).andThen fun x w₄ => .ok (.tuple #[v, x]) w₄ := by
  simp only [results, h]
  simp [Sem.run_bind, Result.andThen]
theorem res_dec (tmps : Array Value) (w : World) (bt be : Nat) (cs : Array Value) (e : Value) (h2 : tmps.getD 2 undef = .pointer (some ⟨bt, 0, none⟩)) (h3 : tmps.getD 3 undef = .pointer (some ⟨be, 0, none⟩)) (hg : w.heap[bt]? = some (.cells cs 30 (0, 0))) (he : w.heap[be]? = some (.cells #[e] 45 (0, 0))) (hcs : cs.size = 7) : (results Try.f16 tmps).run Try.prog w = .ok (.tuple #[.agg cs, e]) w := by
  rw [results_cc (fn := Try.f16) rfl, h2, h3]
  have c0 : w.cell? ⟨be, 0, none⟩ = some e := cell_of_row _ _ 0 _ _ _ he
  obtain ⟨s⟩ := cs
  match s, hcs with
  | [x0, x1, x2, x3, x4, x5, x6], _ =>
    simp only [asAddr, Sem.run_pure, Result.andThen_ok, run_loadVar_row (P := Try.prog) w bt 30 30 #[x0, x1, x2, x3, x4, x5, x6] (0, 0) _ hg Try.underlying30 rfl infoPg]
    go_simp
/-- What Decode answers. -/
def DeR (B : List UInt8) (w : World) (e : Ending) (w' : World) : Prop :=
  match dec B with
  | .ok p => ∃ v0 v1 v2 v3 v4, e = .returned (.tuple #[.agg #[v0, v1, v2, v3, v4, .int .i64 p.dep, .int .i64 p.loc], .nilIface]) ∧ OwG w' w.heap.size v0 v1 v2 v3 v4 p
  | .error (c, q) => ∃ N, e = .returned (.tuple #[.agg #[.slice none 0 0, .slice none 0 0, .slice none 0 0, .slice none 0 0, .slice none 0 0, .int .i64 0, .int .i64 0], fv N]) ∧ Fli w' N c q
theorem below_gb {w W W' : World} {g : Nat} (h : Below w.heap.size w W) (k : Gb g W W') (hg : w.heap.size ≤ g) : Below w.heap.size w W' :=
  ⟨k.os.trans h.os, k.tape.trans h.tape, k.output.trans h.output, Nat.le_trans h.size k.size, fun j hj => (k.block j (Nat.lt_of_lt_of_le hj h.size) (fun e => by injection e with e; omega)).trans (h.block j hj)⟩
theorem row_form {W : World} {b n size : Nat} {e : TypeId} {v : Value} {xs : List Value} (h : W.ownsRow b e size v n xs) : ∃ a q c, v = .slice a q c := by
  rcases h.2 with ⟨e, _⟩ | ⟨_, _, _, e, _⟩
  · exact ⟨_, _, _, e⟩
  · exact ⟨_, _, _, e⟩
theorem owg_form {W : World} {b : Nat} {v0 v1 v2 v3 v4 : Value} {p : Pg} (h : OwG W b v0 v1 v2 v3 v4 p) : (∃ a q c, v0 = .slice a q c) ∧ (∃ a q c, v1 = .slice a q c) ∧ (∃ a q c, v2 = .slice a q c) ∧ (∃ a q c, v3 = .slice a q c) ∧ ∃ a q c, v4 = .slice a q c := by
  obtain ⟨_, _, _, _, h2, _⟩ := h.st
  obtain ⟨_, _, _, _, h3, _⟩ := h.ns
  exact ⟨row_form h.tx, row_form h.nu, row_form h2, row_form h3, row_form h.cd⟩
theorem row_bases {W : World} {b b' : Nat} {v0 v1 v2 v3 v4 : Value} {p : Pg} (h : OwG W b v0 v1 v2 v3 v4 p) (hb : b' ≤ b) : OwG W b' v0 v1 v2 v3 v4 p := by
  refine ⟨row_base h.tx hb, row_base h.nu hb, ?_, ?_, row_base h.cd hb⟩
  · obtain ⟨b, h1, h2, h3⟩ := h.st
    exact ⟨b, Nat.le_trans hb h1, h2, h3⟩
  · obtain ⟨b, h1, h2, h3⟩ := h.ns
    exact ⟨b, Nat.le_trans hb h1, h2, h3⟩
/-- Where Decode begins. -/
structure Dst (a : Option Addr) (cap : Nat) (B : List UInt8) (w W : World) : Prop where
  bl : Below w.heap.size w W
  t : W.heap[w.heap.size]? = some (.cells #[.slice none 0 0, .slice none 0 0, .slice none 0 0, .slice none 0 0, .slice none 0 0, .int .i64 0, .int .i64 0] 30 (0, 0))
  e : W.heap[w.heap.size + 1]? = some (.cells #[.nilIface] 45 (0, 0))
  rm : Rm (w.heap.size + 2) a cap B W 0 4096
theorem dst_new {a : Option Addr} {cap : Nat} {B : List UInt8} {w : World} (hR : BR w a B) (ha : ∀ b off u, a = some ⟨b, off, u⟩ → b < w.heap.size) (hl : B.length ≤ 140737488355328) (hc : B.length ≤ cap) (hm : cap ≤ maxLen) :
    Dst a cap B w (((w.alloc (.cells #[.slice none 0 0, .slice none 0 0, .slice none 0 0, .slice none 0 0, .slice none 0 0, .int .i64 0, .int .i64 0] 30)).alloc (.cells #[.nilIface] 45)).alloc (.cells #[.slice a B.length cap, .int .i64 0, .int .i64 4096] 83)) := by
  have b1 := belowA w (.cells #[.slice none 0 0, .slice none 0 0, .slice none 0 0, .slice none 0 0, .slice none 0 0, .int .i64 0, .int .i64 0] 30)
  have b2 := belowA (w.alloc (.cells #[.slice none 0 0, .slice none 0 0, .slice none 0 0, .slice none 0 0, .slice none 0 0, .int .i64 0, .int .i64 0] 30)) (.cells #[.nilIface] 45)
  have b3 := belowA ((w.alloc (.cells #[.slice none 0 0, .slice none 0 0, .slice none 0 0, .slice none 0 0, .slice none 0 0, .int .i64 0, .int .i64 0] 30)).alloc (.cells #[.nilIface] 45)) (.cells #[.slice a B.length cap, .int .i64 0, .int .i64 4096] 83)
  have h1 := heap_alloc_new w (.cells #[.slice none 0 0, .slice none 0 0, .slice none 0 0, .slice none 0 0, .slice none 0 0, .int .i64 0, .int .i64 0] 30)
  have h2 := heap_alloc_new (w.alloc (.cells #[.slice none 0 0, .slice none 0 0, .slice none 0 0, .slice none 0 0, .slice none 0 0, .int .i64 0, .int .i64 0] 30)) (.cells #[.nilIface] 45)
  have h3 := heap_alloc_new ((w.alloc (.cells #[.slice none 0 0, .slice none 0 0, .slice none 0 0, .slice none 0 0, .slice none 0 0, .int .i64 0, .int .i64 0] 30)).alloc (.cells #[.nilIface] 45)) (.cells #[.slice a B.length cap, .int .i64 0, .int .i64 4096] 83)
  simp only [World.size_alloc] at h2 h3 b2 b3
  have bb : Below w.heap.size w (((w.alloc (.cells #[.slice none 0 0, .slice none 0 0, .slice none 0 0, .slice none 0 0, .slice none 0 0, .int .i64 0, .int .i64 0] 30)).alloc (.cells #[.nilIface] 45)).alloc (.cells #[.slice a B.length cap, .int .i64 0, .int .i64 4096] 83)) := (b1.trans (b2.mono (by omega))).trans (b3.mono (by omega))
  refine ⟨bb, (b3.block _ (by omega)).trans ((b2.block _ (by omega)).trans h1), (b3.block _ (by omega)).trans h2, h3, ?_, fun b off u e => by have := ha b off u e; omega, Nat.zero_le _, hl, Nat.le_refl _, hc, hm⟩
  rcases hR with h0 | ⟨b, off, rfl, hh⟩
  · exact Or.inl h0
  · exact Or.inr ⟨b, off, rfl, fun j hj => (bb.cell (p := ⟨b, off + j, none⟩) (ha b off none rfl)).trans (hh j hj)⟩
set_option maxHeartbeats 4000000 in
set_option maxRecDepth 100000 in
theorem decode_any (B : List UInt8) (a : Option Addr) (cap : Nat) (w : World) (hR : BR w a B) (ha : ∀ b off u, a = some ⟨b, off, u⟩ → b < w.heap.size) (hl : B.length ≤ 140737488355328) (hc : B.length ≤ cap) (hm : cap ≤ maxLen) :
    Calls Try.prog 16 #[.slice a B.length cap] w fun e w' => DeR B w e w' ∧ Below w.heap.size w w' := by
  have hmf : ∀ (fn : Fn) (first cap : Array Value) (w : World), (Instr.makeFunc fn first cap).run Try.prog w = .ok (.func fn first cap) w := fun _ _ _ _ => rfl
  have HD := hid (dst_new hR ha hl hc hm)
  unfold DeR
  obtain ⟨bt, hbt⟩ : ∃ bt, bt = w.heap.size := ⟨_, rfl⟩
  have HBT := hid hbt
  obtain ⟨res, hres⟩ : ∃ r, r = dec B := ⟨_, rfl⟩
  rw [← hres]
  have HRES := hid hres
  clear hR ha hl hc hm hbt hres
  go_enter_defers Try.func16, Try.ntmps16
  go_upto_region 3 with fail
  try simp only [World.size_alloc]
  generalize (((w.alloc (.cells #[.slice none 0 0, .slice none 0 0, .slice none 0 0, .slice none 0 0, .slice none 0 0, .int .i64 0, .int .i64 0] 30)).alloc (.cells #[.nilIface] 45)).alloc (.cells #[.slice a B.length cap, .int .i64 0, .int .i64 4096] 83)) = W1 at *
  rw [← HBT.out]
  have HP := hid (rprog_any HD.out.rm)
  rw [← HRES.out] at HP
  have HTT := hid (show W1.heap[bt]? = some (.cells #[.slice none 0 0, .slice none 0 0, .slice none 0 0, .slice none 0 0, .slice none 0 0, .int .i64 0, .int .i64 0] 30 (0, 0)) from by rw [HBT.out]; exact HD.out.t)
  have HEE := hid (show W1.heap[bt + 1]? = some (.cells #[.nilIface] 45 (0, 0)) from by rw [HBT.out]; exact HD.out.e)
  rw [← HBT.out] at HP
  rcases res with ⟨c, q⟩ | p
  · go_wp2_with fail
    refine HP.out.mono ?_
    rintro e W5 ⟨N, rfl, h1, h2⟩
    have HF5 := hid h1
    have HT5 := hid (h2.at HTT.out (by omega))
    have HE5 := hid (h2.at HEE.out (by omega))
    have HB5 := hid (below_gb HD.out.bl h2 (by have := HBT.out; omega))
    clear h1 h2 HP
    go_wp2_with fail
    refine leaves_cons (f := 36) (args := #[.pointer (some ⟨bt + 1, 0, none⟩)]) (by simp) (by simp [go_sem]) ?_
    refine (catch_pan (bt + 1) N [] W5 .nilIface (cell_of_row _ _ 0 _ _ _ HE5.out) (frz_row HE5.out 0)).mono ?_
    rintro e u' w'' ⟨rfl, rfl, rfl⟩
    simp only [Leaves, settle, List.dropWhile]
    have HG := hid (gb_set HE5.out 0 (fv N))
    refine ⟨_, res_dec _ _ bt (bt + 1) #[.slice none 0 0, .slice none 0 0, .slice none 0 0, .slice none 0 0, .slice none 0 0, .int .i64 0, .int .i64 0] (fv N) rfl rfl (HG.out.at HT5.out (by omega)) (by rw [setCell_eq_setRow _ _ _ _ _ _ _ HE5.out, setRow_heap _ _ _ _ _ _ HE5.out]; rfl) rfl, ?_⟩
    refine ⟨⟨N, rfl, HG.out.at HF5.out (fun e => ?_)⟩, below_gb HB5.out HG.out (by have := HBT.out; omega)⟩
    have h1 : W5.heap[N]? = _ := HF5.out
    rw [e, HE5.out] at h1
    cases h1
  · go_wp2_with fail
    refine HP.out.mono ?_
    rintro e W5 ⟨v0, v1, v2, v3, v4, rfl, h0, h2⟩
    obtain ⟨⟨a0, q0, c0, rfl⟩, ⟨a1, q1, c1, rfl⟩, ⟨a2, q2, c2, rfl⟩, ⟨a3, q3, c3, rfl⟩, ⟨a4, q4, c4, rfl⟩⟩ := owg_form h0
    have HO5 := hid h0
    have HT5 := hid (h2.at HTT.out (by omega))
    have HE5 := hid (h2.at HEE.out (by omega))
    have HB5 := hid (below_gb HD.out.bl h2 (by have := HBT.out; omega))
    clear h0 h2 HP
    have y0 : W5.cell? ⟨bt, 0, none⟩ = some (.slice none 0 0) := cell_of_row _ _ 0 _ _ _ HT5.out
    have y1 : W5.cell? ⟨bt, 1, none⟩ = some (.slice none 0 0) := cell_of_row _ _ 1 _ _ _ HT5.out
    have y2 : W5.cell? ⟨bt, 2, none⟩ = some (.slice none 0 0) := cell_of_row _ _ 2 _ _ _ HT5.out
    have y3 : W5.cell? ⟨bt, 3, none⟩ = some (.slice none 0 0) := cell_of_row _ _ 3 _ _ _ HT5.out
    have y4 : W5.cell? ⟨bt, 4, none⟩ = some (.slice none 0 0) := cell_of_row _ _ 4 _ _ _ HT5.out
    have y5 : W5.cell? ⟨bt, 5, none⟩ = some (.int .i64 0) := cell_of_row _ _ 5 _ _ _ HT5.out
    have y6 : W5.cell? ⟨bt, 6, none⟩ = some (.int .i64 0) := cell_of_row _ _ 6 _ _ _ HT5.out
    have z0 : W5.frozen? ⟨bt, 0, none⟩ = false := frz_row HT5.out 0
    have z1 : W5.frozen? ⟨bt, 1, none⟩ = false := frz_row HT5.out 1
    have z2 : W5.frozen? ⟨bt, 2, none⟩ = false := frz_row HT5.out 2
    have z3 : W5.frozen? ⟨bt, 3, none⟩ = false := frz_row HT5.out 3
    have z4 : W5.frozen? ⟨bt, 4, none⟩ = false := frz_row HT5.out 4
    have z5 : W5.frozen? ⟨bt, 5, none⟩ = false := frz_row HT5.out 5
    have z6 : W5.frozen? ⟨bt, 6, none⟩ = false := frz_row HT5.out 6
    have ye : W5.cell? ⟨bt + 1, 0, none⟩ = some .nilIface := cell_of_row _ _ 0 _ _ _ HE5.out
    have ze : W5.frozen? ⟨bt + 1, 0, none⟩ = false := frz_row HE5.out 0
    have HS := hid (set7 HT5.out (.slice a0 q0 c0) (.slice a1 q1 c1) (.slice a2 q2 c2) (.slice a3 q3 c3) (.slice a4 q4 c4) (.int .i64 p.dep) (.int .i64 p.loc))
    have HE6 := hid (HS.out.2.at HE5.out (by omega))
    have HB6 := hid (below_gb HB5.out HS.out.2 (by have := HBT.out; omega))
    have HO6 := hid (HO5.out.box HT5.out (by decide) (by decide) (by decide) (by decide) (by decide) HS.out.2)
    have HG := hid (gb_set HE6.out 0 .nilIface)
    have HE7 := hid (show ((((((((W5.setCell ⟨bt, 0, none⟩ (.slice a0 q0 c0)).setCell ⟨bt, 1, none⟩ (.slice a1 q1 c1)).setCell ⟨bt, 2, none⟩ (.slice a2 q2 c2)).setCell ⟨bt, 3, none⟩ (.slice a3 q3 c3)).setCell ⟨bt, 4, none⟩ (.slice a4 q4 c4)).setCell ⟨bt, 5, none⟩ (.int .i64 p.dep)).setCell ⟨bt, 6, none⟩ (.int .i64 p.loc)).setCell ⟨bt + 1, 0, none⟩ .nilIface).heap[bt + 1]? = some (.cells #[.nilIface] 45 (0, 0)) from by rw [setCell_eq_setRow _ _ _ _ _ _ _ HE6.out, setRow_heap _ _ _ _ _ _ HE6.out]; rfl)
    have HT7 := hid (HG.out.at HS.out.1 (by omega))
    have HB7 := hid (below_gb HB6.out HG.out (by have := HBT.out; omega))
    have HO7 := hid (HO6.out.box HE6.out (by decide) (by decide) (by decide) (by decide) (by decide) HG.out)
    clear HG HS HE6 HB6 HO6
    go_wp2_with fail
    generalize (((((((W5.setCell ⟨bt, 0, none⟩ (.slice a0 q0 c0)).setCell ⟨bt, 1, none⟩ (.slice a1 q1 c1)).setCell ⟨bt, 2, none⟩ (.slice a2 q2 c2)).setCell ⟨bt, 3, none⟩ (.slice a3 q3 c3)).setCell ⟨bt, 4, none⟩ (.slice a4 q4 c4)).setCell ⟨bt, 5, none⟩ (.int .i64 p.dep)).setCell ⟨bt, 6, none⟩ (.int .i64 p.loc)).setCell ⟨bt + 1, 0, none⟩ .nilIface = W6 at *
    refine leaves_cons (f := 36) (args := #[.pointer (some ⟨bt + 1, 0, none⟩)]) (by simp) (by simp [go_sem]) ?_
    refine (catch_idle (bt + 1) W6).mono ?_
    rintro e u' w'' ⟨rfl, rfl, rfl⟩
    simp only [Leaves, settle]
    refine ⟨_, res_dec _ _ bt (bt + 1) #[.slice a0 q0 c0, .slice a1 q1 c1, .slice a2 q2 c2, .slice a3 q3 c3, .slice a4 q4 c4, .int .i64 p.dep, .int .i64 p.loc] _ rfl rfl HT7.out HE7.out rfl, ?_⟩
    exact ⟨⟨_, _, _, _, _, rfl, row_bases HO7.out (by have := HD.out.bl.size; omega)⟩, HB7.out⟩
end Go.Proofs.Ytnclpdgbjefpmaa.L
