import Derived.Test.YtnclpdgbjefpmaaGj
namespace Go.Proofs.Ytnclpdgbjefpmaa.L
open Go.RowKit
set_option linter.unusedVariables false
set_option linter.unusedSimpArgs false
def ex2 : Pg := ⟨[⟨#[97]⟩], [-1, 3], [], [], [⟨2, 0, 0, 0⟩, ⟨36, 0, 0, 0⟩], 1, 0⟩
def ex2B : List UInt8 := [0x42, 0x52, 0x54, 0x01, 0x01, 0x00, 0x01, 0x01, 0x61, 0x02, 0x01, 0x06, 0x00, 0x00, 0x02, 0x02, 0x00, 0x24]
theorem form2 : formB ex2 = true := by decide
theorem cnt_le {n : Nat} (h : n ≤ 127) : cnt n = [UInt8.ofNat n] := by rw [cnt, if_neg (by omega)]
theorem enc2 : enc ex2 = ex2B := by
  rw [enc_eq]
  show [0x42, 0x52, 0x54, 1] ++ (cnt 1 ++ (cnt 0 ++ ((cnt 1 ++ ((cnt 1 ++ [97]) ++ [])) ++ ((cnt 2 ++ (cnt 1 ++ (cnt 6 ++ []))) ++ ((cnt 0 ++ []) ++ ((cnt 0 ++ []) ++ (cnt 2 ++ (([2] ++ (cnt 0 ++ ([] ++ []))) ++ (([36] ++ ([] ++ ([] ++ []))) ++ []))))))))) = _
  rw [cnt_le (n := 1) (by omega), cnt_le (n := 0) (by omega), cnt_le (n := 2) (by omega), cnt_le (n := 6) (by omega)]
  rfl
theorem al {A : World} {k : Nat} {x y : Obj} (h : A.heap[k]? = some x) : (A.alloc y).heap[k]? = some x := ((belowA A y).block k (lt_blk h)).trans h
theorem gd2 : GdP ex2 := ⟨by decide, by decide, by decide, by decide, by decide, (fun x h => by cases h), (fun x h => by cases h)⟩
theorem fm_gd {p : Pg} (h : Fm p) : GdP p := by
  have h1 := h.pool
  have h2 := h.code
  refine ⟨by omega, by omega, by omega, by omega, by omega, fun x hx => ?_, fun x hx => ?_⟩
  · have := (h.st x hx); unfold setB inR at this; simp only [Bool.and_eq_true, decide_eq_true_eq] at this; omega
  · have := (h.ns x hx); unfold setB inR at this; simp only [Bool.and_eq_true, decide_eq_true_eq] at this; omega
theorem Rws.rd {α : Type} {W : World} {base b2 n : Nat} {E e : TypeId} {inj : α → Value} {v : Value} {l : List (List α)} {vs : List Value} (h : Rws W base e inj l vs) (hr : W.ownsRow b2 E 1 v n vs) : ∃ a c, v = .slice a l.length c ∧ RdL inj W a l := by
  obtain ⟨a, c, e1, r⟩ := own_form hr
  have hn : n = l.length := by have := hr.1; have := h.len; omega
  subst hn
  refine ⟨a, c, e1, vs, h.len, r, fun j hj => ?_⟩
  obtain ⟨ea, ec, e2, r2⟩ := own_form (h.row j hj)
  exact ⟨ea, ec, e2, r2⟩
theorem owg_pg {W : World} {base : Nat} {v0 v1 v2 v3 v4 : Value} {p : Pg} (h : OwG W base v0 v1 v2 v3 v4 p) : PgR W #[v0, v1, v2, v3, v4, .int .i64 p.dep, .int .i64 p.loc] p := by
  obtain ⟨_, _, _, vs, s1, s2⟩ := h.st
  obtain ⟨_, _, _, us, t1, t2⟩ := h.ns
  obtain ⟨a0, c0, rfl, r0⟩ := own_form h.tx
  obtain ⟨a1, c1, rfl, r1⟩ := own_form h.nu
  obtain ⟨a2, c2, rfl, r2⟩ := s2.rd s1
  obtain ⟨a3, c3, rfl, r3⟩ := t2.rd t1
  obtain ⟨a4, c4, rfl, r4⟩ := own_rdc h.cd
  exact ⟨a0, c0, a1, c1, a2, c2, a3, c3, a4, c4, rfl, r0, r1, r2, r3, r4⟩
theorem results_ct {fn : Func} {p u : Tmp} {t1 : TypeId} (h : fn.results = #[.cell p t1, .tmp u]) (tmps : Array Value) (P : Program) (w : World) :
    (results fn tmps).run P w = ((asAddr (tmps.getD p undef)).run P w).andThen fun a w₁ => ((loadVar t1 a).run P w₁).andThen fun v w₂ => .ok (.tuple #[v, tmps.getD u undef]) w₂ := by
  simp only [results, h]
  simp [Sem.run_bind, Result.andThen]
theorem res_sec (tmps : Array Value) (w : World) (bt : Nat) (cs : Array Value) (h2 : tmps.getD 0 undef = .pointer (some ⟨bt, 0, none⟩)) (hg : w.heap[bt]? = some (.cells cs 30 (0, 0))) (hcs : cs.size = 7) : (results Try.f21 tmps).run Try.prog w = .ok (.tuple #[.agg cs, tmps.getD 1 undef]) w := by
  rw [results_ct (fn := Try.f21) rfl, h2]
  obtain ⟨s⟩ := cs
  match s, hcs with
  | [x0, x1, x2, x3, x4, x5, x6], _ =>
    simp only [asAddr, Sem.run_pure, Result.andThen_ok, run_loadVar_row (P := Try.prog) w bt 30 30 #[x0, x1, x2, x3, x4, x5, x6] (0, 0) _ hg Try.underlying30 rfl infoPg]
/-- What 'second' leaves. -/
structure S2w (w W : World) : Prop where
  bl : Below w.heap.size w W
  pg : PgR W #[.slice (some ⟨w.heap.size + 1, 0, none⟩) 1 1, .slice (some ⟨w.heap.size + 1 + 1, 0, none⟩) 2 2, .slice none 0 0, .slice none 0 0, .slice (some ⟨w.heap.size + 1 + 1 + 1, 0, none⟩) 2 2, .int .i64 1, .int .i64 0] ex2
  br : BR W (some ⟨w.heap.size + 1 + 1 + 1 + 1 + 1, 0, none⟩) ex2B
  lt : w.heap.size + 1 + 1 + 1 + 1 + 1 < W.heap.size
  bx : W.heap[w.heap.size]? = some (.cells #[.slice (some ⟨w.heap.size + 1, 0, none⟩) 1 1, .slice (some ⟨w.heap.size + 1 + 1, 0, none⟩) 2 2, .slice none 0 0, .slice none 0 0, .slice (some ⟨w.heap.size + 1 + 1 + 1, 0, none⟩) 2 2, .int .i64 1, .int .i64 0] 30 (0, 0))
theorem s2_new (w : World) : S2w w ((((((w.alloc (.cells #[.slice (some ⟨w.heap.size + 1, 0, none⟩) 1 1, .slice (some ⟨w.heap.size + 1 + 1, 0, none⟩) 2 2, .slice none 0 0, .slice none 0 0, .slice (some ⟨w.heap.size + 1 + 1 + 1, 0, none⟩) 2 2, .int .i64 1, .int .i64 0] 30)).alloc (.cells #[.string ⟨#[97]⟩] 9)).alloc (.cells #[.int .i64 (-1), .int .i64 3] 3)).alloc (.cells #[.int .i64 2, .int .i64 0, .int .i64 0, .int .i64 0, .int .i64 36, .int .i64 0, .int .i64 0, .int .i64 0] 68)).alloc (.cells #[.slice (some ⟨w.heap.size + 1, 0, none⟩) 1 1, .slice (some ⟨w.heap.size + 1 + 1, 0, none⟩) 2 2, .slice none 0 0, .slice none 0 0, .slice (some ⟨w.heap.size + 1 + 1 + 1, 0, none⟩) 2 2, .int .i64 1, .int .i64 0] 30)).alloc (.cells #[.int .u8 66, .int .u8 82, .int .u8 84, .int .u8 1, .int .u8 1, .int .u8 0, .int .u8 1, .int .u8 1, .int .u8 97, .int .u8 2, .int .u8 1, .int .u8 6, .int .u8 0, .int .u8 0, .int .u8 2, .int .u8 2, .int .u8 0, .int .u8 36] 5)) := by
  have h0 := al (y := .cells #[.int .u8 66, .int .u8 82, .int .u8 84, .int .u8 1, .int .u8 1, .int .u8 0, .int .u8 1, .int .u8 1, .int .u8 97, .int .u8 2, .int .u8 1, .int .u8 6, .int .u8 0, .int .u8 0, .int .u8 2, .int .u8 2, .int .u8 0, .int .u8 36] 5) (al (y := .cells #[.slice (some ⟨w.heap.size + 1, 0, none⟩) 1 1, .slice (some ⟨w.heap.size + 1 + 1, 0, none⟩) 2 2, .slice none 0 0, .slice none 0 0, .slice (some ⟨w.heap.size + 1 + 1 + 1, 0, none⟩) 2 2, .int .i64 1, .int .i64 0] 30) (al (y := .cells #[.int .i64 2, .int .i64 0, .int .i64 0, .int .i64 0, .int .i64 36, .int .i64 0, .int .i64 0, .int .i64 0] 68) (al (y := .cells #[.int .i64 (-1), .int .i64 3] 3) (al (y := .cells #[.string ⟨#[97]⟩] 9) (heap_alloc_new w (.cells #[.slice (some ⟨w.heap.size + 1, 0, none⟩) 1 1, .slice (some ⟨w.heap.size + 1 + 1, 0, none⟩) 2 2, .slice none 0 0, .slice none 0 0, .slice (some ⟨w.heap.size + 1 + 1 + 1, 0, none⟩) 2 2, .int .i64 1, .int .i64 0] 30))))))
  have h1 := al (y := .cells #[.int .u8 66, .int .u8 82, .int .u8 84, .int .u8 1, .int .u8 1, .int .u8 0, .int .u8 1, .int .u8 1, .int .u8 97, .int .u8 2, .int .u8 1, .int .u8 6, .int .u8 0, .int .u8 0, .int .u8 2, .int .u8 2, .int .u8 0, .int .u8 36] 5) (al (y := .cells #[.slice (some ⟨w.heap.size + 1, 0, none⟩) 1 1, .slice (some ⟨w.heap.size + 1 + 1, 0, none⟩) 2 2, .slice none 0 0, .slice none 0 0, .slice (some ⟨w.heap.size + 1 + 1 + 1, 0, none⟩) 2 2, .int .i64 1, .int .i64 0] 30) (al (y := .cells #[.int .i64 2, .int .i64 0, .int .i64 0, .int .i64 0, .int .i64 36, .int .i64 0, .int .i64 0, .int .i64 0] 68) (al (y := .cells #[.int .i64 (-1), .int .i64 3] 3) (heap_alloc_new (w.alloc (.cells #[.slice (some ⟨w.heap.size + 1, 0, none⟩) 1 1, .slice (some ⟨w.heap.size + 1 + 1, 0, none⟩) 2 2, .slice none 0 0, .slice none 0 0, .slice (some ⟨w.heap.size + 1 + 1 + 1, 0, none⟩) 2 2, .int .i64 1, .int .i64 0] 30)) (.cells #[.string ⟨#[97]⟩] 9)))))
  have h2 := al (y := .cells #[.int .u8 66, .int .u8 82, .int .u8 84, .int .u8 1, .int .u8 1, .int .u8 0, .int .u8 1, .int .u8 1, .int .u8 97, .int .u8 2, .int .u8 1, .int .u8 6, .int .u8 0, .int .u8 0, .int .u8 2, .int .u8 2, .int .u8 0, .int .u8 36] 5) (al (y := .cells #[.slice (some ⟨w.heap.size + 1, 0, none⟩) 1 1, .slice (some ⟨w.heap.size + 1 + 1, 0, none⟩) 2 2, .slice none 0 0, .slice none 0 0, .slice (some ⟨w.heap.size + 1 + 1 + 1, 0, none⟩) 2 2, .int .i64 1, .int .i64 0] 30) (al (y := .cells #[.int .i64 2, .int .i64 0, .int .i64 0, .int .i64 0, .int .i64 36, .int .i64 0, .int .i64 0, .int .i64 0] 68) (heap_alloc_new ((w.alloc (.cells #[.slice (some ⟨w.heap.size + 1, 0, none⟩) 1 1, .slice (some ⟨w.heap.size + 1 + 1, 0, none⟩) 2 2, .slice none 0 0, .slice none 0 0, .slice (some ⟨w.heap.size + 1 + 1 + 1, 0, none⟩) 2 2, .int .i64 1, .int .i64 0] 30)).alloc (.cells #[.string ⟨#[97]⟩] 9)) (.cells #[.int .i64 (-1), .int .i64 3] 3))))
  have h3 := al (y := .cells #[.int .u8 66, .int .u8 82, .int .u8 84, .int .u8 1, .int .u8 1, .int .u8 0, .int .u8 1, .int .u8 1, .int .u8 97, .int .u8 2, .int .u8 1, .int .u8 6, .int .u8 0, .int .u8 0, .int .u8 2, .int .u8 2, .int .u8 0, .int .u8 36] 5) (al (y := .cells #[.slice (some ⟨w.heap.size + 1, 0, none⟩) 1 1, .slice (some ⟨w.heap.size + 1 + 1, 0, none⟩) 2 2, .slice none 0 0, .slice none 0 0, .slice (some ⟨w.heap.size + 1 + 1 + 1, 0, none⟩) 2 2, .int .i64 1, .int .i64 0] 30) (heap_alloc_new (((w.alloc (.cells #[.slice (some ⟨w.heap.size + 1, 0, none⟩) 1 1, .slice (some ⟨w.heap.size + 1 + 1, 0, none⟩) 2 2, .slice none 0 0, .slice none 0 0, .slice (some ⟨w.heap.size + 1 + 1 + 1, 0, none⟩) 2 2, .int .i64 1, .int .i64 0] 30)).alloc (.cells #[.string ⟨#[97]⟩] 9)).alloc (.cells #[.int .i64 (-1), .int .i64 3] 3)) (.cells #[.int .i64 2, .int .i64 0, .int .i64 0, .int .i64 0, .int .i64 36, .int .i64 0, .int .i64 0, .int .i64 0] 68)))
  have h5 := heap_alloc_new (((((w.alloc (.cells #[.slice (some ⟨w.heap.size + 1, 0, none⟩) 1 1, .slice (some ⟨w.heap.size + 1 + 1, 0, none⟩) 2 2, .slice none 0 0, .slice none 0 0, .slice (some ⟨w.heap.size + 1 + 1 + 1, 0, none⟩) 2 2, .int .i64 1, .int .i64 0] 30)).alloc (.cells #[.string ⟨#[97]⟩] 9)).alloc (.cells #[.int .i64 (-1), .int .i64 3] 3)).alloc (.cells #[.int .i64 2, .int .i64 0, .int .i64 0, .int .i64 0, .int .i64 36, .int .i64 0, .int .i64 0, .int .i64 0] 68)).alloc (.cells #[.slice (some ⟨w.heap.size + 1, 0, none⟩) 1 1, .slice (some ⟨w.heap.size + 1 + 1, 0, none⟩) 2 2, .slice none 0 0, .slice none 0 0, .slice (some ⟨w.heap.size + 1 + 1 + 1, 0, none⟩) 2 2, .int .i64 1, .int .i64 0] 30)) (.cells #[.int .u8 66, .int .u8 82, .int .u8 84, .int .u8 1, .int .u8 1, .int .u8 0, .int .u8 1, .int .u8 1, .int .u8 97, .int .u8 2, .int .u8 1, .int .u8 6, .int .u8 0, .int .u8 0, .int .u8 2, .int .u8 2, .int .u8 0, .int .u8 36] 5)
  simp only [World.size_alloc] at h1 h2 h3 h5
  have bl : Below w.heap.size w ((((((w.alloc (.cells #[.slice (some ⟨w.heap.size + 1, 0, none⟩) 1 1, .slice (some ⟨w.heap.size + 1 + 1, 0, none⟩) 2 2, .slice none 0 0, .slice none 0 0, .slice (some ⟨w.heap.size + 1 + 1 + 1, 0, none⟩) 2 2, .int .i64 1, .int .i64 0] 30)).alloc (.cells #[.string ⟨#[97]⟩] 9)).alloc (.cells #[.int .i64 (-1), .int .i64 3] 3)).alloc (.cells #[.int .i64 2, .int .i64 0, .int .i64 0, .int .i64 0, .int .i64 36, .int .i64 0, .int .i64 0, .int .i64 0] 68)).alloc (.cells #[.slice (some ⟨w.heap.size + 1, 0, none⟩) 1 1, .slice (some ⟨w.heap.size + 1 + 1, 0, none⟩) 2 2, .slice none 0 0, .slice none 0 0, .slice (some ⟨w.heap.size + 1 + 1 + 1, 0, none⟩) 2 2, .int .i64 1, .int .i64 0] 30)).alloc (.cells #[.int .u8 66, .int .u8 82, .int .u8 84, .int .u8 1, .int .u8 1, .int .u8 0, .int .u8 1, .int .u8 1, .int .u8 97, .int .u8 2, .int .u8 1, .int .u8 6, .int .u8 0, .int .u8 0, .int .u8 2, .int .u8 2, .int .u8 0, .int .u8 36] 5)) := by
    have b0 := belowA w (.cells #[.slice (some ⟨w.heap.size + 1, 0, none⟩) 1 1, .slice (some ⟨w.heap.size + 1 + 1, 0, none⟩) 2 2, .slice none 0 0, .slice none 0 0, .slice (some ⟨w.heap.size + 1 + 1 + 1, 0, none⟩) 2 2, .int .i64 1, .int .i64 0] 30)
    have b1 := bch b0 (belowA (w.alloc (.cells #[.slice (some ⟨w.heap.size + 1, 0, none⟩) 1 1, .slice (some ⟨w.heap.size + 1 + 1, 0, none⟩) 2 2, .slice none 0 0, .slice none 0 0, .slice (some ⟨w.heap.size + 1 + 1 + 1, 0, none⟩) 2 2, .int .i64 1, .int .i64 0] 30)) (.cells #[.string ⟨#[97]⟩] 9))
    have b2 := bch b1 (belowA ((w.alloc (.cells #[.slice (some ⟨w.heap.size + 1, 0, none⟩) 1 1, .slice (some ⟨w.heap.size + 1 + 1, 0, none⟩) 2 2, .slice none 0 0, .slice none 0 0, .slice (some ⟨w.heap.size + 1 + 1 + 1, 0, none⟩) 2 2, .int .i64 1, .int .i64 0] 30)).alloc (.cells #[.string ⟨#[97]⟩] 9)) (.cells #[.int .i64 (-1), .int .i64 3] 3))
    have b3 := bch b2 (belowA (((w.alloc (.cells #[.slice (some ⟨w.heap.size + 1, 0, none⟩) 1 1, .slice (some ⟨w.heap.size + 1 + 1, 0, none⟩) 2 2, .slice none 0 0, .slice none 0 0, .slice (some ⟨w.heap.size + 1 + 1 + 1, 0, none⟩) 2 2, .int .i64 1, .int .i64 0] 30)).alloc (.cells #[.string ⟨#[97]⟩] 9)).alloc (.cells #[.int .i64 (-1), .int .i64 3] 3)) (.cells #[.int .i64 2, .int .i64 0, .int .i64 0, .int .i64 0, .int .i64 36, .int .i64 0, .int .i64 0, .int .i64 0] 68))
    have b4 := bch b3 (belowA ((((w.alloc (.cells #[.slice (some ⟨w.heap.size + 1, 0, none⟩) 1 1, .slice (some ⟨w.heap.size + 1 + 1, 0, none⟩) 2 2, .slice none 0 0, .slice none 0 0, .slice (some ⟨w.heap.size + 1 + 1 + 1, 0, none⟩) 2 2, .int .i64 1, .int .i64 0] 30)).alloc (.cells #[.string ⟨#[97]⟩] 9)).alloc (.cells #[.int .i64 (-1), .int .i64 3] 3)).alloc (.cells #[.int .i64 2, .int .i64 0, .int .i64 0, .int .i64 0, .int .i64 36, .int .i64 0, .int .i64 0, .int .i64 0] 68)) (.cells #[.slice (some ⟨w.heap.size + 1, 0, none⟩) 1 1, .slice (some ⟨w.heap.size + 1 + 1, 0, none⟩) 2 2, .slice none 0 0, .slice none 0 0, .slice (some ⟨w.heap.size + 1 + 1 + 1, 0, none⟩) 2 2, .int .i64 1, .int .i64 0] 30))
    exact bch b4 (belowA (((((w.alloc (.cells #[.slice (some ⟨w.heap.size + 1, 0, none⟩) 1 1, .slice (some ⟨w.heap.size + 1 + 1, 0, none⟩) 2 2, .slice none 0 0, .slice none 0 0, .slice (some ⟨w.heap.size + 1 + 1 + 1, 0, none⟩) 2 2, .int .i64 1, .int .i64 0] 30)).alloc (.cells #[.string ⟨#[97]⟩] 9)).alloc (.cells #[.int .i64 (-1), .int .i64 3] 3)).alloc (.cells #[.int .i64 2, .int .i64 0, .int .i64 0, .int .i64 0, .int .i64 36, .int .i64 0, .int .i64 0, .int .i64 0] 68)).alloc (.cells #[.slice (some ⟨w.heap.size + 1, 0, none⟩) 1 1, .slice (some ⟨w.heap.size + 1 + 1, 0, none⟩) 2 2, .slice none 0 0, .slice none 0 0, .slice (some ⟨w.heap.size + 1 + 1 + 1, 0, none⟩) 2 2, .int .i64 1, .int .i64 0] 30)) (.cells #[.int .u8 66, .int .u8 82, .int .u8 84, .int .u8 1, .int .u8 1, .int .u8 0, .int .u8 1, .int .u8 1, .int .u8 97, .int .u8 2, .int .u8 1, .int .u8 6, .int .u8 0, .int .u8 0, .int .u8 2, .int .u8 2, .int .u8 0, .int .u8 36] 5))
  refine ⟨bl, ⟨_, 1, _, 2, none, 0, none, 0, _, 2, rfl, ?_, ?_, ?_, ?_, ?_⟩, ?_, lt_blk h5, h0⟩
  · refine Or.inr ⟨_, 0, rfl, lt_blk h1, fun j hj => ?_⟩
    obtain rfl : j = 0 := by simpa [ex2] using hj
    exact cell_of_row _ _ 0 _ _ _ h1
  · refine Or.inr ⟨_, 0, rfl, lt_blk h2, fun j hj => ?_⟩
    have hj : j < 2 := hj
    rcases (by omega : j = 0 ∨ j = 1) with rfl | rfl
    · exact cell_of_row _ _ 0 _ _ _ h2
    · exact cell_of_row _ _ 1 _ _ _ h2
  · exact ⟨[], rfl, Or.inl rfl, fun j h => absurd h (Nat.not_lt_zero j)⟩
  · exact ⟨[], rfl, Or.inl rfl, fun j h => absurd h (Nat.not_lt_zero j)⟩
  · refine Or.inr ⟨_, 0, rfl, lt_blk h3, fun j hj => ?_⟩
    have hj : j < 2 := hj
    rcases (by omega : j = 0 ∨ j = 1) with rfl | rfl
    · exact ⟨cell_of_row _ _ 0 _ _ _ h3, cell_of_row _ _ 1 _ _ _ h3, cell_of_row _ _ 2 _ _ _ h3, cell_of_row _ _ 3 _ _ _ h3⟩
    · exact ⟨cell_of_row _ _ 4 _ _ _ h3, cell_of_row _ _ 5 _ _ _ h3, cell_of_row _ _ 6 _ _ _ h3, cell_of_row _ _ 7 _ _ _ h3⟩
  · refine Or.inr ⟨_, 0, rfl, fun j hj => ?_⟩
    have hj : j < 18 := hj
    rw [cell_of_row _ _ (0 + j) _ _ _ h5]
    rcases (by omega : j = 0 ∨ j = 1 ∨ j = 2 ∨ j = 3 ∨ j = 4 ∨ j = 5 ∨ j = 6 ∨ j = 7 ∨ j = 8 ∨ j = 9 ∨ j = 10 ∨ j = 11 ∨ j = 12 ∨ j = 13 ∨ j = 14 ∨ j = 15 ∨ j = 16 ∨ j = 17) with rfl | rfl | rfl | rfl | rfl | rfl | rfl | rfl | rfl | rfl | rfl | rfl | rfl | rfl | rfl | rfl | rfl | rfl <;> rfl
set_option maxHeartbeats 4000000 in
set_option maxRecDepth 100000 in
theorem second_any (w : World) : Calls Try.prog 21 #[] w fun e w' => e = .returned (.tuple #[.agg #[.slice (some ⟨w.heap.size + 1, 0, none⟩) 1 1, .slice (some ⟨w.heap.size + 1 + 1, 0, none⟩) 2 2, .slice none 0 0, .slice none 0 0, .slice (some ⟨w.heap.size + 1 + 1 + 1, 0, none⟩) 2 2, .int .i64 1, .int .i64 0], .slice (some ⟨w.heap.size + 1 + 1 + 1 + 1 + 1, 0, none⟩) 18 18]) ∧ S2w w w' := by
  have HS := hid (s2_new w)
  go_enter Try.func21, Try.ntmps21
  go_wp2_with fail
  generalize ((((((w.alloc (.cells #[.slice (some ⟨w.heap.size + 1, 0, none⟩) 1 1, .slice (some ⟨w.heap.size + 1 + 1, 0, none⟩) 2 2, .slice none 0 0, .slice none 0 0, .slice (some ⟨w.heap.size + 1 + 1 + 1, 0, none⟩) 2 2, .int .i64 1, .int .i64 0] 30)).alloc (.cells #[.string ⟨#[97]⟩] 9)).alloc (.cells #[.int .i64 (-1), .int .i64 3] 3)).alloc (.cells #[.int .i64 2, .int .i64 0, .int .i64 0, .int .i64 0, .int .i64 36, .int .i64 0, .int .i64 0, .int .i64 0] 68)).alloc (.cells #[.slice (some ⟨w.heap.size + 1, 0, none⟩) 1 1, .slice (some ⟨w.heap.size + 1 + 1, 0, none⟩) 2 2, .slice none 0 0, .slice none 0 0, .slice (some ⟨w.heap.size + 1 + 1 + 1, 0, none⟩) 2 2, .int .i64 1, .int .i64 0] 30)).alloc (.cells #[.int .u8 66, .int .u8 82, .int .u8 84, .int .u8 1, .int .u8 1, .int .u8 0, .int .u8 1, .int .u8 1, .int .u8 97, .int .u8 2, .int .u8 1, .int .u8 6, .int .u8 0, .int .u8 0, .int .u8 2, .int .u8 2, .int .u8 0, .int .u8 36] 5)) = U at *
  refine ⟨rfl, _, res_sec _ U w.heap.size #[.slice (some ⟨w.heap.size + 1, 0, none⟩) 1 1, .slice (some ⟨w.heap.size + 1 + 1, 0, none⟩) 2 2, .slice none 0 0, .slice none 0 0, .slice (some ⟨w.heap.size + 1 + 1 + 1, 0, none⟩) 2 2, .int .i64 1, .int .i64 0] rfl HS.out.bx rfl, ?_⟩
  exact ⟨rfl, HS.out⟩
theorem dec2 : dec ex2B = .ok ex2 := by rw [← enc2]; exact dec_enc ((form_iff ex2).2 form2)
set_option maxHeartbeats 4000000 in
set_option maxRecDepth 100000 in
theorem fixed_any (w : World) : Calls Try.prog 9 #[] w fun e w' => e = .returned (.bool true) ∧ Below w.heap.size w w' := by
  have HS := hid (second_any w)
  go_enter Try.func9, Try.ntmps9
  go_wp2_with fail
  refine HS.out.mono ?_
  rintro e W1 ⟨rfl, h2⟩
  have HW1 := hid h2
  clear h2 HS
  have HL := hid (belowA W1 (.cells #[.slice (some ⟨w.heap.size + 1, 0, none⟩) 1 1, .slice (some ⟨w.heap.size + 1 + 1, 0, none⟩) 2 2, .slice none 0 0, .slice none 0 0, .slice (some ⟨w.heap.size + 1 + 1 + 1, 0, none⟩) 2 2, .int .i64 1, .int .i64 0] 30))
  have HB := hid (bch HW1.out.bl HL.out)
  have HX := hid (heap_alloc_new W1 (.cells #[.slice (some ⟨w.heap.size + 1, 0, none⟩) 1 1, .slice (some ⟨w.heap.size + 1 + 1, 0, none⟩) 2 2, .slice none 0 0, .slice none 0 0, .slice (some ⟨w.heap.size + 1 + 1 + 1, 0, none⟩) 2 2, .int .i64 1, .int .i64 0] 30))
  have HPG := hid (HW1.out.pg.low HL.out)
  have HBR := hid (br_below HW1.out.br HL.out)
  have HLT := hid (Nat.lt_of_lt_of_le HW1.out.lt HL.out.size)
  clear HW1 HL
  generalize w.heap.size + 1 + 1 + 1 + 1 + 1 = p5 at *
  generalize w.heap.size + 1 + 1 + 1 = p3 at *
  generalize w.heap.size + 1 + 1 = p2 at *
  generalize w.heap.size + 1 = p1 at *
  go_upto_region 2 with fail
  generalize W1.alloc (.cells #[.slice (some ⟨p1, 0, none⟩) 1 1, .slice (some ⟨p2, 0, none⟩) 2 2, .slice none 0 0, .slice none 0 0, .slice (some ⟨p3, 0, none⟩) 2 2, .int .i64 1, .int .i64 0] 30) = W2 at *
  obtain ⟨pb, hpb⟩ : ∃ b, b = W1.heap.size := ⟨_, rfl⟩
  rw [← hpb] at HX ⊢
  clear hpb
  have x0 : W2.cell? ⟨pb, 0, none⟩ = some (.slice (some ⟨p1, 0, none⟩) 1 1) := cell_of_row _ _ 0 _ _ _ HX.out
  have x1 : W2.cell? ⟨pb, 1, none⟩ = some (.slice (some ⟨p2, 0, none⟩) 2 2) := cell_of_row _ _ 1 _ _ _ HX.out
  have x2 : W2.cell? ⟨pb, 2, none⟩ = some (.slice none 0 0) := cell_of_row _ _ 2 _ _ _ HX.out
  have x3 : W2.cell? ⟨pb, 3, none⟩ = some (.slice none 0 0) := cell_of_row _ _ 3 _ _ _ HX.out
  have x4 : W2.cell? ⟨pb, 4, none⟩ = some (.slice (some ⟨p3, 0, none⟩) 2 2) := cell_of_row _ _ 4 _ _ _ HX.out
  have x5 : W2.cell? ⟨pb, 5, none⟩ = some (.int .i64 1) := cell_of_row _ _ 5 _ _ _ HX.out
  have x6 : W2.cell? ⟨pb, 6, none⟩ = some (.int .i64 0) := cell_of_row _ _ 6 _ _ _ HX.out
  have HEN := hid (encode_any ex2 #[.slice (some ⟨p1, 0, none⟩) 1 1, .slice (some ⟨p2, 0, none⟩) 2 2, .slice none 0 0, .slice none 0 0, .slice (some ⟨p3, 0, none⟩) 2 2, .int .i64 1, .int .i64 0] W2 HPG.out gd2)
  go_wp2_with fail
  clear x0 x1 x2 x3 x4 x5 x6
  refine HEN.out.mono ?_
  rintro e W3 ⟨l3, _, he⟩
  obtain ⟨v', rfl, hob⟩ := he form2
  obtain ⟨ba, bc, rfl, hbr, _, _, _⟩ := own_br hob
  clear he hob HEN
  have HEB := hid hbr
  have HX3 := hid ((l3.block _ (lt_blk HX.out)).trans HX.out)
  have HPG3 := hid (HPG.out.low l3)
  have HBR3 := hid (br_below HBR.out l3)
  have HLT3 := hid (Nat.lt_of_lt_of_le HLT.out l3.size)
  have HB3 := hid (bch HB.out l3)
  clear l3 hbr HX HPG HBR HLT HB
  obtain ⟨en, hen⟩ : ∃ n, n = (enc ex2).length := ⟨_, rfl⟩
  have HENL := hid hen
  rw [← hen]
  clear hen
  have HDE := hid (show Calls Try.prog 16 #[.slice (some ⟨p5, 0, none⟩) 18 18] W3 _ from decode_any ex2B (some ⟨p5, 0, none⟩) 18 W3 HBR3.out (fun b off u e => by cases e; exact HLT3.out) (by decide) (by decide) (by unfold maxLen; omega))
  go_wp2_with fail
  refine HDE.out.mono ?_
  rintro e W4 ⟨hde, l4⟩
  unfold DeR at hde
  rw [dec2] at hde
  obtain ⟨v0, v1, v2, v3, v4, rfl, how⟩ := hde
  obtain ⟨⟨a0, n0, c0, rfl⟩, ⟨a1, n1, c1, rfl⟩, ⟨a2, n2, c2, rfl⟩, ⟨a3, n3, c3, rfl⟩, ⟨a4, n4, c4, rfl⟩⟩ := owg_form how
  have HPQ := hid (owg_pg how)
  have HX4 := hid ((l4.block _ (lt_blk HX3.out)).trans HX3.out)
  have HPG4 := hid (HPG3.out.low l4)
  have HBR4 := hid (br_below HBR3.out l4)
  have HEB4 := hid (br_below HEB.out l4)
  have HB4 := hid (bch HB3.out l4)
  clear how l4 HDE HX3 HPG3 HBR3 HLT3 HEB HB3
  rw [show ex2.dep = 1 from rfl, show ex2.loc = 0 from rfl] at *
  have HL5 := hid (belowA W4 (.cells #[.slice a0 n0 c0, .slice a1 n1 c1, .slice a2 n2 c2, .slice a3 n3 c3, .slice a4 n4 c4, .int .i64 1, .int .i64 0] 30))
  have HX5 := hid ((HL5.out.block _ (lt_blk HX4.out)).trans HX4.out)
  have HQ5 := hid (heap_alloc_new W4 (.cells #[.slice a0 n0 c0, .slice a1 n1 c1, .slice a2 n2 c2, .slice a3 n3 c3, .slice a4 n4 c4, .int .i64 1, .int .i64 0] 30))
  have HPG5 := hid (HPG4.out.low HL5.out)
  have HPQ5 := hid (HPQ.out.low HL5.out)
  have HSB := hid (samebytes_any (enc ex2) ex2B ba (some ⟨p5, 0, none⟩) bc 18 _ (br_below HEB4.out HL5.out) (br_below HBR4.out HL5.out))
  have HB5 := hid (bch HB4.out HL5.out)
  clear HX4 HPG4 HPQ HBR4 HEB4 HB4 HL5
  go_upto_region 4 with fail
  generalize W4.alloc (.cells #[.slice a0 n0 c0, .slice a1 n1 c1, .slice a2 n2 c2, .slice a3 n3 c3, .slice a4 n4 c4, .int .i64 1, .int .i64 0] 30) = W5 at *
  obtain ⟨qb, hqb⟩ : ∃ b, b = W4.heap.size := ⟨_, rfl⟩
  rw [← hqb] at HQ5 ⊢
  clear hqb
  rw [← HENL.out] at HSB
  go_wp2_with fail
  refine HSB.out.mono ?_
  rintro e W6 ⟨⟨z, rfl, hz⟩, hw⟩
  obtain rfl : z = true := hz.2 enc2
  have hw2 := hw.symm
  subst hw2
  clear hw hz HSB
  have x0 : W5.cell? ⟨pb, 0, none⟩ = some (.slice (some ⟨p1, 0, none⟩) 1 1) := cell_of_row _ _ 0 _ _ _ HX5.out
  have x1 : W5.cell? ⟨pb, 1, none⟩ = some (.slice (some ⟨p2, 0, none⟩) 2 2) := cell_of_row _ _ 1 _ _ _ HX5.out
  have x2 : W5.cell? ⟨pb, 2, none⟩ = some (.slice none 0 0) := cell_of_row _ _ 2 _ _ _ HX5.out
  have x3 : W5.cell? ⟨pb, 3, none⟩ = some (.slice none 0 0) := cell_of_row _ _ 3 _ _ _ HX5.out
  have x4 : W5.cell? ⟨pb, 4, none⟩ = some (.slice (some ⟨p3, 0, none⟩) 2 2) := cell_of_row _ _ 4 _ _ _ HX5.out
  have x5 : W5.cell? ⟨pb, 5, none⟩ = some (.int .i64 1) := cell_of_row _ _ 5 _ _ _ HX5.out
  have x6 : W5.cell? ⟨pb, 6, none⟩ = some (.int .i64 0) := cell_of_row _ _ 6 _ _ _ HX5.out
  have y0 : W5.cell? ⟨qb, 0, none⟩ = some (.slice a0 n0 c0) := cell_of_row _ _ 0 _ _ _ HQ5.out
  have y1 : W5.cell? ⟨qb, 1, none⟩ = some (.slice a1 n1 c1) := cell_of_row _ _ 1 _ _ _ HQ5.out
  have y2 : W5.cell? ⟨qb, 2, none⟩ = some (.slice a2 n2 c2) := cell_of_row _ _ 2 _ _ _ HQ5.out
  have y3 : W5.cell? ⟨qb, 3, none⟩ = some (.slice a3 n3 c3) := cell_of_row _ _ 3 _ _ _ HQ5.out
  have y4 : W5.cell? ⟨qb, 4, none⟩ = some (.slice a4 n4 c4) := cell_of_row _ _ 4 _ _ _ HQ5.out
  have y5 : W5.cell? ⟨qb, 5, none⟩ = some (.int .i64 1) := cell_of_row _ _ 5 _ _ _ HQ5.out
  have y6 : W5.cell? ⟨qb, 6, none⟩ = some (.int .i64 0) := cell_of_row _ _ 6 _ _ _ HQ5.out
  have HSM := hid (same_any #[.slice a0 n0 c0, .slice a1 n1 c1, .slice a2 n2 c2, .slice a3 n3 c3, .slice a4 n4 c4, .int .i64 1, .int .i64 0] #[.slice (some ⟨p1, 0, none⟩) 1 1, .slice (some ⟨p2, 0, none⟩) 2 2, .slice none 0 0, .slice none 0 0, .slice (some ⟨p3, 0, none⟩) 2 2, .int .i64 1, .int .i64 0] ex2 ex2 W5 HPQ5.out HPG5.out gd2 gd2)
  go_wp2_with fail
  refine HSM.out.mono ?_
  rintro e W7 ⟨⟨z, rfl, hz⟩, l7⟩
  obtain rfl : z = true := by simpa using hz
  have HB7 := hid (bch HB5.out l7)
  clear l7 hz HSM
  go_wp2_with fail
  go_ret
  exact ⟨by first | rfl | simp, HB7.out⟩
end Go.Proofs.Ytnclpdgbjefpmaa.L
