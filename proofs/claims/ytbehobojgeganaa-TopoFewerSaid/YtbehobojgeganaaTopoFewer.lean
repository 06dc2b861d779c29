/- TopoFewer holds for every input: the row, out of the walk. No condition. -/
import Derived.Test.YtbehobojgeganaaRows
import Derived.SizedLaws
import Derived.Test.YtbehobojgeganaaOpenF
import Derived.Test.YtbehobojgeganaaTopL
import Derived.Test.YtbehobojgeganaaTopN
import Derived.Test.YtbehobojgeganaaPost
namespace Go.Proofs.Ytbehobojgeganaa.topoFewer
open Go.ChangeShapes Go.WideShapes Go.ChangeAt Go.RowKit
set_option linter.unusedVariables false
set_option linter.unusedSimpArgs false
set_option maxRecDepth 100000
set_option maxHeartbeats 4000000 in
theorem walk (W : World) (a0 : Int) (b0 : -9223372036854775808 ≤ a0 ∧ a0 ≤ 9223372036854775807) (A1 : Option Addr) (k1 : Nat) (fs1 : List (List Int)) (l1 : fs1.length ≤ reachBytes) (m1 : ∀ q ∈ fs1, q.length ≤ reachBytes ∧ (∀ x ∈ q, i64B x)) (n1 : FL W A1 fs1) :
    Calls Try.prog 7 #[.int .i64 a0, .slice A1 fs1.length k1] W fun e W' => e = .returned (.bool true) ∧ Below W.heap.size W W' := by
  obtain ⟨hx, hi⟩ := row_lens m1
  have hl : fs1.length < 1099511627776000 := by rw [reach_num] at l1; omega
  have cG := fun (W1 : World) (hb : Below W.heap.size W W1) => great_any W1 a0 k1 fs1 A1 (n1.below hb) hl hx
  have cB := fun (hg : a0 ≤ 60 ∧ fs1.length + tot fs1 ≤ 300) (W1 : World) (hb : Below W.heap.size W W1) => built_any W1 a0 k1 fs1 A1 (n1.below hb) b0 hi (by omega)
  replace cB := Lib.hid cB
  go_enter Try.func7, Try.ntmps7
  go_wp2_with (first
    | (go_at_call 14; (with_reducible refine (alive8_any _).mono ?_); rintro e W1 ⟨rfl, hb1⟩)
    | (go_at_call 15; (with_reducible refine (cG W1 hb1).mono ?_); rintro e W2 ⟨bb, rfl, hb2, hgr⟩; have hb12 := bel_trans hb1 hb2; replace hgr := Lib.hid hgr; clear hb2 cG; cases bb)
    | (go_at_call 17; (with_reducible refine (cB.out (hgr.out trivial) W2 hb12).mono ?_); rintro e W3 ⟨A4, A5, A6, t, c4, c5, c6, ee, rfl, hP⟩; have hb3 := bel_trans hb12 hP.bel; have hV := Lib.hid hP.isV; have hgd := hP.good; clear hP cB; rcases hgd with ⟨rfl, hs, hS⟩ | ⟨rfl, hn, rfl, rfl, rfl, rfl, rfl, rfl, rfl⟩)
    | fail)
  rotate_left
  · go_ret
    exact ⟨rfl, bel_alloc hb3 _⟩
  · go_ret
    exact ⟨rfl, hb12⟩
  have hT0 : Blk (W3.alloc (.cells #[.slice A4 t.es.length c4, .slice A5 t.fans.length c5, .slice A6 t.rs.length c6] 29)) W3.heap.size 29 #[.slice A4 t.es.length c4, .slice A5 t.fans.length c5, .slice A6 t.rs.length c6] := Blk.new _ _ _ _ rfl
  have hb4 := bel_alloc hb3 (.cells #[.slice A4 t.es.length c4, .slice A5 t.fans.length c5, .slice A6 t.rs.length c6] 29)
  have hV4 := TopoV.below hV.out (bel_alloc (Below.refl _ _) (.cells #[.slice A4 t.es.length c4, .slice A5 t.fans.length c5, .slice A6 t.rs.length c6] 29))
  generalize W3.alloc (.cells #[.slice A4 t.es.length c4, .slice A5 t.fans.length c5, .slice A6 t.rs.length c6] 29) = W4 at *
  generalize W3.heap.size = T at *
  have hnf := hS.nf
  have hnr := hS.nr
  have hesl : t.es.length < 1099511627776 := by
    have h1 := edges_le hS.walk hS.edges
    rw [waysL_len] at h1
    have := hgr.out trivial
    omega
  have ha60 := (hgr.out trivial).1
  clear hV hb3 hb12 hgr
  go_loopw [7] (fun iv wr => ∃ v : Nat, iv = .int .i64 (v : Int) ∧ (v : Int) ≤ a0 ∧ Below W4.heap.size W4 wr) (fun iv _ => a0.toNat - (intOf iv).toNat)
  case atStart => exact ⟨0, rfl, hS.walk.pos, Below.refl _ _⟩
  case round =>
    obtain ⟨v, rfl, hv, hbr⟩ := hrel
    by_cases hlt : (v : Int) < a0
    · have hvf : v < t.fans.length := by omega
      have hvr : v < t.rs.length := by omega
      have hfew := fewer hS v hvf hvr
      replace hfew := Lib.hid hfew
      go_wp2
      go_loopw [8, 9] (fun nv iv wq => ∃ (i n : Nat), iv = .int .i64 (i : Int) ∧ i ≤ t.es.length ∧ nv = .int .i64 (n : Int) ∧ n = ((t.es.take i).filter (bordB (v : Int))).length ∧ n ≤ i ∧ Below W4.heap.size W4 wq) (fun _ iv _ => t.es.length - (intOf iv).toNat)
      case atStart => exact ⟨0, 0, rfl, by omega, rfl, by simp, by omega, hbr⟩
      case round =>
        obtain ⟨i, n, rfl, hi2, rfl, hn, hni, hbq⟩ := hrel
        clear hbr
        have hT := hT0.below hbq
        have t0 : wr.cell? ⟨T, 0, none⟩ = some (.slice A4 t.es.length c4) := hT.cell 0
        have t1 : wr.cell? ⟨T, 1, none⟩ = some (.slice A5 t.fans.length c5) := hT.cell 1
        have t2 : wr.cell? ⟨T, 2, none⟩ = some (.slice A6 t.rs.length c6) := hT.cell 2
        have tl := hT.lt
        have hVq := hV4.below hbq
        by_cases hil : i < t.es.length
        · have cE := edged_any wr A4 A5 A6 t.fans.length t.rs.length c4 c5 c6 t.es (i : Int) hVq.es
          obtain ⟨b, off, rfl, hbl, hc⟩ := hVq.es (by omega)
          obtain ⟨g1, g2, _, _⟩ := hc i hil
          have hed : edgedB t.es (i : Int) = ((t.es[i].f == -1) != (t.es[i].g == -1)) := by simp [edgedB, hil]
          have hcnt := take_count (bordB (v : Int)) t.es i hil
          have hbd : bordB (v : Int) t.es[i] = ((t.es[i].a == (v : Int) || t.es[i].b == (v : Int)) && edgedB t.es (i : Int)) := by rw [hed]; rfl
          have q0 : (0 : Int) ≤ (i : Int) := by omega
          have q1 : (i : Int) < (t.es.length : Int) := by omega
          replace hn := Lib.hid hn
          replace hcnt := Lib.hid hcnt
          replace hbd := Lib.hid hbd
          clear hc hed hVq hT
          have cE2 := Lib.hid cE
          clear cE
          have hbq2 : ∀ W9, Below wr.heap.size wr W9 → Below W4.heap.size W4 W9 := fun W9 h => bel_trans hbq h
          replace hbq2 := Lib.hid hbq2
          generalize t.es[i].a = ea at *
          generalize t.es[i].b = eb at *
          generalize edgedB t.es (i : Int) = ed at *
          have AR : True := trivial
          have END : ∀ (bb : Bool) (n2 : Nat), (ea == (v : Int) || eb == (v : Int)) = bb → n2 = (if (bb && ed) = true then n + 1 else n) → n2 = ((t.es.take (i + 1)).filter (bordB (v : Int))).length ∧ n2 ≤ i + 1 := fun bb n2 h1 h2 => by
            rw [hcnt.out, hbd.out, h1, ← hn.out, h2]
            split <;> simp <;> omega
          replace END := Lib.hid END
          by_cases d1 : ea = (v : Int)
          · have d1b : (ea == (v : Int)) = true := by simpa using d1
            have e2 := Lib.hid (END.out true (if ed = true then n + 1 else n) (by rw [d1b]; rfl) (by simp))
            subst d1
            cases ed with
            | true =>
              go_wp2_with (first | (go_at_call 23; (with_reducible refine cE2.out.mono ?_); rintro e W9 ⟨rfl, hb9⟩) | fail)
              go_roundw
              case rel => exact ⟨i + 1, n + 1, by go_num, by omega, by go_num, by have := e2.out.1; simpa using this, by omega, hbq2.out _ hb9⟩
              case measure => simp [intOf]; omega
            | false =>
              go_wp2_with (first | (go_at_call 23; (with_reducible refine cE2.out.mono ?_); rintro e W9 ⟨rfl, hb9⟩) | fail)
              go_roundw
              case rel => exact ⟨i + 1, n, by go_num, by omega, rfl, by have := e2.out.1; simpa using this, by omega, hbq2.out _ hb9⟩
              case measure => simp [intOf]; omega
          · have d1b : (ea == (v : Int)) = false := by simpa using d1
            by_cases d2 : eb = (v : Int)
            · have d2b : (eb == (v : Int)) = true := by simpa using d2
              have e2 := Lib.hid (END.out true (if ed = true then n + 1 else n) (by rw [d1b, d2b]; rfl) (by simp))
              subst d2
              cases ed with
              | true =>
                go_wp2_with (first | (go_at_call 23; (with_reducible refine cE2.out.mono ?_); rintro e W9 ⟨rfl, hb9⟩) | fail)
                go_roundw
                case rel => exact ⟨i + 1, n + 1, by go_num, by omega, by go_num, by have := e2.out.1; simpa using this, by omega, hbq2.out _ hb9⟩
                case measure => simp [intOf]; omega
              | false =>
                go_wp2_with (first | (go_at_call 23; (with_reducible refine cE2.out.mono ?_); rintro e W9 ⟨rfl, hb9⟩) | fail)
                go_roundw
                case rel => exact ⟨i + 1, n, by go_num, by omega, rfl, by have := e2.out.1; simpa using this, by omega, hbq2.out _ hb9⟩
                case measure => simp [intOf]; omega
            · have d2b : (eb == (v : Int)) = false := by simpa using d2
              have e2 := Lib.hid (END.out false n (by rw [d1b, d2b]; rfl) (by simp))
              clear d1 d2
              go_wp2
              go_roundw
              case rel => exact ⟨i + 1, n, by go_num, by omega, rfl, e2.out.1, e2.out.2, hbq2.out _ (Below.refl _ _)⟩
              case measure => simp [intOf]; omega
        · obtain rfl : i = t.es.length := by omega
          rw [List.take_length] at hn
          have hn2 := hn.trans hfew.out
          obtain ⟨b, off, rfl, hbl, hc⟩ := hVq.rs (by omega)
          have g1 := hc v hvr
          clear hc hVq hT hn hni
          have p0 : (0 : Int) ≤ (v : Int) := by omega
          have p1 : (v : Int) < (t.rs.length : Int) := by omega
          cases hrv : t.rs[v] with
          | true =>
            rw [hrv] at g1 hn2
            simp only [if_true] at hn2
            subst hn2
            clear hrv
            go_wp2
            go_roundw
            case rel => exact ⟨v + 1, by go_num, by omega, hbq⟩
            case measure => simp [intOf]; omega
          | false =>
            rw [hrv] at g1 hn2
            simp only [Bool.false_eq_true, if_false] at hn2
            subst hn2
            clear hrv
            go_wp2
            go_roundw
            case rel => exact ⟨v + 1, by go_num, by omega, hbq⟩
            case measure => simp [intOf]; omega
    · go_wp2
      go_ret
      exact ⟨rfl, bel_trans hb4 hbr⟩

theorem own : ownKnob Try.prog.godebug = none := by kernel_rfl
set_option maxRecDepth 100000 in
theorem lifted (os : Os) (started : os.Started) (H : Type) (enc : TypeId × Value → H) :
    ReturnsInHanded {} Try.checked os 7 .any (Rows.topoFewerSpec.pre6 enc Try.prog Try.f7 Rows.topoFewerRow.domain false) (Rows.topoFewerSpec.post enc Try.prog Try.f7 false true false false) := by
  refine returnsInHanded_of_change_sized (C := Try.checked) own started (by kernel_rfl) Try.func7
    (ChangeSpec.witness6 (enc := enc) (C := Try.checked) false ⟨#[], #[.int .i64 0, .slice none 0 0], []⟩ 12 (by kernel_rfl) (by kernel_rfl) (by kernel_rfl) (by kernel_rfl)) ?_
  intro W base args ds gs before hval0 hW hcnd hwt _
  have hval : ∀ (j : Nat) t v, Try.f7.params[j]? = some t → args[j]? = some v → Value.okWide Try.prog W .any base t v := hval0
  have hW' := hW
  obtain ⟨p, q, hA0, hV, rfl, hfz, hnd⟩ := hW
  have hA : DataW.TrodAll enc Try.prog W 0 (fun _ => true) true Try.f7.params.toList args.toList ds p := hA0
  rw [Try.params7] at hA hval
  obtain ⟨v0, vs0, d0, ds0, p0, q0, hargs, rfl, rfl, h0, r0⟩ := trodAll_cons hA
  obtain ⟨v1, vs1, d1, ds1, p1, q1, rfl, rfl, rfl, h1, r1⟩ := trodAll_cons r0
  obtain ⟨rfl, rfl, rfl⟩ := trodAll_nil r1
  obtain rfl : args = #[v0, v1] := by cases args; simp_all
  obtain ⟨a0, rfl, b0⟩ := open_int64 (hval 0 3 v0 rfl rfl) h0
  obtain ⟨sa1, sn1, sc1, rfl⟩ := okWide_slice Try.underlying22 (hval 1 22 v1 rfl rfl)
  have hTW1 : TW enc Try.prog W 0 (fun _ => true) true 22 [.slice sa1 sn1 sc1] := by
    obtain ⟨fu, hfu⟩ := h1
    refine ⟨fu, _, hfu, fun n hn => ?_⟩
    have := List.all_eq_true.1 hwt n (DataW.weights_mem_each (j := 1) (t := 22) (d := d1) (by rw [Try.params7]; rfl) (by rfl) n hn)
    simpa using this
  obtain ⟨A1, k1, fs1, e1, l1, m1, n1⟩ := tw_facesF hTW1
  obtain ⟨f1, g1, i1⟩ : A1 = sa1 ∧ fs1.length = sn1 ∧ k1 = sc1 := by simpa [eq_comm] using e1
  subst f1
  subst g1
  subst i1
  clear hTW1
  refine (walk W a0 b0 A1 k1 fs1 l1 m1 n1).mono fun e W' ⟨he, hb⟩ => ?_
  subst he
  exact ⟨_, rfl, law_post (tb := 4) (by kernel_rfl) (by kernel_rfl) rfl rfl Try.underlying4 rfl rfl rfl hW' hb⟩

theorem over : Rows.topoFewerRow.holds Try.pinned (OpenSpec.ofChange Rows.topoFewerSpec) :=
  OpenClaim.holds_of_wide 7 Try.f7 rfl rfl rfl rfl rfl rfl rfl ⟨rfl, rfl, rfl, rfl, rfl⟩ rfl rfl rfl rfl rfl (by kernel_rfl) Try.func7 (by kernel_rfl)
    (of_decide_eq_true (by kernel_rfl)) (by unfold Func.isWrapper; first | (rw [if_pos (by decide +kernel)]; kernel_rfl) | (rw [if_neg (by decide +kernel)]; exact ⟨rfl, rfl⟩))
    (fun os started H enc _ => lifted os started H enc)

theorem proved : Rows.TopoFewerSaid :=
  over
#print axioms proved
end Go.Proofs.Ytbehobojgeganaa.topoFewer
