/- TopoCounts holds for every input: the row, out of the walk. No condition. -/
import Derived.Test.YtbehobojgeganaaRows
import Derived.SizedLaws
import Derived.Test.YtbehobojgeganaaOpenF
import Derived.Test.YtbehobojgeganaaTopH
import Derived.Test.YtbehobojgeganaaTopC
import Derived.Test.YtbehobojgeganaaPost
namespace Go.Proofs.Ytbehobojgeganaa.topoCounts
open Go.ChangeShapes Go.WideShapes Go.ChangeAt Go.RowKit
set_option linter.unusedVariables false
set_option linter.unusedSimpArgs false
set_option maxRecDepth 100000
set_option maxHeartbeats 4000000 in
theorem walk (W : World) (a0 : Int) (b0 : -9223372036854775808 ≤ a0 ∧ a0 ≤ 9223372036854775807) (A1 : Option Addr) (k1 : Nat) (fs1 : List (List Int)) (l1 : fs1.length ≤ reachBytes) (m1 : ∀ q ∈ fs1, q.length ≤ reachBytes ∧ (∀ x ∈ q, i64B x)) (n1 : FL W A1 fs1) :
    Calls Try.prog 5 #[.int .i64 a0, .slice A1 fs1.length k1] W fun e W' => e = .returned (.bool true) ∧ Below W.heap.size W W' := by
  obtain ⟨hx, hi⟩ := row_lens m1
  have hl : fs1.length < 1099511627776000 := by rw [reach_num] at l1; omega
  have cG := fun (W1 : World) (hb : Below W.heap.size W W1) => great_any W1 a0 k1 fs1 A1 (n1.below hb) hl hx
  have cB := fun (hg : a0 ≤ 60 ∧ fs1.length + tot fs1 ≤ 300) (W1 : World) (hb : Below W.heap.size W W1) => built_any W1 a0 k1 fs1 A1 (n1.below hb) b0 hi (by omega)
  replace cB := Lib.hid cB
  go_enter Try.func5, Try.ntmps5
  go_wp2_with (first
    | (go_at_call 14; (with_reducible refine (alive8_any _).mono ?_); rintro e W1 ⟨rfl, hb1⟩)
    | (go_at_call 15; (with_reducible refine (cG W1 hb1).mono ?_); rintro e W2 ⟨bb, rfl, hb2, hgr⟩; have hb12 := bel_trans hb1 hb2; replace hgr := Lib.hid hgr; clear hb2 cG; cases bb)
    | (go_at_call 17; (with_reducible refine (cB.out (hgr.out trivial) W2 hb12).mono ?_); rintro e W3 ⟨A4, A5, A6, t, c4, c5, c6, ee, rfl, hP⟩; have hb3 := bel_trans hb12 hP.bel; have hV := Lib.hid hP.isV; have hgd := hP.good; clear hP cB; rcases hgd with ⟨rfl, hs, hS⟩ | ⟨rfl, hn, rfl, rfl, rfl, rfl, rfl, rfl, rfl⟩)
    | fail)
  rotate_left
  · go_ret
    exact ⟨rfl, bel_alloc hb3 _⟩
  · go_ret
    exact ⟨rfl, hb12⟩
  have hT0 : Blk (W3.alloc (.cells #[.slice A4 t.es.length c4, .slice A5 t.fans.length c5, .slice A6 t.rs.length c6] 29)) W3.heap.size 29 #[.slice A4 t.es.length c4, .slice A5 t.fans.length c5, .slice A6 t.rs.length c6] := Blk.new _ _ _ _ rfl
  have hb4 := bel_alloc hb3 (.cells #[.slice A4 t.es.length c4, .slice A5 t.fans.length c5, .slice A6 t.rs.length c6] 29)
  have hV4 := TopoV.below hV.out (bel_alloc (Below.refl _ _) (.cells #[.slice A4 t.es.length c4, .slice A5 t.fans.length c5, .slice A6 t.rs.length c6] 29))
  generalize W3.alloc (.cells #[.slice A4 t.es.length c4, .slice A5 t.fans.length c5, .slice A6 t.rs.length c6] 29) = W4 at *
  generalize W3.heap.size = T at *
  have hnf := hS.nf
  have hnr := hS.nr
  have hwl : (waysL 0 fs1).length ≤ 300 := by
    rw [waysL_len]
    have := hgr.out trivial
    omega
  have hesl : t.es.length ≤ 300 := by
    have h1 := edges_le hS.walk hS.edges
    omega
  have ha60 := (hgr.out trivial).1
  clear hV hb3 hb12 hgr
  have hn4 := n1.below hb4
  have hcor := corners hS
  have htwo := two_is hS.walk hS.edges
  have htl := waysL_len fs1 0
  replace hcor := Lib.hid hcor
  replace htwo := Lib.hid htwo
  replace htl := Lib.hid htl
  have htot : tot fs1 ≤ 300 := by have := htl.out; omega
  go_loopw [7, 8] (fun sv fv wr => ∃ f : Nat, fv = .int .i64 (f : Int) ∧ f ≤ fs1.length ∧ sv = .int .i64 ((tot (fs1.take f) : Nat) : Int) ∧ Below W4.heap.size W4 wr) (fun _ fv _ => fs1.length - (intOf fv).toNat)
  case atStart => exact ⟨0, rfl, by omega, by simp [tot], Below.refl _ _⟩
  case round =>
    obtain ⟨f, rfl, hf, rfl, hbr⟩ := hrel
    by_cases hfl : f < fs1.length
    · obtain ⟨b, off, Bf, m, rfl, hbl, hcell, hIL⟩ := hn4.at_ f hfl
      have htk := tot_take fs1 f hfl
      have htb := len_tot (List.getElem_mem hfl)
      have htt := tot_le fs1 f
      have hside := fun (i : Nat) (hi : i < fs1[f].length) => side_way hS.walk f i hfl hi
      have hx3 := hS.walk.long _ (List.getElem_mem hfl)
      generalize fs1[f] = x at *
      replace htk := Lib.hid htk
      replace hside := Lib.hid hside
      have k0 : (0 : Int) ≤ (f : Int) := by omega
      have k1 : (f : Int) < (fs1.length : Int) := by omega
      have hcr := (hbr.cell (p := ⟨b, off + f, none⟩) hbl).trans hcell
      have hblr := Nat.lt_of_lt_of_le hbl hbr.size
      go_wp2
      clear hcr hblr
      go_loopw [9] (fun iv wq => ∃ i : Nat, iv = .int .i64 (i : Int) ∧ i ≤ x.length ∧ Below W4.heap.size W4 wq) (fun iv _ => x.length - (intOf iv).toNat)
      case atStart => exact ⟨0, rfl, by omega, hbr⟩
      case round =>
        obtain ⟨i, rfl, hi2, hbq⟩ := hrel
        clear hbr
        have hcr := (hbq.cell (p := ⟨b, off + f, none⟩) hbl).trans hcell
        have hblr := Nat.lt_of_lt_of_le hbl hbq.size
        by_cases hil : i < x.length
        · obtain ⟨d, hw⟩ := hside.out i hil
          have hT := hT0.below hbq
          have hVq := hV4.below hbq
          have t0 : wr.cell? ⟨T, 0, none⟩ = some (.slice A4 t.es.length c4) := hT.cell 0
          have t1 : wr.cell? ⟨T, 1, none⟩ = some (.slice A5 t.fans.length c5) := hT.cell 1
          have t2 : wr.cell? ⟨T, 2, none⟩ = some (.slice A6 t.rs.length c6) := hT.cell 2
          have tl := hT.lt
          obtain ⟨b2, off2, rfl, hb2, hc2⟩ := (hIL.below hbq) (by omega)
          have hm : (i + 1) % x.length < x.length := Nat.mod_lt _ (by omega)
          have g1 := hc2 i hil
          have g2 := hc2 ((i + 1) % x.length) hm
          have e1 : x.getD i 0 = x[i] := by rw [List.getD_eq_getElem?_getD, List.getElem?_eq_getElem hil]; rfl
          have e2 : x.getD ((i + 1) % x.length) 0 = x[(i + 1) % x.length] := by rw [List.getD_eq_getElem?_getD, List.getElem?_eq_getElem hm]; rfl
          rw [e1, e2] at hw
          clear e1 e2 hc2
          have hne := hS.walk.ne hw
          simp only at hne
          obtain ⟨ex, hex1, hex2, hex3⟩ := side_edge hS.walk hS.edges hw
          have hsf := fun (e : Ed) (he : e ∈ t.es) h1 h2 => side_face hS.walk hS.edges hw he h1 h2
          simp only at hex2 hex3 hsf
          generalize hxa : x[i] = xa at *
          generalize hxb : x[(i + 1) % x.length] = xb at *
          have hrem : ((i : Int) + 1) % (x.length : Int) = (((i + 1) % x.length : Nat) : Int) := by simp
          have hremt : ((i : Int) + 1).tmod (x.length : Int) = (((i + 1) % x.length : Nat) : Int) := by
            rw [Int.tmod_eq_emod_of_nonneg (by omega)]; exact hrem
          replace hrem := Lib.hid hrem
          replace hsf := Lib.hid hsf
          replace hxa := Lib.hid hxa
          replace hxb := Lib.hid hxb
          have k2 : (0 : Int) ≤ (i : Int) := by omega
          have k3 : (i : Int) < (x.length : Int) := by omega
          have k4 : ((x.length : Int) == 0) = false := beq_eq_false_iff_ne.2 (by omega)
          go_upto_region 17 with (fail)
          generalize hme : (i + 1) % x.length = mm at *
          have k5 : (0 : Int) ≤ (mm : Int) := by omega
          have k6 : (mm : Int) < (x.length : Int) := by omega
          replace hme := Lib.hid hme
          refine wp_region_grow (by kernel_rfl) (by kernel_rfl) ?_
          repeat (go_big_quiet_step ((fail)))
          refine wpQuiet_nil ?_
          rintro _ ⟨xg, rfl⟩
          have hb5 := bel_grow hbq xg
          have hT5 := hT.below (xg.kept _)
          have hV5 := hVq.below (xg.kept _)
          change Blk (grow wr xg) _ _ _ at hT5
          change TopoV (grow wr xg) _ _ _ _ at hV5
          clear t0 t1 t2 tl hb2 g1 g2 hcr hblr hT hVq hbq
          generalize grow wr xg = W5 at *
          have t0 : W5.cell? ⟨T, 0, none⟩ = some (.slice A4 t.es.length c4) := hT5.cell 0
          have t1 : W5.cell? ⟨T, 1, none⟩ = some (.slice A5 t.fans.length c5) := hT5.cell 1
          have t2 : W5.cell? ⟨T, 2, none⟩ = some (.slice A6 t.rs.length c6) := hT5.cell 2
          have tl := hT5.lt
          have cF := find_any W5 A4 A5 A6 t.fans.length t.rs.length c4 c5 c6 t.es xa xb hV5.es (by omega) hS.edges.sorted
          go_upto_region 19 with (first | (go_at_call 21; (with_reducible refine cF.mono ?_); rintro e W6 ⟨kk, ok, rfl, hF1, hb6⟩) | fail)
          have hb56 := bel_trans hb5 hb6
          have hT6 := hT5.below hb6
          have hV6 := hV5.below hb6
          clear t0 t1 t2 tl cF hT5 hV5 hb5 hb6
          have t0 : W6.cell? ⟨T, 0, none⟩ = some (.slice A4 t.es.length c4) := hT6.cell 0
          have t1 : W6.cell? ⟨T, 1, none⟩ = some (.slice A5 t.fans.length c5) := hT6.cell 1
          have t2 : W6.cell? ⟨T, 2, none⟩ = some (.slice A6 t.rs.length c6) := hT6.cell 2
          have tl := hT6.lt
          rcases hF1 with ⟨rfl, hkk, h1, h2⟩ | ⟨_, _, hno⟩
          · obtain ⟨s1, s2⟩ := hsf.out _ (List.getElem_mem hkk) h1 h2
            obtain ⟨b3, off3, rfl, hb3, hc3⟩ := hV6.es (by omega)
            obtain ⟨_, _, g3, g4⟩ := hc3 kk hkk
            clear hc3 h1 h2 hT6 hV6 hex1 hex2 hex3
            generalize t.es[kk].f = ef at *
            generalize t.es[kk].g = eg at *
            have k7 : (0 : Int) ≤ (kk : Int) := by omega
            have k8 : (kk : Int) < (t.es.length : Int) := by omega
            by_cases dl : xa < xb
            · obtain rfl := s1 dl
              have dn : ¬ xb < xa := by omega
              clear s1 s2
              go_wp2
              go_roundw
              case rel => exact ⟨i + 1, by go_num, by omega, hb56⟩
              case measure => simp [intOf]; omega
            · have dg : xb < xa := by omega
              obtain rfl := s2 dg
              clear s1 s2
              go_wp2
              go_roundw
              case rel => exact ⟨i + 1, by go_num, by omega, hb56⟩
              case measure => simp [intOf]; omega
          · exact absurd ⟨hex2, hex3⟩ (hno ex hex1)
        · obtain rfl : i = x.length := by omega
          go_wp2
          go_roundw
          case rel => exact ⟨f + 1, by go_num, by omega, by rw [htk.out]; simp, hbq⟩
          case measure => simp [intOf]; omega
    · obtain rfl : f = fs1.length := by omega
      rw [List.take_length]
      go_wp2
      go_loopw [14, 15] (fun nv iv wq => ∃ (i n : Nat), iv = .int .i64 (i : Int) ∧ i ≤ t.es.length ∧ nv = .int .i64 (n : Int) ∧ n = ((t.es.take i).filter fun e => !edgedE e).length ∧ n ≤ i ∧ Below W4.heap.size W4 wq) (fun _ iv _ => t.es.length - (intOf iv).toNat)
      case atStart => exact ⟨0, 0, rfl, by omega, rfl, by simp, by omega, hbr⟩
      case round =>
        obtain ⟨i, n, rfl, hi2, rfl, hn, hni, hbq⟩ := hrel
        clear hbr
        have hT := hT0.below hbq
        have hVq := hV4.below hbq
        have t0 : wr.cell? ⟨T, 0, none⟩ = some (.slice A4 t.es.length c4) := hT.cell 0
        have t1 : wr.cell? ⟨T, 1, none⟩ = some (.slice A5 t.fans.length c5) := hT.cell 1
        have t2 : wr.cell? ⟨T, 2, none⟩ = some (.slice A6 t.rs.length c6) := hT.cell 2
        have tl := hT.lt
        by_cases hil : i < t.es.length
        · have cE := edged_any wr A4 A5 A6 t.fans.length t.rs.length c4 c5 c6 t.es (i : Int) hVq.es
          have hed : edgedB t.es (i : Int) = edgedE t.es[i] := by simp [edgedB, edgedE, hil]
          have hcnt := take_count (fun e => !edgedE e) t.es i hil
          rw [hed] at cE
          replace hn := Lib.hid hn
          replace hcnt := Lib.hid hcnt
          have k0 : (0 : Int) ≤ (i : Int) := by omega
          have k1 : (i : Int) < (t.es.length : Int) := by omega
          clear hed hT hVq
          cases hee : edgedE t.es[i] with
          | true =>
            rw [hee] at cE
            replace hee := Lib.hid hee
            go_wp2_with (first | (go_at_call 23; (with_reducible refine cE.mono ?_); rintro e W9 ⟨rfl, hb9⟩) | fail)
            go_roundw
            case rel => exact ⟨i + 1, n, by go_num, by omega, rfl, by rw [hcnt.out, hee.out, ← hn.out]; simp, by omega, bel_trans hbq hb9⟩
            case measure => simp [intOf]; omega
          | false =>
            rw [hee] at cE
            replace hee := Lib.hid hee
            go_wp2_with (first | (go_at_call 23; (with_reducible refine cE.mono ?_); rintro e W9 ⟨rfl, hb9⟩) | fail)
            go_roundw
            case rel => exact ⟨i + 1, n + 1, by go_num, by omega, by go_num, by rw [hcnt.out, hee.out, ← hn.out]; simp, by omega, bel_trans hbq hb9⟩
            case measure => simp [intOf]; omega
        · obtain rfl : i = t.es.length := by omega
          rw [List.take_length] at hn
          have hn2 := Lib.hid (show n + t.es.length = tot fs1 by have h1 := htwo.out; have h2 := htl.out; omega)
          clear hn hT hVq
          go_wp2
          clear t0 t1 t2 tl
          go_loopw [16, 17] (fun nv iv wq => ∃ (i n : Nat), iv = .int .i64 (i : Int) ∧ i ≤ t.fans.length ∧ nv = .int .i64 (n : Int) ∧ n = tot (t.fans.take i) ∧ Below W4.heap.size W4 wq) (fun _ iv _ => t.fans.length - (intOf iv).toNat)
          case atStart => exact ⟨0, 0, rfl, by omega, rfl, by simp [tot], hbq⟩
          case round =>
            obtain ⟨i, n3, rfl, hi3, rfl, hn3, hbq3⟩ := hrel
            clear hbq
            have hT := hT0.below hbq3
            have hVq := hV4.below hbq3
            have t0 : wr.cell? ⟨T, 0, none⟩ = some (.slice A4 t.es.length c4) := hT.cell 0
            have t1 : wr.cell? ⟨T, 1, none⟩ = some (.slice A5 t.fans.length c5) := hT.cell 1
            have t2 : wr.cell? ⟨T, 2, none⟩ = some (.slice A6 t.rs.length c6) := hT.cell 2
            have tl := hT.lt
            by_cases hil : i < t.fans.length
            · obtain ⟨b9, off9, Bf9, m9, rfl, hbl9, hcell9, _⟩ := hVq.fans.at_ i hil
              have htk := tot_take t.fans i hil
              have hb1 := tot_le t.fans (i + 1)
              have hb2 : tot t.fans ≤ 300 := by
                have h1 := hcor.out
                unfold tot
                omega
              generalize t.fans[i] = y at *
              have hyl : n3 + y.length ≤ 300 := by omega
              have k0 : (0 : Int) ≤ (i : Int) := by omega
              have k1 : (i : Int) < (t.fans.length : Int) := by omega
              replace hn3 := Lib.hid hn3
              replace htk := Lib.hid htk
              clear hT hVq hb1 hb2
              go_wp2
              go_roundw
              case rel => exact ⟨i + 1, n3 + y.length, by go_num, by omega, by simp, by rw [htk.out, hn3.out], hbq3⟩
              case measure => simp [intOf]; omega
            · obtain rfl : i = t.fans.length := by omega
              rw [List.take_length] at hn3
              have h1 := hcor.out
              have h2 := htl.out
              have h3 := hn2.out
              have q1 : n3 = tot fs1 := by rw [hn3]; unfold tot; unfold tot at h2; omega
              have q2 : (n : Int) = (tot fs1 : Int) - (t.es.length : Int) := by omega
              have q3 : ((t.fans.length : Int) == a0) = true := by simpa using hnf
              replace q2 := Lib.hid q2
              clear hn3 h1 h2 h3 hT hVq
              subst q1
              have q4 : ((n : Int) == (tot fs1 : Int) - (t.es.length : Int)) = true := by have := q2.out; simpa using this
              go_wp2
              go_ret
              exact ⟨by first | rfl | (simp [q4, q3]), bel_trans hb4 hbq3⟩

theorem own : ownKnob Try.prog.godebug = none := by kernel_rfl
set_option maxRecDepth 100000 in
theorem lifted (os : Os) (started : os.Started) (H : Type) (enc : TypeId × Value → H) :
    ReturnsInHanded {} Try.checked os 5 .any (Rows.topoCountsSpec.pre6 enc Try.prog Try.f5 Rows.topoCountsRow.domain false) (Rows.topoCountsSpec.post enc Try.prog Try.f5 false true false false) := by
  refine returnsInHanded_of_change_sized (C := Try.checked) own started (by kernel_rfl) Try.func5
    (ChangeSpec.witness6 (enc := enc) (C := Try.checked) false ⟨#[], #[.int .i64 0, .slice none 0 0], []⟩ 12 (by kernel_rfl) (by kernel_rfl) (by kernel_rfl) (by kernel_rfl)) ?_
  intro W base args ds gs before hval0 hW hcnd hwt _
  have hval : ∀ (j : Nat) t v, Try.f5.params[j]? = some t → args[j]? = some v → Value.okWide Try.prog W .any base t v := hval0
  have hW' := hW
  obtain ⟨p, q, hA0, hV, rfl, hfz, hnd⟩ := hW
  have hA : DataW.TrodAll enc Try.prog W 0 (fun _ => true) true Try.f5.params.toList args.toList ds p := hA0
  rw [Try.params5] at hA hval
  obtain ⟨v0, vs0, d0, ds0, p0, q0, hargs, rfl, rfl, h0, r0⟩ := trodAll_cons hA
  obtain ⟨v1, vs1, d1, ds1, p1, q1, rfl, rfl, rfl, h1, r1⟩ := trodAll_cons r0
  obtain ⟨rfl, rfl, rfl⟩ := trodAll_nil r1
  obtain rfl : args = #[v0, v1] := by cases args; simp_all
  obtain ⟨a0, rfl, b0⟩ := open_int64 (hval 0 3 v0 rfl rfl) h0
  obtain ⟨sa1, sn1, sc1, rfl⟩ := okWide_slice Try.underlying22 (hval 1 22 v1 rfl rfl)
  have hTW1 : TW enc Try.prog W 0 (fun _ => true) true 22 [.slice sa1 sn1 sc1] := by
    obtain ⟨fu, hfu⟩ := h1
    refine ⟨fu, _, hfu, fun n hn => ?_⟩
    have := List.all_eq_true.1 hwt n (DataW.weights_mem_each (j := 1) (t := 22) (d := d1) (by rw [Try.params5]; rfl) (by rfl) n hn)
    simpa using this
  obtain ⟨A1, k1, fs1, e1, l1, m1, n1⟩ := tw_facesF hTW1
  obtain ⟨f1, g1, i1⟩ : A1 = sa1 ∧ fs1.length = sn1 ∧ k1 = sc1 := by simpa [eq_comm] using e1
  subst f1
  subst g1
  subst i1
  clear hTW1
  refine (walk W a0 b0 A1 k1 fs1 l1 m1 n1).mono fun e W' ⟨he, hb⟩ => ?_
  subst he
  exact ⟨_, rfl, law_post (tb := 4) (by kernel_rfl) (by kernel_rfl) rfl rfl Try.underlying4 rfl rfl rfl hW' hb⟩

theorem over : Rows.topoCountsRow.holds Try.pinned (OpenSpec.ofChange Rows.topoCountsSpec) :=
  OpenClaim.holds_of_wide 5 Try.f5 rfl rfl rfl rfl rfl rfl rfl ⟨rfl, rfl, rfl, rfl, rfl⟩ rfl rfl rfl rfl rfl (by kernel_rfl) Try.func5 (by kernel_rfl)
    (of_decide_eq_true (by kernel_rfl)) (by unfold Func.isWrapper; first | (rw [if_pos (by decide +kernel)]; kernel_rfl) | (rw [if_neg (by decide +kernel)]; exact ⟨rfl, rfl⟩))
    (fun os started H enc _ => lifted os started H enc)

theorem proved : Rows.TopoCountsSaid :=
  over
#print axioms proved
end Go.Proofs.Ytbehobojgeganaa.topoCounts
