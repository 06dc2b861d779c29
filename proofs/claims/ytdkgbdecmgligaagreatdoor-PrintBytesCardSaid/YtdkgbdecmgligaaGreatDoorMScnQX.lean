/- The program's own scene: the line of a sky. -/
import Derived.Test.YtdkgbdecmgligaaGreatDoorMScnQA
import Derived.Test.YtdkgbdecmgligaaGreatDoorMLexC
import Derived.Test.YtdkgbdecmgligaaGreatDoorRegS
namespace Go.Proofs.YtdkgbdecmgligaaGreatDoor
open Go.RowKit
set_option linter.unusedVariables false
set_option linter.unusedSimpArgs false
set_option linter.unnecessarySimpa false

set_option maxRecDepth 100000 in
set_option maxHeartbeats 2000000 in
theorem psky (W : World) (g n c : Nat) (A : Option Addr) (TR : TypeId) (sc : Scn) (val : Key → Value) (ws : List Wd) (hn : ws.length = n) (hl : n ≤ 65537) (hA : SFW W A ws) (hR : RepV g W g TR sc val) :
    Calls Tryz.prog 80 #[.pointer (some ⟨g, 0, none⟩), .slice A n c] W fun e W' => lineP g TR W (skyF sc ws) e W' := by
  have c25 : W.cell? ⟨g, 25, none⟩ = some (.bool sc.sky.isSome) := hR.blk.cell 25
  have c16 : W.cell? ⟨g, 16, none⟩ = some (.int .i64 ((skyN sc).getD 0 0)) := hR.blk.cell 16
  have c17 : W.cell? ⟨g, 17, none⟩ = some (.int .i64 ((skyN sc).getD 1 0)) := hR.blk.cell 17
  have c18 : W.cell? ⟨g, 18, none⟩ = some (.int .i64 ((skyN sc).getD 2 0)) := hR.blk.cell 18
  have z25 := hR.blk.frozen 25
  have z16 := hR.blk.frozen 16
  have z17 := hR.blk.frozen 17
  have z18 := hR.blk.frozen 18
  have hgl := hR.lt
  have HR := Lib.hid hR
  clear hR
  have HF := Lib.hid (show skyF sc ws = (match numsF ws with | none => .error 10 | some n => if n.length ≠ 3 then .error 10 else if sc.sky.isSome then .error 12 else if wi n 0 3 0 255 then .ok { sc with sky := some n } else .error 11) from rfl)
  generalize hb1 : sc.sky.isSome = sn at *
  generalize (skyN sc).getD 0 0 = y0 at *
  generalize (skyN sc).getD 1 0 = y1 at *
  generalize (skyN sc).getD 2 0 = y2 at *
  go_enter Tryz.func80, Tryz.ntmps80
  go_wp2_with (first | (go_at_call 108; (with_reducible refine (need_any _ _ 10).mono ?_); rintro e w9 (⟨hb10, rfl, h9⟩ | ⟨hb10, rfl, h9⟩) <;> (replace h9 := h9.symm; subst h9)) | (go_at_call 108; (with_reducible refine (need_any _ _ 12).mono ?_); rintro e w9 (⟨hb12, rfl, h9⟩ | ⟨hb12, rfl, h9⟩) <;> (replace h9 := h9.symm; subst h9)) | (go_at_call 109; (with_reducible refine (pnumbers_any _ _ _ _ ws hn hl (hA.below (by repeat (first | with_reducible exact Below.refl _ _ | with_reducible refine bel_then ?_ _ | with_reducible refine bel_grow ?_ _ | with_reducible refine bel_alloc ?_ _ | with_reducible refine bel_drew ?_ | with_reducible refine bel_set ?_ (by simp) _ | with_reducible refine bel_setRow ?_ (by first | omega | (simp; done)) _)))).mono ?_); rintro e w2 hp; rcases pnums_or hp hn with ⟨hN, rfl, x2, rfl⟩ | ⟨ns, b2, x2, hN, hL, rfl, rfl, hown⟩) | (go_at_call 110; (with_reducible refine (pwithin_any _ _ _ _ _ _ (ns) (hL.out) (len_big hl) ((IF_of_own hown.out hL.out).below (by repeat (first | with_reducible exact Below.refl _ _ | with_reducible refine bel_then ?_ _ | with_reducible refine bel_grow ?_ _ | with_reducible refine bel_alloc ?_ _ | with_reducible refine bel_drew ?_ | with_reducible refine bel_set ?_ (by simp) _ | with_reducible refine bel_setRow ?_ (by first | omega | (simp; done)) _)))).mono ?_); rintro e _ ⟨⟨hw, rfl⟩ | ⟨hw, rfl⟩, x3, rfl⟩) | (go_at_call 112; refine (pcolor_any _ _ _ _ ns hL.out (len_big hl) ?_ ?_).mono ?_; rotate_left 2; rintro e _ ⟨rfl, x4, rfl⟩))
  · refine ⟨rfl, lineP_err 10 hgl (by repeat (first | with_reducible exact Below.refl _ _ | with_reducible refine bel_then ?_ _ | with_reducible refine bel_grow ?_ _ | with_reducible refine bel_alloc ?_ _ | with_reducible refine bel_drew ?_ | with_reducible refine bel_set ?_ (by simp) _ | with_reducible refine bel_setRow ?_ (by first | omega | (simp; done)) _)) ?_⟩
    rw [HF.out, hN]
  · go_end0
    simp at hb10 hb12
    have hl3 : ns.length = 3 := by have := hL.out; omega
    rw [inB_all hl3] at hw
    refine lineP_ok (sc' := { sc with sky := some ns }) (by rw [HF.out, hN]; simp [hl3, hb12, hw]) (fr_gb (gb_grow (gb_set (gb_set (gb_set (gb_set (World.grownBy.refl _ _) 25 _) 16 _) 17 _) 18 _) _) HR.out.blk) (HR.out.but (gb_grow (gb_set (gb_set (gb_set (gb_set (World.grownBy.refl _ _) 25 _) 16 _) 17 _) 18 _) _) ?_ rfl rfl rfl)
    have h := Blk.grow ((((HR.out.blk.set 25 (.bool true)).set 16 (.int .i64 (ns.getD 0 0))).set 17 (.int .i64 (ns.getD 1 0))).set 18 (.int .i64 (ns.getD 2 0)))
    rw [show rcells { sc with sky := some ns } val = (((((rcells sc val).setIfInBounds 25 (.bool true)).setIfInBounds 16 (.int .i64 (ns.getD 0 0))).setIfInBounds 17 (.int .i64 (ns.getD 1 0))).setIfInBounds 18 (.int .i64 (ns.getD 2 0))) from by simp [rcells, skyN, camN]]
    exact h _
  · simp at hb10; omega
  · exact IF_but hown.out hL.out hgl (by rw [← grow_setCell _ _ _ _ _ hgl]; exact gb_set (gb_grow (World.grownBy.refl _ _) _) _ _)
  · refine ⟨rfl, lineP_err 11 hgl (by repeat (first | with_reducible exact Below.refl _ _ | with_reducible refine bel_then ?_ _ | with_reducible refine bel_grow ?_ _ | with_reducible refine bel_alloc ?_ _ | with_reducible refine bel_drew ?_ | with_reducible refine bel_set ?_ (by simp) _ | with_reducible refine bel_setRow ?_ (by first | omega | (simp; done)) _)) ?_⟩
    rw [HF.out, hN]
    simp at hb10 hb12
    have hl3 : ns.length = 3 := by have := hL.out; omega
    rw [inB_all hl3] at hw
    simp [hl3, hb12, hw]
  · refine ⟨rfl, lineP_err 12 hgl (by repeat (first | with_reducible exact Below.refl _ _ | with_reducible refine bel_then ?_ _ | with_reducible refine bel_grow ?_ _ | with_reducible refine bel_alloc ?_ _ | with_reducible refine bel_drew ?_ | with_reducible refine bel_set ?_ (by simp) _ | with_reducible refine bel_setRow ?_ (by first | omega | (simp; done)) _)) ?_⟩
    rw [HF.out, hN]
    simp at hb10 hb12
    have hl3 : ns.length = 3 := by have := hL.out; omega
    simp [hl3, hb12]
  · refine ⟨rfl, lineP_err 10 hgl (by repeat (first | with_reducible exact Below.refl _ _ | with_reducible refine bel_then ?_ _ | with_reducible refine bel_grow ?_ _ | with_reducible refine bel_alloc ?_ _ | with_reducible refine bel_drew ?_ | with_reducible refine bel_set ?_ (by simp) _ | with_reducible refine bel_setRow ?_ (by first | omega | (simp; done)) _)) ?_⟩
    rw [HF.out]
    cases hN : numsF ws with
    | none => rfl
    | some m =>
      have := numsF_len _ _ hN
      simp at hb10
      simp; omega
end Go.Proofs.YtdkgbdecmgligaaGreatDoor

/- The program's own scene: the line of a light. -/
namespace Go.Proofs.YtdkgbdecmgligaaGreatDoor
open Go.RowKit
set_option linter.unusedVariables false
set_option linter.unusedSimpArgs false
set_option linter.unnecessarySimpa false

set_option maxRecDepth 100000 in
set_option maxHeartbeats 2000000 in
theorem plight (W : World) (g n c : Nat) (A : Option Addr) (TR : TypeId) (sc : Scn) (val : Key → Value) (ws : List Wd) (hn : ws.length = n) (hl : n ≤ 65537) (hA : SFW W A ws) (hR : RepV g W g TR sc val) :
    Calls Tryz.prog 81 #[.pointer (some ⟨g, 0, none⟩), .slice A n c] W fun e W' => lineP g TR W (lightF sc ws) e W' := by
  obtain ⟨A1, a1, hv⟩ := own_form (show W.ownsRow g 76 6 (val .lights) sc.lights.length (sc.lights.flatMap fL) from hR.own.row .lights)
  obtain ⟨i0, hi0, hz0, hz1, hz2⟩ := info_parts infoLt
  have c19 : W.cell? ⟨g, 19, none⟩ = some (.slice A1 sc.lights.length a1) := by rw [← hv]; exact hR.blk.cell 19
  have z19 := hR.blk.frozen 19
  have hgl := hR.lt
  have HR := Lib.hid hR
  have HV := Lib.hid hv
  clear hR hv
  have HF := Lib.hid (show lightF sc ws = (match numsF ws with | none => .error 10 | some n => if n.length ≠ 6 then .error 10 else if 4 ≤ sc.lights.length then .error 13
    else if (wi n 0 3 (-16384) 16384 && wi n 3 6 0 255) then .ok { sc with lights := sc.lights ++ [n] } else .error 11) from rfl)
  go_enter Tryz.func81, Tryz.ntmps81
  go_wp2_with (first | (go_at_call 108; (with_reducible refine (need_any _ _ 10).mono ?_); rintro e w9 (⟨hb10, rfl, h9⟩ | ⟨hb10, rfl, h9⟩) <;> (replace h9 := h9.symm; subst h9); (first | (obtain rfl : n = 6 := (by simp at hb10; omega)) | skip)) | (go_at_call 108; (with_reducible refine (need_any _ _ 13).mono ?_); rintro e w9 (⟨hb13, rfl, h9⟩ | ⟨hb13, rfl, h9⟩) <;> (replace h9 := h9.symm; subst h9)) | (go_at_call 109; (with_reducible refine (pnumbers_any _ _ _ _ ws hn hl (hA.below (by repeat (first | with_reducible exact Below.refl _ _ | with_reducible refine bel_then ?_ _ | with_reducible refine bel_grow ?_ _ | with_reducible refine bel_alloc ?_ _ | with_reducible refine bel_drew ?_ | with_reducible refine bel_set ?_ (by simp) _ | with_reducible refine bel_setRow ?_ (by first | omega | (simp; done)) _)))).mono ?_); rintro e w2 hp; rcases pnums_or hp hn with ⟨hN, rfl, x2, rfl⟩ | ⟨ns, b2, x2, hN, hL, rfl, rfl, hown⟩) | (go_at_call 110; (with_reducible refine (pwithin_any _ _ _ _ _ _ ((ns.take 3).drop 0) (by have := hL.out; simp; omega) (by decide) (IF.subE ((IF_of_own hown.out hL.out).below (by repeat (first | with_reducible exact Below.refl _ _ | with_reducible refine bel_then ?_ _ | with_reducible refine bel_grow ?_ _ | with_reducible refine bel_alloc ?_ _ | with_reducible refine bel_drew ?_ | with_reducible refine bel_set ?_ (by simp) _ | with_reducible refine bel_setRow ?_ (by first | omega | (simp; done)) _))) 0 3 0 (by have := hL.out; omega) rfl)).mono ?_); rintro e _ ⟨⟨hw1, rfl⟩ | ⟨hw1, rfl⟩, x3, rfl⟩) | (go_at_call 110; (with_reducible refine (pwithin_any _ _ _ _ _ _ ((ns.take 6).drop 3) (by have := hL.out; simp; omega) (by decide) (IF.subE ((IF_of_own hown.out hL.out).below (by repeat (first | with_reducible exact Below.refl _ _ | with_reducible refine bel_then ?_ _ | with_reducible refine bel_grow ?_ _ | with_reducible refine bel_alloc ?_ _ | with_reducible refine bel_drew ?_ | with_reducible refine bel_set ?_ (by simp) _ | with_reducible refine bel_setRow ?_ (by first | omega | (simp; done)) _))) 3 6 3 (by have := hL.out; omega) rfl)).mono ?_); rintro e _ ⟨⟨hw2, rfl⟩ | ⟨hw2, rfl⟩, x3, rfl⟩))
  · refine ⟨rfl, lineP_err 10 hgl (by repeat (first | with_reducible exact Below.refl _ _ | with_reducible refine bel_then ?_ _ | with_reducible refine bel_grow ?_ _ | with_reducible refine bel_alloc ?_ _ | with_reducible refine bel_drew ?_ | with_reducible refine bel_set ?_ (by simp) _ | with_reducible refine bel_setRow ?_ (by first | omega | (simp; done)) _)) ?_⟩
    rw [HF.out, hN]
  · simp at hb13
    have hl6 : ns.length = 6 := hL.out
    rw [inB_wi] at hw1 hw2
    have HS := Lib.hid (show lightF sc ws = .ok { sc with lights := sc.lights ++ [ns] } by rw [HF.out, hN]; simp [hl6, hw1, hw2]; omega)
    clear HF hw1 hw2
    generalize hV : grow W _ = V
    have hB1 : Below W.heap.size W V := by rw [← hV]; exact bel_grow (Below.refl _ _) _
    have HRV : RepV g V g TR sc val := by rw [← hV]; exact HR.out.grow _
    have hIV : IF V (some ⟨b2, 0, none⟩) ns := by rw [← hV]; exact (IF_of_own hown.out hL.out).below (by repeat (first | with_reducible exact Below.refl _ _ | with_reducible refine bel_then ?_ _ | with_reducible refine bel_grow ?_ _ | with_reducible refine bel_alloc ?_ _ | with_reducible refine bel_drew ?_ | with_reducible refine bel_set ?_ (by simp) _ | with_reducible refine bel_setRow ?_ (by first | omega | (simp; done)) _))
    have c19 : V.cell? ⟨g, 19, none⟩ = some (.slice A1 sc.lights.length a1) := by rw [← HV.out]; exact HRV.blk.cell 19
    have z19 := HRV.blk.frozen 19
    have hVl := HRV.lt
    have OW : ∀ x, (grow V x).ownsRow g 76 6 (.slice A1 sc.lights.length a1) sc.lights.length (sc.lights.flatMap fL) := by
      intro x; rw [← HV.out]; exact (HRV.grow x).own.row .lights
    have CP := Lib.hid (fun (x : More) => ppoint_any (grow V x) (some ⟨b2, 0, none⟩) 6 6 ns hL.out (by decide) (by decide) (hIV.below (bel_grow (Below.refl _ _) x)))
    have CC := Lib.hid (fun (x : More) => pcolor_any (grow V x) (some ⟨b2, 3, none⟩) 3 3 ((ns.take 6).drop 3) (by simp; omega) (by decide) (by decide) ((hIV.subE 3 6 3 (by omega) rfl).below (bel_grow (Below.refl _ _) x)))
    rw [sub_get ns 3 6 0 (by omega), sub_get ns 3 6 1 (by omega), sub_get ns 3 6 2 (by omega)] at CC
    replace OW := Lib.hid OW
    replace HRV := Lib.hid HRV
    have HNS := Lib.hid (show fL ns = [.int .i64 (ns.getD 0 0), .int .i64 (ns.getD 1 0), .int .i64 (ns.getD 2 0), .int .i64 (ns.getD 3 0), .int .i64 (ns.getD 4 0), .int .i64 (ns.getD 5 0)] from rfl)
    generalize ns.getD 0 0 = p0 at *
    generalize ns.getD 1 0 = p1 at *
    generalize ns.getD 2 0 = p2 at *
    generalize ns.getD (3 + 0) 0 = p3 at *
    generalize ns.getD (3 + 1) 0 = p4 at *
    generalize ns.getD (3 + 2) 0 = p5 at *
    clear hown hIV hp
    refine wp_region_makeS_ 12 ?_ (.pointer (some ⟨g, 0, none⟩)) 37 (.cells #[.int .i64 p0, .int .i64 p1, .int .i64 p2, .int .i64 p3, .int .i64 p4, .int .i64 p5] 76) (by kernel_rfl) (by kernel_rfl) (by kernel_rfl) rfl rfl rfl (fun _ _ _ h => h) ?_ (fun x => ?_) (fun x y => ?_)
    rotate_left 2
    · simp only [List.take_succ_cons, List.take_zero, List.tail_cons, Act.put, List.setIfInBounds_toArray, List.set_cons_succ, List.set_cons_zero]
      repeat (go_big_quiet_step (((first | exact qq1 (CP.out _) | exact qq2 (CP.out _) | exact qq1 (CC.out _) | exact qq2 (CC.out _)))))
      refine wpQuiet_nil ?_
      exact rfl
    rotate_left
    · exact ⟨_, rfl, rfl, rfl, fun u => by simp [execOp, go_sem]⟩
    simp only [List.drop_succ_cons, List.drop_zero]
    try simp only [Act.put, List.setIfInBounds_toArray, List.set_cons_succ, List.set_cons_zero]
    go_wp2_with (at_builtin; go_loud (refine wpList_append_own_at _ rfl _ _ 28 rfl g 76 i0 _ 6 48 Tryz.underlying28 hi0 hz0 hz1 hz2 rfl (by decide) _ _ _ rfl (own_grow ((OW.out _).alloc _) _) ⟨_, 0, none⟩ 1 1 [.int .i64 p0, .int .i64 p1, .int .i64 p2, .int .i64 p3, .int .i64 p4, .int .i64 p5] rfl rfl (cell_newG _ [.int .i64 p0, .int .i64 p1, .int .i64 p2, .int .i64 p3, .int .i64 p4, .int .i64 p5] _ _) (fun u hu => by simp at hu; rcases hu with rfl | rfl | rfl | rfl | rfl | rfl <;> rfl) (by unfold maxLen; omega) (by omega) (Nat.le_trans (Nat.le_of_lt hVl) (@Below.size V.heap.size V _ (by repeat (first | with_reducible exact Below.refl _ _ | with_reducible refine bel_then ?_ _ | with_reducible refine bel_grow ?_ _ | with_reducible refine bel_alloc ?_ _ | with_reducible refine bel_drew ?_ | with_reducible refine bel_set ?_ (by simp) _ | with_reducible refine bel_setRow ?_ (by first | omega | (simp; done)) _)))) ?_); intro v4 w4 hown4 hgr4 hnil4 hat4; clear hnil4; obtain ⟨A4, a4, rfl⟩ := own_form hown4; go_loud (obtain ⟨B4, R4⟩ := HRV.out.lightsP HV.out ns HNS.out _ hgr4 hown4 hat4 (by repeat (first | with_reducible exact Below.refl _ _ | with_reducible refine bel_then ?_ _ | with_reducible refine bel_grow ?_ _ | with_reducible refine bel_alloc ?_ _ | with_reducible refine bel_drew ?_ | with_reducible refine bel_set ?_ (by simp) _ | with_reducible refine bel_setRow ?_ (by first | omega | (simp; done)) _)); have hB4 := fr_app (TR := TR) hB1 hgl hgr4 (own_typed (OW.out More.none_)) (by decide) (Nat.le_refl _) HRV.out.blk (fun h => h) 19 (.slice A4 (sc.lights.length + 1) a4) (by repeat (first | with_reducible exact Below.refl _ _ | with_reducible refine bel_then ?_ _ | with_reducible refine bel_grow ?_ _ | with_reducible refine bel_alloc ?_ _ | with_reducible refine bel_drew ?_ | with_reducible refine bel_set ?_ (by simp) _ | with_reducible refine bel_setRow ?_ (by first | omega | (simp; done)) _)); have c4 : w4.cell? ⟨g, 19, none⟩ = some (val .lights) := B4.cell 19; have z4 := B4.frozen 19; replace R4 := Lib.hid R4; replace hB4 := Lib.hid hB4; clear hgr4 hown4 hat4))
    go_end0
    exact lineP_ok HS.out hB4.out R4.out
  · refine ⟨rfl, lineP_err 11 hgl (by repeat (first | with_reducible exact Below.refl _ _ | with_reducible refine bel_then ?_ _ | with_reducible refine bel_grow ?_ _ | with_reducible refine bel_alloc ?_ _ | with_reducible refine bel_drew ?_ | with_reducible refine bel_set ?_ (by simp) _ | with_reducible refine bel_setRow ?_ (by first | omega | (simp; done)) _)) ?_⟩
    rw [HF.out, hN]
    simp at hb13
    have hl6 : ns.length = 6 := hL.out
    rw [inB_wi] at hw1 hw2
    simp [hl6, hw1, hw2]
    omega
  · refine ⟨rfl, lineP_err 11 hgl (by repeat (first | with_reducible exact Below.refl _ _ | with_reducible refine bel_then ?_ _ | with_reducible refine bel_grow ?_ _ | with_reducible refine bel_alloc ?_ _ | with_reducible refine bel_drew ?_ | with_reducible refine bel_set ?_ (by simp) _ | with_reducible refine bel_setRow ?_ (by first | omega | (simp; done)) _)) ?_⟩
    rw [HF.out, hN]
    simp at hb13
    have hl6 : ns.length = 6 := hL.out
    rw [inB_wi] at hw1
    simp [hl6, hw1]
    omega
  · refine ⟨rfl, lineP_err 13 hgl (by repeat (first | with_reducible exact Below.refl _ _ | with_reducible refine bel_then ?_ _ | with_reducible refine bel_grow ?_ _ | with_reducible refine bel_alloc ?_ _ | with_reducible refine bel_drew ?_ | with_reducible refine bel_set ?_ (by simp) _ | with_reducible refine bel_setRow ?_ (by first | omega | (simp; done)) _)) ?_⟩
    rw [HF.out, hN]
    simp at hb13
    have hl6 : ns.length = 6 := hL.out
    simp [hl6]
    omega
  · refine ⟨rfl, lineP_err 10 hgl (by repeat (first | with_reducible exact Below.refl _ _ | with_reducible refine bel_then ?_ _ | with_reducible refine bel_grow ?_ _ | with_reducible refine bel_alloc ?_ _ | with_reducible refine bel_drew ?_ | with_reducible refine bel_set ?_ (by simp) _ | with_reducible refine bel_setRow ?_ (by first | omega | (simp; done)) _)) ?_⟩
    rw [HF.out]
    cases hN : numsF ws with
    | none => rfl
    | some m =>
      have := numsF_len _ _ hN
      simp at hb10
      simp; omega
end Go.Proofs.YtdkgbdecmgligaaGreatDoor
