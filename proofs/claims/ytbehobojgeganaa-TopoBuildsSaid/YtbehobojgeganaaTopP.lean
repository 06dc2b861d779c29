/- Two surfaces beside one another, with vertices of their own. No program is imported. -/
import Derived.Test.YtbehobojgeganaaTopT
namespace Go.Proofs.Ytbehobojgeganaa
set_option linter.unusedVariables false
set_option linter.unusedSimpArgs false
/-- A way, moved: its vertices by n, its face by m. -/
def shW (n m : Int) (w : Way) : Way := ⟨w.a + n, w.b + n, w.f + m, w.c + n⟩
def shF (n : Int) (gs : List (List Int)) : List (List Int) := gs.map fun x => x.map (· + n)
theorem wayR_sh (n m f : Int) : ∀ (x : List Int) (b a : Int), wayR (f + m) (b + n) (a + n) (x.map (· + n)) = (wayR f b a x).map (shW n m)
  | [], _, _ => rfl
  | t :: r, b, a => by
    simp only [List.map_cons, wayR, wayR_sh n m f r a t]
    rfl
theorem waysF_sh (n m f : Int) (x : List Int) : waysF (f + m) (x.map (· + n)) = (waysF f x).map (shW n m) := by
  cases x with
  | nil => rfl
  | cons t r =>
    unfold waysF
    have g : ∀ k, k < (t :: r).length → ((t :: r).map (· + n)).getD k 0 = (t :: r).getD k 0 + n := fun k hk => by
      rw [List.getD_eq_getElem?_getD, List.getD_eq_getElem?_getD, List.getElem?_map, List.getElem?_eq_getElem hk]; rfl
    rw [List.length_map, g _ (by simp; omega), g _ (by simp), wayR_sh]
theorem waysL_sh (n : Int) (m : Nat) : ∀ (gs : List (List Int)) (k : Nat), waysL (k + m) (shF n gs) = (waysL k gs).map (shW n (m : Int))
  | [], _ => rfl
  | x :: r, k => by
    have ih := waysL_sh n m r (k + 1)
    unfold shF at *
    simp only [List.map_cons, waysL, List.map_append]
    rw [show k + m + 1 = k + 1 + m by omega, ih, show ((k + m : Nat) : Int) = (k : Int) + (m : Int) by omega, waysF_sh]
def both (n : Int) (fs gs : List (List Int)) : List (List Int) := fs ++ shF n gs
theorem both_ways (n : Int) (fs gs : List (List Int)) : waysL 0 (both n fs gs) = waysL 0 fs ++ (waysL 0 gs).map (shW n (fs.length : Int)) := by
  unfold both
  rw [waysL_append, waysL_sh]
theorem two_mem {n : Int} {fs gs : List (List Int)} {w : Way} : w ∈ waysL 0 (both n fs gs) ↔ w ∈ waysL 0 fs ∨ ∃ u ∈ waysL 0 gs, w = shW n (fs.length : Int) u := by
  rw [both_ways, List.mem_append, List.mem_map]
  constructor
  · rintro (h | ⟨u, hu, rfl⟩)
    · exact .inl h
    · exact .inr ⟨u, hu, rfl⟩
  · rintro (h | ⟨u, hu, rfl⟩)
    · exact .inl h
    · exact .inr ⟨u, hu, rfl⟩
theorem beq_add (x y n : Int) : (x + n == y + n) = (x == y) := by
  rw [Bool.eq_iff_iff, beq_iff_eq, beq_iff_eq]
  omega
/-- What is known of the two: their ways lie apart. -/
structure Two (n m : Int) (fs gs : List (List Int)) : Prop where
  o1 : WalkOk n fs
  o2 : WalkOk m gs
theorem WalkOk.rng {n : Int} {fs : List (List Int)} (h : WalkOk n fs) {w : Way} (hw : w ∈ waysL 0 fs) : (0 ≤ w.a ∧ w.a < n) ∧ (0 ≤ w.b ∧ w.b < n) ∧ (0 ≤ w.c ∧ w.c < n) := by
  obtain ⟨d, hd⟩ := h.prev hw
  obtain ⟨d2, hd2⟩ := h.prev hd
  exact ⟨h.inr _ hd, h.inr _ hw, h.inr _ hd2⟩
theorem WalkOk.frng {n : Int} {fs : List (List Int)} (h : WalkOk n fs) {w : Way} (hw : w ∈ waysL 0 fs) : 0 ≤ w.f ∧ w.f < fs.length := by
  obtain ⟨j, hj, hm⟩ := (mem_waysL fs 0 w).1 hw
  have := waysF_fc hm
  omega
section
variable {n m : Int} {fs gs : List (List Int)} (h : Two n m fs gs)
include h
theorem two_walk : WalkOk (n + m) (both n fs gs) where
  long x hx := by
    rcases List.mem_append.1 hx with hx | hx
    · exact h.o1.long x hx
    · obtain ⟨y, hy, rfl⟩ := List.mem_map.1 hx
      rw [List.length_map]; exact h.o2.long y hy
  inr w hw := by
    have p1 := h.o1.pos
    have p2 := h.o2.pos
    rcases two_mem.1 hw with hw | ⟨u, hu, rfl⟩
    · have := h.o1.inr w hw; omega
    · have := h.o2.inr u hu; simp only [shW]; omega
  apart := by
    unfold Apart
    rw [both_ways, List.pairwise_append]
    refine ⟨h.o1.apart, ?_, fun x hx y hy => ?_⟩
    · rw [List.pairwise_map]
      exact List.Pairwise.imp (fun {x y} k => ⟨fun e => k.1 ⟨by have := e.1; simp only [shW] at this; omega, by have := e.2; simp only [shW] at this; omega⟩, fun e => k.2 ⟨by have := e.1; simp only [shW] at this; omega, by have := e.2; simp only [shW] at this; omega⟩⟩) h.o2.apart
    · obtain ⟨u, hu, rfl⟩ := List.mem_map.1 hy
      have r1 := h.o1.rng hx
      have r2 := h.o2.rng hu
      simp only [apart, shW]
      omega
  pos := by have p1 := h.o1.pos; have p2 := h.o2.pos; omega
  all v h0 h1 := by
    by_cases c : v < n
    · obtain ⟨w, hw, e⟩ := h.o1.all v h0 c
      exact ⟨w, two_mem.2 (.inl hw), e⟩
    · obtain ⟨w, hw, e⟩ := h.o2.all (v - n) (by omega) (by omega)
      exact ⟨_, two_mem.2 (.inr ⟨w, hw, rfl⟩), by simp only [shW]; omega⟩
theorem two_look1 (a b : Int) (ha : a < n) : look (waysL 0 (both n fs gs)) a b = look (waysL 0 fs) a b := by
  unfold look
  rw [both_ways, List.find?_append]
  have : List.find? (fun w => w.a == a && w.b == b) ((waysL 0 gs).map (shW n (fs.length : Int))) = none := by
    rw [List.find?_eq_none]
    intro x hx
    obtain ⟨u, hu, rfl⟩ := List.mem_map.1 hx
    have := h.o2.rng hu
    simp only [shW, Bool.and_eq_true, beq_iff_eq]
    omega
  rw [this]; simp
theorem two_look2 (a b : Int) (ha : 0 ≤ a) : look (waysL 0 (both n fs gs)) (a + n) (b + n) = (look (waysL 0 gs) a b).map (shW n (fs.length : Int)) := by
  unfold look
  rw [both_ways, List.find?_append]
  have : List.find? (fun w => w.a == a + n && w.b == b + n) (waysL 0 fs) = none := by
    rw [List.find?_eq_none]
    intro x hx
    have := h.o1.rng hx
    simp only [Bool.and_eq_true, beq_iff_eq]
    omega
  rw [this, Option.none_or, List.find?_map]
  congr 2
  funext w
  simp only [Function.comp, shW]
  rw [beq_add, beq_add]
theorem two_froms1 (v : Int) (hv : v < n) : froms (waysL 0 (both n fs gs)) v = froms (waysL 0 fs) v := by
  unfold froms
  rw [both_ways, List.filter_append]
  have : List.filter (fun w => w.a == v) ((waysL 0 gs).map (shW n (fs.length : Int))) = [] := by
    rw [List.filter_eq_nil_iff]
    intro x hx
    obtain ⟨u, hu, rfl⟩ := List.mem_map.1 hx
    have := h.o2.rng hu
    simp only [shW, beq_iff_eq]
    omega
  rw [this, List.append_nil]
theorem two_froms2 (v : Int) (hv : 0 ≤ v) : froms (waysL 0 (both n fs gs)) (v + n) = (froms (waysL 0 gs) v).map (shW n (fs.length : Int)) := by
  unfold froms
  rw [both_ways, List.filter_append]
  have : List.filter (fun w => w.a == v + n) (waysL 0 fs) = [] := by
    rw [List.filter_eq_nil_iff]
    intro x hx
    have := h.o1.rng hx
    simp only [beq_iff_eq]
    omega
  rw [this, List.nil_append, List.filter_map]
  congr 2
  funext w
  simp only [Function.comp, shW]
  rw [beq_add]
theorem two_hub1 (v : Int) (hv : v < n) : hubOf (waysL 0 (both n fs gs)) v (waysL 0 (both n fs gs)) = hubOf (waysL 0 fs) v (waysL 0 fs) := by
  unfold hubOf
  rw [two_froms1 h v hv]
  have : ∀ (Q : List Way) (s : Int × Nat), (∀ w ∈ Q, w.b < n) → Q.foldl (hubStep (waysL 0 (both n fs gs))) s = Q.foldl (hubStep (waysL 0 fs)) s := by
    intro Q
    induction Q with
    | nil => intro s _; rfl
    | cons w Q ih =>
      intro s hQ
      simp only [List.foldl_cons]
      rw [show hubStep (waysL 0 (both n fs gs)) s w = hubStep (waysL 0 fs) s w by unfold hubStep; rw [two_look1 h _ _ (hQ w (by simp))]]
      exact ih _ fun u hu => hQ u (List.mem_cons_of_mem _ hu)
  exact this _ _ fun w hw => (h.o1.rng (mem_froms.1 hw).1).2.1.2
theorem two_hub2 (v : Int) (h0 : 0 ≤ v) (h1 : v < m) : (hubOf (waysL 0 (both n fs gs)) (v + n) (waysL 0 (both n fs gs))).1 = (hubOf (waysL 0 gs) v (waysL 0 gs)).1 + n := by
  unfold hubOf
  rw [two_froms2 h v h0]
  have : ∀ (Q : List Way) (s s' : Int × Nat), (∀ w ∈ Q, 0 ≤ w.b) → s.2 = s'.2 → (s.2 ≠ 0 → s.1 = s'.1 + n) → (Q = [] → s.2 ≠ 0) → ((Q.map (shW n (fs.length : Int))).foldl (hubStep (waysL 0 (both n fs gs))) s).1 = (Q.foldl (hubStep (waysL 0 gs)) s').1 + n := by
    intro Q
    induction Q with
    | nil => intro s s' _ _ h3 h4; exact h3 (h4 rfl)
    | cons w Q ih =>
      intro s s' hQ h2 h3 _
      simp only [List.map_cons, List.foldl_cons]
      have hl : look (waysL 0 (both n fs gs)) (shW n (fs.length : Int) w).b (shW n (fs.length : Int) w).a = none ↔ look (waysL 0 gs) w.b w.a = none := by
        simp only [shW]
        rw [two_look2 h _ _ (hQ w (by simp))]
        simp
      refine ih _ _ (fun u hu => hQ u (List.mem_cons_of_mem _ hu)) (by simp [hubStep, h2]) (fun _ => ?_) (fun _ => by simp [hubStep])
      unfold hubStep
      simp only
      by_cases c : s.2 = 0 ∨ look (waysL 0 (both n fs gs)) (shW n (fs.length : Int) w).b (shW n (fs.length : Int) w).a = none
      · rw [if_pos c, if_pos (c.imp (fun e => h2 ▸ e) hl.1)]; rfl
      · rw [if_neg c, if_neg (fun k => c (k.imp (fun e => h2 ▸ e) hl.2))]
        exact h3 fun e => c (.inl e)
  refine this _ _ _ (fun w hw => (h.o2.rng (mem_froms.1 hw).1).2.1.1) rfl (fun e => absurd rfl e) (fun e => ?_)
  obtain ⟨w, hw, hb⟩ := h.o2.all v h0 h1
  obtain ⟨d, hd⟩ := h.o2.next hw
  have : (⟨w.b, d, w.f, w.a⟩ : Way) ∈ froms (waysL 0 gs) v := mem_froms.2 ⟨hd, hb⟩
  rw [e] at this; cases this
theorem two_fan1 {v st : Int} {L : List Way} {r : Bool} (hv : v < n) (k : FanR (waysL 0 fs) v st L r) : FanR (waysL 0 (both n fs gs)) v st L r where
  mem w hw := ⟨two_mem.2 (.inl (k.mem w hw).1), (k.mem w hw).2⟩
  first := k.first
  link := k.link
  mid := k.mid
  back := k.back
  stop hr := ⟨fun w hw ha => by
    have : w ∈ froms (waysL 0 (both n fs gs)) v := mem_froms.2 ⟨hw, ha⟩
    rw [two_froms1 h v hv] at this
    exact (k.stop hr).1 w (mem_froms.1 this).1 ha, (k.stop hr).2⟩
theorem two_fan2 {v st : Int} {L : List Way} {r : Bool} (hv : 0 ≤ v) (k : FanR (waysL 0 gs) v st L r) : FanR (waysL 0 (both n fs gs)) (v + n) (st + n) (L.map (shW n (fs.length : Int))) r := by
  have hends : ends (L.map (shW n (fs.length : Int))) (st + n) = ends L st + n := by
    unfold ends
    rw [List.getLast?_map]
    cases L.getLast? <;> rfl
  refine ⟨⟨fun w hw => ?_, fun h0 => ?_, fun i hi => ?_, fun i hi => ?_⟩, fun hr => ?_, fun hr => ?_⟩
  · obtain ⟨u, hu, rfl⟩ := List.mem_map.1 hw
    exact ⟨two_mem.2 (.inr ⟨u, (k.mem u hu).1, rfl⟩), by simp only [shW]; rw [(k.mem u hu).2]⟩
  · rw [List.getElem_map]
    simp only [shW]
    rw [k.first (by simpa using h0)]
  · rw [List.getElem_map, List.getElem_map]
    simp only [shW]
    rw [k.link i (by simpa using hi)]
  · rw [List.getElem_map]
    simp only [shW]
    have := k.mid i (by simpa using hi)
    omega
  · obtain ⟨h1, h2⟩ := k.back hr
    exact ⟨by simpa using h1, by rw [hends, h2]⟩
  · obtain ⟨h1, h2⟩ := k.stop hr
    refine ⟨fun w hw ha => ?_, ?_⟩
    · have : w ∈ froms (waysL 0 (both n fs gs)) (v + n) := mem_froms.2 ⟨hw, ha⟩
      rw [two_froms2 h v hv] at this
      obtain ⟨u, hu, rfl⟩ := List.mem_map.1 this
      obtain ⟨h3, h4⟩ := mem_froms.1 hu
      have := h1 u h3 h4
      rw [hends]
      simp only [shW]
      omega
    · rcases h2 with h2 | h2
      · exact .inl (by rw [h2]; rfl)
      · refine .inr ?_
        rw [hends]; omega
end
theorem two_surf {n m : Int} {fs gs : List (List Int)} (h1 : Surf n fs) (h2 : Surf m gs) : Surf (n + m) (both n fs gs) := by
  have h : Two n m fs gs := ⟨h1.1, h2.1⟩
  refine ⟨two_walk h, fun v g0 g1 => ?_⟩
  by_cases c : v < n
  · obtain ⟨L, r, k1, k2⟩ := h1.2 v g0 c
    exact ⟨L, r, by rw [two_hub1 h v c]; exact two_fan1 h c k1, by rw [two_froms1 h v c]; exact k2⟩
  · obtain ⟨L, r, k1, k2⟩ := h2.2 (v - n) (by omega) (by omega)
    have e : v = v - n + n := by omega
    refine ⟨L.map (shW n (fs.length : Int)), r, ?_, ?_⟩
    · have := two_fan2 h (by omega) k1
      rw [← two_hub2 h (v - n) (by omega) (by omega), ← e] at this
      exact this
    · rw [e, two_froms2 h _ (by omega), List.length_map, List.length_map]; exact k2
def shE (n m : Int) (e : Ed) : Ed := ⟨e.a + n, e.b + n, if e.f = -1 then -1 else e.f + m, if e.g = -1 then -1 else e.g + m⟩
theorem two_edges {n m : Int} {fs gs : List (List Int)} (h : Two n m fs gs) {es es2 : List Ed} (e1 : EdgesR (waysL 0 fs) es) (e2 : EdgesR (waysL 0 gs) es2) : EdgesR (waysL 0 (both n fs gs)) (es ++ es2.map (shE n (fs.length : Int))) := by
  have face1 : ∀ a b, a < n → faceOf (waysL 0 (both n fs gs)) a b = faceOf (waysL 0 fs) a b := fun a b ha => by
    unfold faceOf; rw [two_look1 h a b ha]
  have face2 : ∀ a b, 0 ≤ a → faceOf (waysL 0 (both n fs gs)) (a + n) (b + n) = if faceOf (waysL 0 gs) a b = -1 then -1 else faceOf (waysL 0 gs) a b + (fs.length : Int) := fun a b ha => by
    unfold faceOf; rw [two_look2 h a b ha]
    cases hl : look (waysL 0 gs) a b with
    | none => simp
    | some w =>
      obtain ⟨hw, _, _⟩ := look_some hl
      have := h.o2.frng hw
      simp only [Option.map_some, Option.getD_some, shW]
      rw [if_neg (by omega)]
  constructor
  · rw [List.pairwise_append]
    refine ⟨e1.sorted, ?_, fun x hx y hy => ?_⟩
    · rw [List.pairwise_map]
      refine e2.sorted.imp fun {x y} k => ?_
      unfold ltE at *
      simp only [shE]
      omega
    · obtain ⟨w, hw, rfl⟩ := (e1.mem x).1 hx
      obtain ⟨z, hz, rfl⟩ := List.mem_map.1 hy
      obtain ⟨u, hu, rfl⟩ := (e2.mem z).1 hz
      have r1 := h.o1.rng hw
      have r2 := h.o2.rng hu
      unfold ltE
      simp only [shE, edOf]
      omega
  · intro e
    rw [List.mem_append, List.mem_map]
    constructor
    · rintro (he | ⟨z, hz, rfl⟩)
      · obtain ⟨w, hw, rfl⟩ := (e1.mem e).1 he
        have r1 := h.o1.rng hw
        refine ⟨w, two_mem.2 (.inl hw), ?_⟩
        unfold edOf
        rw [face1 _ _ (by omega), face1 _ _ (by omega)]
      · obtain ⟨u, hu, rfl⟩ := (e2.mem z).1 hz
        have r2 := h.o2.rng hu
        refine ⟨_, two_mem.2 (.inr ⟨u, hu, rfl⟩), ?_⟩
        simp only [shW, shE, edOf]
        rw [show min (u.a + n) (u.b + n) = min u.a u.b + n by omega, show max (u.a + n) (u.b + n) = max u.a u.b + n by omega, face2 _ _ (by omega), face2 _ _ (by omega)]
        first | done | rfl
    · rintro ⟨w, hw, rfl⟩
      rcases two_mem.1 hw with hw | ⟨u, hu, rfl⟩
      · have r1 := h.o1.rng hw
        left
        refine (e1.mem _).2 ⟨w, hw, ?_⟩
        unfold edOf
        rw [face1 _ _ (by omega), face1 _ _ (by omega)]
      · have r2 := h.o2.rng hu
        right
        refine ⟨_, (e2.mem _).2 ⟨u, hu, rfl⟩, ?_⟩
        simp only [shW, shE, edOf]
        rw [show min (u.a + n) (u.b + n) = min u.a u.b + n by omega, show max (u.a + n) (u.b + n) = max u.a u.b + n by omega, face2 _ _ (by omega), face2 _ _ (by omega)]
        first | done | rfl
theorem two_topo {n m : Int} {fs gs : List (List Int)} {t u c : TopoT} (ht : TopoS n fs t) (hu : TopoS m gs u) (hc : TopoS (n + m) (both n fs gs) c) :
    c.es = t.es ++ u.es.map (shE n (fs.length : Int)) ∧ c.fans.length = t.fans.length + u.fans.length ∧ ∀ i (hi : i < u.fans.length) (hi2 : i < u.rs.length), ∃ (h1 : t.fans.length + i < c.fans.length) (h2 : t.fans.length + i < c.rs.length), (c.fans[t.fans.length + i]).length = (u.fans[i]).length ∧ c.rs[t.fans.length + i] = u.rs[i] := by
  have h : Two n m fs gs := ⟨ht.walk, hu.walk⟩
  have a1 := ht.nf
  have a2 := hu.nf
  have a3 := hc.nf
  have a4 := hc.nr
  refine ⟨hc.edges.one (two_edges h ht.edges hu.edges), by omega, fun i hi hi2 => ⟨by omega, by omega, ?_⟩⟩
  obtain ⟨L, k1, k2, k3⟩ := hu.fan i hi hi2
  obtain ⟨M, g1, g2, g3⟩ := hc.fan (t.fans.length + i) (by omega) (by omega)
  have e : ((t.fans.length + i : Nat) : Int) = (i : Int) + n := by omega
  have k4 := two_fan2 h (by omega) k1
  rw [← two_hub2 h (i : Int) (by omega) (by omega), ← e] at k4
  obtain ⟨e1, e2⟩ := g1.unique hc.walk.apart k4
  refine ⟨?_, e2⟩
  rw [g3, k3, e1]
  simp
end Go.Proofs.Ytbehobojgeganaa
