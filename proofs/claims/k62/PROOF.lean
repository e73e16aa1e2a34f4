import PyProof.Rows.All
import Wide.All
import OpenK.AllK
import Wide.FinOn
import KE.OsRunLaw
import PyProof.ReprRoads
import KE.SortData
import KE.KExcIs
import KE.KExcTry
import KE.KExcSuper
import HandS.Exc
import HandS.ExcInit
import HandS.ExcSuper
import HandS.ForMost
import HandS.RaiseMore
import HandS.ExcIs
import HandS.Walk
import HandS.Style
import HandS.Star
import HandS.IsInst
import HandS.Text
import HandS.Zip
import HandS.TupAny
import HandS.WordsExc
import HandS.DictComp
import KE.KRevSl
import KE.KDictPairs
import HandS.TryMany
import HandS.List
import PyProof.Rows.SortWalk
import KE.SortKeyHeap
import HandS.Iter
import HandS.SlotsOwn
import HandS.SortKw
import HandS.Keys
import HandS.SortInts
import KE.GoesEnum
import KE.GoesMore
import KE.GoesEnumKw
import PyProof.Rows.CallKw2
import PyProof.Rows.CallKwBuiltin
import KE.GoesZip
import HandS.Deep
import PyProof.EqAt
import HandS.Dict
import HandS.Lambda
import HandS.EndTab
import HandS.TryOnly
import PyProof.DictUpdate
import HandS.Small
import HandS.Conv
import PyProof.FitsInt
import PySem.Challenge.RW_alldiffs_k62_origins_and_fates
set_option Elab.async false
set_option maxRecDepth 100000
set_option maxHeartbeats 8000000
set_option linter.all false
/-! Knots: a sweep over sorted spans finds what grouping by overlap finds. Mathematics alone. -/
namespace KT
section
variable {α : Type} [DecidableEq α] (lo hi : α → Int)
def Below (g h : List α) : Prop := ∀ x ∈ g, ∀ y ∈ h, hi x < lo y
def Tight (g : List α) : Prop := ∀ a b, g = a ++ b → a ≠ [] → b ≠ [] → ¬ Below lo hi a b
structure Seg (L : List (List α)) : Prop where
  ne : ∀ g ∈ L, g ≠ []
  ti : ∀ g ∈ L, Tight lo hi g
  be : L.Pairwise (Below lo hi)
variable {lo hi}
theorem Below.flat {g : List α} {L : List (List α)} (h : ∀ k ∈ L, Below lo hi g k) : Below lo hi g L.flatten := fun x hx y hy => by
  obtain ⟨k, hk, hy⟩ := List.mem_flatten.mp hy
  exact h k hk x hx y hy
/-- two cuts of one list are one -/
theorem seg_uniq : ∀ {L M : List (List α)}, Seg lo hi L → Seg lo hi M → L.flatten = M.flatten → L = M
  | [], [], _, _, _ => rfl
  | [], g :: M, _, m, e => by
    have hg := m.ne g (List.mem_cons_self ..)
    rw [List.flatten_nil, List.flatten_cons] at e
    have := congrArg List.length e
    rw [List.length_append, List.length_nil] at this
    exact absurd (List.eq_nil_of_length_eq_zero (by omega)) hg
  | g :: L, [], l, _, e => by
    have hg := l.ne g (List.mem_cons_self ..)
    rw [List.flatten_nil, List.flatten_cons] at e
    have := congrArg List.length e
    rw [List.length_append, List.length_nil] at this
    exact absurd (List.eq_nil_of_length_eq_zero (by omega)) hg
  | g :: L, h :: M, l, m, e => by
    have lb := List.pairwise_cons.mp l.be
    have mb := List.pairwise_cons.mp m.be
    have key : ∀ {g h : List α} {L M : List (List α)}, g ≠ [] → Tight lo hi h → (∀ k ∈ L, Below lo hi g k) → g ++ L.flatten = h ++ M.flatten → g.length < h.length → False := by
      intro g h L M hg th lb e hlt
      have e2 : h = g ++ h.drop g.length := by
        have : h.take g.length = g := by
          have e3 := congrArg (List.take g.length) e
          rw [List.take_left, List.take_append_of_le_length (Nat.le_of_lt hlt)] at e3
          exact e3.symm
        conv => lhs; rw [← List.take_append_drop g.length h, this]
      refine th g (h.drop g.length) e2 hg (fun q => ?_) fun x hx y hy => ?_
      · have := congrArg List.length q
        rw [List.length_drop, List.length_nil] at this
        omega
      · have hy2 : y ∈ L.flatten := by
          have e3 := congrArg (List.drop g.length) e
          rw [List.drop_left, List.drop_append_of_le_length (Nat.le_of_lt hlt)] at e3
          rw [e3]
          exact List.mem_append_left _ hy
        exact Below.flat lb x hx y hy2
    rw [List.flatten_cons, List.flatten_cons] at e
    have hlen : g.length = h.length := by
      rcases Nat.lt_trichotomy g.length h.length with q | q | q
      · exact (key (l.ne g (List.mem_cons_self ..)) (m.ti h (List.mem_cons_self ..)) lb.1 e q).elim
      · exact q
      · exact (key (m.ne h (List.mem_cons_self ..)) (l.ti g (List.mem_cons_self ..)) mb.1 e.symm q).elim
    obtain ⟨e1, e2⟩ := List.append_inj e hlen
    have ih := seg_uniq ⟨fun k hk => l.ne k (List.mem_cons_of_mem _ hk), fun k hk => l.ti k (List.mem_cons_of_mem _ hk), lb.2⟩ ⟨fun k hk => m.ne k (List.mem_cons_of_mem _ hk), fun k hk => m.ti k (List.mem_cons_of_mem _ hk), mb.2⟩ e2
    rw [e1, ih]
/-! ### the sweep -/
variable (lo hi)
def lastPut (L : List (List α)) (x : α) : List (List α) := L.dropLast ++ [L.getLast?.getD [] ++ [x]]
def stepW (s : List (List α) × Int) (x : α) : List (List α) × Int :=
  (if lo x > s.2 then s.1 ++ [[x]] else lastPut s.1 x, max s.2 (hi x))
def sweep (xs : List α) : List (List α) × Int := xs.foldl (stepW lo hi) ([], -1)
variable {lo hi}
structure SwI (lo hi : α → Int) (P : List α) (s : List (List α) × Int) : Prop where
  seg : Seg lo hi s.1
  fl : s.1.flatten = P
  up : ∀ x ∈ P, hi x ≤ s.2
  at_ : (P = [] ∧ s.2 = -1) ∨ ∃ x ∈ P, hi x = s.2
theorem lastPut_of (L : List (List α)) (g : List α) (x : α) : lastPut (L ++ [g]) x = L ++ [g ++ [x]] := by
  unfold lastPut
  rw [List.dropLast_concat, List.getLast?_concat]
  rfl
theorem tight_one (x : α) : Tight lo hi [x] := fun a b e ha hb => by
  have := congrArg List.length e
  rw [List.length_append, List.length_singleton] at this
  have h1 : a.length ≠ 0 := fun q => ha (List.eq_nil_of_length_eq_zero q)
  have h2 : b.length ≠ 0 := fun q => hb (List.eq_nil_of_length_eq_zero q)
  omega
theorem sweep_step (lh : ∀ x, lo x ≤ hi x) (pos : ∀ x, 0 ≤ lo x) {P : List α} {s : List (List α) × Int} {x : α} (I : SwI lo hi P s) (hp : ∀ y ∈ P, lo y ≤ lo x) : SwI lo hi (P ++ [x]) (stepW lo hi s x) := by
  obtain ⟨L, r⟩ := s
  obtain ⟨seg, fl, up, at_⟩ := I
  dsimp only at seg fl up at_
  have up2 : ∀ y ∈ P ++ [x], hi y ≤ max r (hi x) := fun y hy => by
    rcases List.mem_append.mp hy with q | q
    · exact Int.le_trans (up y q) (Int.le_max_left _ _)
    · rw [List.mem_singleton.mp q]
      exact Int.le_max_right _ _
  have at2 : ∃ y ∈ P ++ [x], hi y = max r (hi x) := by
    rcases at_ with ⟨q, q2⟩ | ⟨y, hy, e⟩
    · refine ⟨x, List.mem_append_right _ (List.mem_singleton.mpr rfl), ?_⟩
      have := lh x
      have := pos x
      rw [q2, Int.max_eq_right (by omega)]
    · rcases Int.le_total r (hi x) with c | c
      · exact ⟨x, List.mem_append_right _ (List.mem_singleton.mpr rfl), by rw [Int.max_eq_right c]⟩
      · exact ⟨y, List.mem_append_left _ hy, by rw [Int.max_eq_left c]; exact e⟩
  unfold stepW
  dsimp only
  by_cases c : lo x > r
  · rw [if_pos c]
    refine ⟨⟨fun g hg => ?_, fun g hg => ?_, ?_⟩, ?_, up2, .inr at2⟩
    · rcases List.mem_append.mp hg with q | q
      · exact seg.ne g q
      · rw [List.mem_singleton.mp q]; exact fun z => by cases z
    · rcases List.mem_append.mp hg with q | q
      · exact seg.ti g q
      · rw [List.mem_singleton.mp q]; exact tight_one x
    · refine List.pairwise_append.mpr ⟨seg.be, List.pairwise_singleton _ _, fun g hg h hh y hy z hz => ?_⟩
      rw [List.mem_singleton.mp hh] at hz
      rw [List.mem_singleton.mp hz]
      have : y ∈ P := by rw [← fl]; exact List.mem_flatten.mpr ⟨g, hg, hy⟩
      have := up y this
      omega
    · show (L ++ [[x]]).flatten = _
      rw [List.flatten_append, fl]
      rfl
  · rw [if_neg c]
    rcases List.eq_nil_or_concat L with q | ⟨M, g, q⟩
    · subst q
      have hP : P = [] := by rw [← fl]; rfl
      rcases at_ with ⟨_, q2⟩ | ⟨y, hy, _⟩
      · have := pos x
        omega
      · rw [hP] at hy; cases hy
    · rw [List.concat_eq_append] at q
      subst q
      rw [lastPut_of]
      have hbe := List.pairwise_append.mp seg.be
      have gm : g ∈ M ++ [g] := List.mem_append_right _ (List.mem_singleton.mpr rfl)
      have gne := seg.ne g gm
      have inP : ∀ {y}, y ∈ g → y ∈ P := fun {y} hy => by rw [← fl]; exact List.mem_flatten.mpr ⟨g, gm, hy⟩
      have hmax : ∃ z ∈ g, hi z = r := by
        rcases at_ with ⟨q, _⟩ | ⟨z, hz, e⟩
        · exfalso
          obtain ⟨y, hy⟩ := List.exists_mem_of_ne_nil g gne
          have := inP hy
          rw [q] at this; cases this
        · rw [← fl] at hz
          obtain ⟨k, hk, hz⟩ := List.mem_flatten.mp hz
          rcases List.mem_append.mp hk with q | q
          · exfalso
            obtain ⟨y, hy⟩ := List.exists_mem_of_ne_nil g gne
            have h1 := hbe.2.2 k q g (List.mem_singleton.mpr rfl) z hz y hy
            have h2 := lh y
            have h3 := up y (inP hy)
            omega
          · rw [List.mem_singleton.mp q] at hz
            exact ⟨z, hz, e⟩
      refine ⟨⟨fun k hk => ?_, fun k hk => ?_, ?_⟩, ?_, up2, .inr at2⟩
      · rcases List.mem_append.mp hk with q | q
        · exact seg.ne k (List.mem_append_left _ q)
        · rw [List.mem_singleton.mp q]; exact fun z => by simp at z
      · rcases List.mem_append.mp hk with q | q
        · exact seg.ti k (List.mem_append_left _ q)
        · rw [List.mem_singleton.mp q]
          intro a b e ha hb hab
          rcases List.eq_nil_or_concat b with z | ⟨b', y, z⟩
          · exact hb z
          · rw [List.concat_eq_append] at z
            subst z
            rw [← List.append_assoc] at e
            obtain ⟨e1, e2⟩ := List.append_inj' e rfl
            have e3 : x = y := by injection e2
            subst e3
            by_cases hb' : b' = []
            · subst hb'
              rw [List.append_nil] at e1
              obtain ⟨z, hz, hr⟩ := hmax
              have := hab z (by rw [← e1]; exact hz) x (List.mem_append_right _ (List.mem_singleton.mpr rfl))
              omega
            · exact seg.ti g gm a b' e1 ha hb' fun u hu v hv => hab u hu v (List.mem_append_left _ hv)
      · refine List.pairwise_append.mpr ⟨hbe.1, List.pairwise_singleton _ _, fun k hk h hh y hy z hz => ?_⟩
        rw [List.mem_singleton.mp hh] at hz
        rcases List.mem_append.mp hz with q | q
        · exact hbe.2.2 k hk g (List.mem_singleton.mpr rfl) y hy z q
        · rw [List.mem_singleton.mp q]
          obtain ⟨u, hu⟩ := List.exists_mem_of_ne_nil g gne
          have h1 := hbe.2.2 k hk g (List.mem_singleton.mpr rfl) y hy u hu
          have h2 := hp u (inP hu)
          omega
      · show (M ++ [g ++ [x]]).flatten = _
        rw [← fl, List.flatten_append, List.flatten_append, List.append_assoc]
        congr 1
        simp
theorem sweep_go (lh : ∀ x, lo x ≤ hi x) (pos : ∀ x, 0 ≤ lo x) : ∀ (xs P : List α) (s : List (List α) × Int), SwI lo hi P s → (P ++ xs).Pairwise (fun x y => lo x ≤ lo y) → SwI lo hi (P ++ xs) (xs.foldl (stepW lo hi) s)
  | [], P, s, I, _ => by rw [List.append_nil]; exact I
  | x :: xs, P, s, I, hp => by
    have e : P ++ x :: xs = (P ++ [x]) ++ xs := by rw [List.append_assoc]; rfl
    rw [e] at hp ⊢
    refine sweep_go lh pos xs (P ++ [x]) (stepW lo hi s x) (sweep_step lh pos I fun y hy => ?_) hp
    exact (List.pairwise_append.mp (List.pairwise_append.mp hp).1).2.2 y hy x (List.mem_singleton.mpr rfl)
theorem sweep_inv (lh : ∀ x, lo x ≤ hi x) (pos : ∀ x, 0 ≤ lo x) (xs : List α) (hp : xs.Pairwise (fun x y => lo x ≤ lo y)) : SwI lo hi xs (sweep lo hi xs) :=
  sweep_go lh pos xs [] ([], -1) ⟨⟨fun g h => (nomatch h), fun g h => (nomatch h), .nil⟩, rfl, fun x h => (nomatch h), .inl ⟨rfl, rfl⟩⟩ hp
end
end KT
namespace KT
section
variable {α : Type} [DecidableEq α] (lo hi : α → Int)
def Conn (g : List α) : Prop := ∀ p : α → Bool, (∃ x, x ∈ g ∧ p x = true) → (∃ y, y ∈ g ∧ p y = false) → ¬ ∀ x ∈ g, ∀ y ∈ g, p x = true → p y = false → hi x < lo y
def NonOv (g h : List α) : Prop := ∀ x ∈ g, ∀ y ∈ h, hi x < lo y ∨ hi y < lo x
def metB (x : α) (g : List α) : Bool := g.any fun y => decide (lo y ≤ hi x) && decide (lo x ≤ hi y)
def stepG (Gs : List (List α)) (x : α) : List (List α) := Gs.filter (fun g => !metB lo hi x g) ++ [[x] ++ (Gs.filter (metB lo hi x)).flatten]
def groups (xs : List α) : List (List α) := xs.foldl (stepG lo hi) []
structure GI (P : List α) (Gs : List (List α)) : Prop where
  pm : Gs.flatten.Perm P
  ne : ∀ g ∈ Gs, g ≠ []
  co : ∀ g ∈ Gs, Conn lo hi g
  ap : Gs.Pairwise (NonOv lo hi)
variable {lo hi}
theorem NonOv.symm {g h : List α} (n : NonOv lo hi g h) : NonOv lo hi h g := fun x hx y hy => (n y hy x hx).symm
theorem pw_mem {β : Type} {R : β → β → Prop} (sy : ∀ {a b}, R a b → R b a) : ∀ {L : List β}, L.Pairwise R → ∀ {a b}, a ∈ L → b ∈ L → a ≠ b → R a b
  | [], _, _, _, ha, _, _ => by cases ha
  | c :: L, h, a, b, ha, hb, hn => by
    have h2 := List.pairwise_cons.mp h
    rcases List.mem_cons.mp ha with q | q
    · rcases List.mem_cons.mp hb with r | r
      · exact absurd (q.trans r.symm) hn
      · rw [q]; exact h2.1 b r
    · rcases List.mem_cons.mp hb with r | r
      · rw [r]; exact sy (h2.1 a q)
      · exact pw_mem sy h2.2 q r hn
theorem met_of {x : α} {g : List α} (h : metB lo hi x g = true) : ∃ z ∈ g, lo z ≤ hi x ∧ lo x ≤ hi z := by
  unfold metB at h
  obtain ⟨z, hz, h2⟩ := List.any_eq_true.mp h
  rw [Bool.and_eq_true, decide_eq_true_eq, decide_eq_true_eq] at h2
  exact ⟨z, hz, h2⟩
theorem unmet_of {x : α} {g : List α} (h : metB lo hi x g = false) : ∀ y ∈ g, hi x < lo y ∨ hi y < lo x := fun y hy => by
  by_cases c : lo y ≤ hi x
  · by_cases d : lo x ≤ hi y
    · exfalso
      have : metB lo hi x g = true := List.any_eq_true.mpr ⟨y, hy, by rw [decide_eq_true c, decide_eq_true d]; rfl⟩
      rw [h] at this; cases this
    · right; omega
  · left; omega
theorem group_step {P : List α} {Gs : List (List α)} {x : α} (lh : ∀ x, lo x ≤ hi x) (I : GI lo hi P Gs) : GI lo hi (P ++ [x]) (stepG lo hi Gs x) := by
  obtain ⟨pm, ne, co, ap⟩ := I
  unfold stepG
  refine ⟨?_, fun g hg => ?_, fun g hg => ?_, ?_⟩
  · rw [List.flatten_append]
    have e : ([[x] ++ (Gs.filter (metB lo hi x)).flatten] : List (List α)).flatten = [x] ++ (Gs.filter (metB lo hi x)).flatten := by simp
    rw [e]
    have p1 : ((Gs.filter (metB lo hi x)) ++ (Gs.filter (fun g => !metB lo hi x g))).Perm Gs := List.filter_append_perm _ _
    have p2 := p1.flatten
    rw [List.flatten_append] at p2
    have p3 : ((Gs.filter (fun g => !metB lo hi x g)).flatten ++ ([x] ++ (Gs.filter (metB lo hi x)).flatten)).Perm (((Gs.filter (metB lo hi x)).flatten ++ (Gs.filter (fun g => !metB lo hi x g)).flatten) ++ [x]) := by
      refine List.perm_append_comm.trans ?_
      rw [List.append_assoc]
      exact List.perm_append_comm
    exact p3.trans ((p2.trans pm).append_right [x])
  · rcases List.mem_append.mp hg with q | q
    · exact ne g (List.mem_filter.mp q).1
    · rw [List.mem_singleton.mp q]; exact fun z => by simp at z
  · rcases List.mem_append.mp hg with q | q
    · exact co g (List.mem_filter.mp q).1
    · rw [List.mem_singleton.mp q]
      intro p ⟨u, hu, pu⟩ ⟨v, hv, pv⟩ sp
      have inG : ∀ {w}, w ∈ [x] ++ (Gs.filter (metB lo hi x)).flatten → w = x ∨ ∃ g ∈ Gs, w ∈ g ∧ metB lo hi x g = true := fun {w} hw => by
        rcases List.mem_append.mp hw with z | z
        · exact .inl (List.mem_singleton.mp z)
        · obtain ⟨k, hk, hw⟩ := List.mem_flatten.mp z
          exact .inr ⟨k, (List.mem_filter.mp hk).1, hw, (List.mem_filter.mp hk).2⟩
      have sub : ∀ {k : List α}, k ∈ Gs → metB lo hi x k = true → ∀ w ∈ k, w ∈ [x] ++ (Gs.filter (metB lo hi x)).flatten := fun {k} hk hm w hw => List.mem_append_right _ (List.mem_flatten.mpr ⟨k, List.mem_filter.mpr ⟨hk, hm⟩, hw⟩)
      have hx : x ∈ [x] ++ (Gs.filter (metB lo hi x)).flatten := List.mem_append_left _ (List.mem_singleton.mpr rfl)
      cases px : p x with
      | true =>
        rcases inG hv with e | ⟨k, hk, hvk, hm⟩
        · rw [e, px] at pv; cases pv
        · obtain ⟨z, hz, o1, o2⟩ := met_of hm
          cases pz : p z with
          | true => exact co k hk p ⟨z, hz, pz⟩ ⟨v, hvk, pv⟩ fun a ha b hb => sp a (sub hk hm a ha) b (sub hk hm b hb)
          | false =>
            have := sp x hx z (sub hk hm z hz) px pz
            omega
      | false =>
        rcases inG hu with e | ⟨k, hk, huk, hm⟩
        · rw [e, px] at pu; cases pu
        · obtain ⟨z, hz, o1, o2⟩ := met_of hm
          cases pz : p z with
          | false => exact co k hk p ⟨u, huk, pu⟩ ⟨z, hz, pz⟩ fun a ha b hb => sp a (sub hk hm a ha) b (sub hk hm b hb)
          | true =>
            have := sp z (sub hk hm z hz) x hx pz px
            omega
  · refine List.pairwise_append.mpr ⟨ap.filter _, List.pairwise_singleton _ _, fun g hg k hk y hy z hz => ?_⟩
    rw [List.mem_singleton.mp hk] at hz
    have hg2 := List.mem_filter.mp hg
    have hun : metB lo hi x g = false := by
      have := hg2.2
      cases e : metB lo hi x g with
      | false => rfl
      | true => rw [e] at this; cases this
    rcases List.mem_append.mp hz with q | q
    · rw [List.mem_singleton.mp q]
      exact (unmet_of hun y hy).symm
    · obtain ⟨k2, hk2, hz2⟩ := List.mem_flatten.mp q
      have hk3 := List.mem_filter.mp hk2
      have hne : g ≠ k2 := fun e => by rw [e] at hun; rw [hun] at hk3; cases hk3.2
      exact pw_mem (R := NonOv lo hi) NonOv.symm ap hg2.1 hk3.1 hne y hy z hz2
theorem groups_go (lh : ∀ x, lo x ≤ hi x) : ∀ (xs P : List α) (Gs : List (List α)), GI lo hi P Gs → GI lo hi (P ++ xs) (xs.foldl (stepG lo hi) Gs)
  | [], P, Gs, I => by rw [List.append_nil]; exact I
  | x :: xs, P, Gs, I => by
    have e : P ++ x :: xs = (P ++ [x]) ++ xs := by rw [List.append_assoc]; rfl
    rw [e]
    exact groups_go lh xs (P ++ [x]) _ (group_step lh I)
theorem groups_inv (lh : ∀ x, lo x ≤ hi x) (xs : List α) : GI lo hi xs (groups lo hi xs) :=
  groups_go lh xs [] [] ⟨.refl _, fun g h => (nomatch h), fun g h => (nomatch h), .nil⟩
open Classical in
/-- two connected groups that do not overlap: one stands wholly below the other -/
theorem sep (lh : ∀ x, lo x ≤ hi x) {g h : List α} (n : NonOv lo hi g h) (cg : Conn lo hi g) (ch : Conn lo hi h) (ng : g ≠ []) (nh : h ≠ []) : Below lo hi g h ∨ Below lo hi h g := by
  have one : ∀ y ∈ h, (∀ x ∈ g, hi x < lo y) ∨ (∀ x ∈ g, hi y < lo x) := fun y hy => by
    by_cases a : ∀ x ∈ g, hi x < lo y
    · exact .inl a
    · by_cases b : ∀ x ∈ g, hi y < lo x
      · exact .inr b
      · exfalso
        have ⟨u, hu⟩ := Classical.not_forall.mp a
        have ⟨hu, hu2⟩ := Classical.not_imp.mp hu
        have ⟨v, hv⟩ := Classical.not_forall.mp b
        have ⟨hv, hv2⟩ := Classical.not_imp.mp hv
        refine cg (fun x => decide (hi x < lo y)) ⟨v, hv, ?_⟩ ⟨u, hu, decide_eq_false hu2⟩ fun x hx z hz px pz => ?_
        · rcases n v hv y hy with q | q
          · exact decide_eq_true q
          · exact absurd q hv2
        · have px := of_decide_eq_true px
          have pz := of_decide_eq_false pz
          rcases n z hz y hy with q | q
          · exact absurd q pz
          · have := lh y
            omega
  obtain ⟨x0, hx0⟩ := List.exists_mem_of_ne_nil g ng
  by_cases a : ∀ y ∈ h, ∀ x ∈ g, hi x < lo y
  · exact .inl fun x hx y hy => a y hy x hx
  · right
    have ⟨u, hu⟩ := Classical.not_forall.mp a
    have ⟨hu, hu2⟩ := Classical.not_imp.mp hu
    have ub : ∀ x ∈ g, hi u < lo x := (one u hu).resolve_left hu2
    intro y hy x hx
    rcases one y hy with q | q
    · exfalso
      refine ch (fun z => decide (∀ x ∈ g, hi z < lo x)) ⟨u, hu, decide_eq_true ub⟩ ⟨y, hy, decide_eq_false fun c => ?_⟩ fun z hz w hw pz pw => ?_
      · have h1 := q x0 hx0
        have h2 := c x0 hx0
        have h3 := lh x0
        have h4 := lh y
        omega
      · have pz := of_decide_eq_true pz
        have pw := of_decide_eq_false pw
        have h1 := pz x0 hx0
        have h2 := (one w hw).resolve_right pw x0 hx0
        have h3 := lh x0
        omega
    · exact q x hx
theorem sorted_eq {β : Type} {le : β → β → Prop} (an : ∀ a b, le a b → le b a → a = b) : ∀ {L M : List β}, L.Perm M → L.Pairwise le → M.Pairwise le → L = M
  | [], M, p, _, _ => (List.Perm.nil_eq p)
  | a :: L, [], p, _, _ => by cases p.symm.nil_eq
  | a :: L, b :: M, p, hl, hm => by
    have l2 := List.pairwise_cons.mp hl
    have m2 := List.pairwise_cons.mp hm
    have e : a = b := by
      have ha : a ∈ b :: M := p.mem_iff.mp (List.mem_cons_self ..)
      have hb : b ∈ a :: L := p.mem_iff.mpr (List.mem_cons_self ..)
      rcases List.mem_cons.mp ha with q | q
      · exact q
      · rcases List.mem_cons.mp hb with r | r
        · exact r.symm
        · exact an a b (l2.1 b r) (m2.1 a q)
    subst e
    rw [sorted_eq an (List.Perm.cons_inv p) l2.2 m2.2]
/-- what the sweep over the sorted finds, and what grouping finds -/
theorem groups_sweep {le : α → α → Bool} (lh : ∀ x, lo x ≤ hi x) (pos : ∀ x, 0 ≤ lo x) (tr : ∀ a b c, le a b = true → le b c = true → le a c = true) (tot : ∀ a b, (le a b || le b a) = true) (an : ∀ a b, le a b = true → le b a = true → a = b) (mon : ∀ a b, le a b = true → lo a ≤ lo b)
    (first : List α → Int) (f1 : ∀ g x, x ∈ g → first g ≤ lo x) (f2 : ∀ g, g ≠ [] → ∃ x ∈ g, lo x = first g) (xs : List α) {Gs : List (List α)} (hp : Gs.Perm (groups lo hi xs)) (hs : Gs.Pairwise fun g h => first g ≤ first h) :
    (sweep lo hi (xs.mergeSort le)).1 = Gs.map (fun g => g.mergeSort le) := by
  have I := groups_inv (lo := lo) (hi := hi) lh xs
  have ne : ∀ g ∈ Gs, g ≠ [] := fun g hg => I.ne g (hp.mem_iff.mp hg)
  have co : ∀ g ∈ Gs, Conn lo hi g := fun g hg => I.co g (hp.mem_iff.mp hg)
  have ap : Gs.Pairwise (NonOv lo hi) := (hp.pairwise_iff (fun h => NonOv.symm h)).mpr I.ap
  have pm : Gs.flatten.Perm xs := hp.flatten.trans I.pm
  have srt : (xs.mergeSort le).Pairwise (fun a b => le a b = true) := List.pairwise_mergeSort tr tot xs
  have W := sweep_inv (lo := lo) (hi := hi) lh pos (xs.mergeSort le) (srt.imp fun h => mon _ _ h)
  have mp : ∀ g : List α, (g.mergeSort le).Perm g := fun g => List.mergeSort_perm g le
  have lt_le : ∀ a b, lo a < lo b → le a b = true := fun a b h => by
    have := tot a b
    rw [Bool.or_eq_true] at this
    rcases this with q | q
    · exact q
    · have := mon _ _ q
      omega
  have be : Gs.Pairwise (Below lo hi) := by
    refine (ap.and hs).imp_of_mem fun {g h} hg hh ⟨n, o⟩ => ?_
    rcases sep lh n (co g hg) (co h hh) (ne g hg) (ne h hh) with q | q
    · exact q
    · exfalso
      obtain ⟨x, hx, e⟩ := f2 g (ne g hg)
      obtain ⟨y, hy, e2⟩ := f2 h (ne h hh)
      have := q y hy x hx
      have := lh y
      omega
  have S2 : Seg lo hi (Gs.map fun g => g.mergeSort le) := by
    refine ⟨fun k hk => ?_, fun k hk => ?_, ?_⟩
    · obtain ⟨g, hg, rfl⟩ := List.mem_map.mp hk
      exact fun e => ne g hg (by have := mp g; rw [e] at this; exact this.nil_eq.symm)
    · obtain ⟨g, hg, rfl⟩ := List.mem_map.mp hk
      intro a b e ha hb hab
      obtain ⟨u, hu⟩ := List.exists_mem_of_ne_nil a ha
      obtain ⟨v, hv⟩ := List.exists_mem_of_ne_nil b hb
      have inm : ∀ {w}, w ∈ g → w ∈ a ∨ w ∈ b := fun {w} hw => by
        have := (mp g).mem_iff.mpr hw
        rw [e] at this
        exact List.mem_append.mp this
      have ing : ∀ {w}, w ∈ a ∨ w ∈ b → w ∈ g := fun {w} hw => (mp g).mem_iff.mp (by rw [e]; exact List.mem_append.mpr hw)
      refine co g hg (fun x => decide (x ∈ a)) ⟨u, ing (.inl hu), decide_eq_true hu⟩ ⟨v, ing (.inr hv), decide_eq_false fun c => ?_⟩ fun x hx y hy px py => ?_
      · have := hab v c v hv
        have := lh v
        omega
      · have px := of_decide_eq_true px
        have py := of_decide_eq_false py
        exact hab x px y ((inm hy).resolve_left py)
    · rw [List.pairwise_map]
      exact be.imp fun h x hx y hy => h x ((mp _).mem_iff.mp hx) y ((mp _).mem_iff.mp hy)
  refine seg_uniq W.seg S2 ?_
  rw [W.fl]
  refine sorted_eq (le := fun a b => le a b = true) an ?_ srt ?_
  · refine (mp xs).trans (pm.symm.trans ?_)
    have : ∀ L : List (List α), L.flatten.Perm (L.map fun g => g.mergeSort le).flatten := fun L => by
      induction L with
      | nil => exact .refl _
      | cons g L ih =>
        rw [List.map_cons, List.flatten_cons, List.flatten_cons]
        exact (mp g).symm.append ih
    exact this Gs
  · rw [List.pairwise_flatten]
    refine ⟨fun k hk => ?_, ?_⟩
    · obtain ⟨g, hg, rfl⟩ := List.mem_map.mp hk
      exact List.pairwise_mergeSort tr tot g
    · rw [List.pairwise_map]
      refine be.imp fun {g h} hb x hx y hy => lt_le x y ?_
      have h1 := hb x ((mp g).mem_iff.mp hx) y ((mp h).mem_iff.mp hy)
      have h2 := lh x
      omega
end
end KT
namespace KT
open PySem PySem.W
abbrev Blk := Nat × Nat × Nat × Nat
/-- the version, the block -/
abbrev Itm := Nat × Blk
def coverB (b : Blk) : Int × Int := if b.2.2.1 < b.2.2.2 then (2 * (b.1 : Int), 2 * (b.2.1 : Int)) else (2 * (b.1 : Int) + 1, 2 * (b.2.1 : Int) - 1)
def loI (x : Itm) : Int := (coverB x.2).1
def hiI (x : Itm) : Int := max (loI x) (coverB x.2).2
def intsB (b : Blk) : List Int := [(b.1 : Int), (b.2.1 : Int), (b.2.2.1 : Int), (b.2.2.2 : Int)]
def blkD (b : Blk) : PyData := .tuple ((intsB b).map .int)
def covD (b : Blk) : PyData := .tuple [.int (coverB b).1, .int (coverB b).2]
def itmD (x : Itm) : PyData := .tuple [covD x.2, .int (x.1 : Int), blkD x.2]
def leI : Itm → Itm → Bool := dataLe false itmD
def leB : Blk → Blk → Bool := dataLe false blkD
theorem leI_tot : TotalLe leI := sortLe_total (PyProof.Rows.listOrd PyProof.Rows.itemOrd) false fun b => keyToks (itmD b)
theorem leB_tot : TotalLe leB := sortLe_total (PyProof.Rows.listOrd PyProof.Rows.itemOrd) false fun b => keyToks (blkD b)
theorem intsB_inj {b c : Blk} (h : intsB b = intsB c) : b = c := by
  obtain ⟨b1, b2, b3, b4⟩ := b
  obtain ⟨c1, c2, c3, c4⟩ := c
  unfold intsB at h
  simp only [List.cons.injEq, Int.ofNat_inj, and_true] at h
  obtain ⟨rfl, rfl, rfl, rfl⟩ := h
  rfl
theorem ltB (b c : Blk) : dataLt (blkD b) (blkD c) = decide (intsB b < intsB c) := by
  unfold blkD
  rw [dataLt_tuple]
  exact dataLt_ints _ _
theorem leB_eq (b c : Blk) : leB b c = !decide (intsB c < intsB b) := by
  show (!dataLt (blkD c) (blkD b)) = _
  rw [ltB]
theorem ints_an {xs ys : List Int} (h1 : ¬ xs < ys) (h2 : ¬ ys < xs) : xs = ys := List.le_antisymm h2 h1
theorem leB_an (b c : Blk) (h1 : leB b c = true) (h2 : leB c b = true) : b = c := by
  rw [leB_eq] at h1 h2
  exact intsB_inj (ints_an (by simpa using h2) (by simpa using h1))
theorem leB_lt {b c : Blk} (h : b.1 < c.1) : leB b c = true := by
  rw [leB_eq]
  have : ¬ intsB c < intsB b := by
    unfold intsB
    rw [List.cons_lt_cons_iff]
    omega
  simp [this]
theorem alike_cov (b c : Blk) : alike (covD b) (covD c) = true := by simp [covD, alike, alikeAll]
theorem alike_blk (b c : Blk) : alike (blkD b) (blkD c) = true := by simp [blkD, intsB, alike, alikeAll]
theorem alike_itm (x y : Itm) : alike (itmD x) (itmD y) = true := by simp [itmD, covD, blkD, intsB, alike, alikeAll]
theorem ltI (x y : Itm) : dataLt (itmD x) (itmD y) = if PyData.eqv (covD x.2) (covD y.2) = true then (if PyData.eqv (.int (x.1 : Int)) (.int (y.1 : Int)) = true then (if PyData.eqv (blkD x.2) (blkD y.2) = true then false else dataLt (blkD x.2) (blkD y.2)) else dataLt (.int (x.1 : Int)) (.int (y.1 : Int))) else dataLt (covD x.2) (covD y.2) := by
  unfold itmD
  rw [dataLt_tuple, dataLt_cons (alike_cov _ _), dataLt_cons (by simp [alike]), dataLt_cons (alike_blk _ _)]
  have e : PyProof.Rows.lexLt PyProof.Rows.itemOrd (keyToksAll []) (keyToksAll []) = false := PyProof.Rows.lex_irrefl _
  rw [e]
theorem eqv_cov (b c : Blk) : PyData.eqv (covD b) (covD c) = true ↔ coverB b = coverB c := by
  unfold covD
  simp only [PyData.eqv, PyData.eqvAll, Bool.and_true, Bool.and_eq_true, beq_iff_eq]
  exact ⟨fun ⟨a, b⟩ => Prod.ext a b, fun h => ⟨by rw [h], by rw [h]⟩⟩
theorem ltCov (b c : Blk) : dataLt (covD b) (covD c) = decide ((coverB b).1 < (coverB c).1 ∨ ((coverB b).1 = (coverB c).1 ∧ (coverB b).2 < (coverB c).2)) := dataLt_ii _ _ _ _
theorem leI_mon (x y : Itm) (h : leI x y = true) : loI x ≤ loI y := by
  have h' : (!dataLt (itmD y) (itmD x)) = true := h
  rcases Int.lt_or_le (loI y) (loI x) with c | c
  · exfalso
    rw [ltI, if_neg (fun q => ?_), ltCov, decide_eq_true (.inl c)] at h'
    · cases h'
    · have := (eqv_cov _ _).mp q
      unfold loI at c
      rw [this] at c
      omega
  · exact c
theorem leI_an (x y : Itm) (h1 : leI x y = true) (h2 : leI y x = true) : x = y := by
  have a1 : dataLt (itmD y) (itmD x) = false := by
    have : (!dataLt (itmD y) (itmD x)) = true := h1
    simpa using this
  have a2 : dataLt (itmD x) (itmD y) = false := by
    have : (!dataLt (itmD x) (itmD y)) = true := h2
    simpa using this
  rw [ltI] at a1 a2
  have hc : coverB x.2 = coverB y.2 := by
    by_cases q : coverB x.2 = coverB y.2
    · exact q
    · exfalso
      rw [if_neg (fun z => q ((eqv_cov _ _).mp z).symm), ltCov] at a1
      rw [if_neg (fun z => q ((eqv_cov _ _).mp z)), ltCov] at a2
      have b1 := of_decide_eq_false a1
      have b2 := of_decide_eq_false a2
      exact q (Prod.ext (by omega) (by omega))
  rw [if_pos ((eqv_cov _ _).mpr hc.symm)] at a1
  rw [if_pos ((eqv_cov _ _).mpr hc)] at a2
  have hv : x.1 = y.1 := by
    by_cases q : x.1 = y.1
    · exact q
    · exfalso
      rw [if_neg (by simp only [PyData.eqv, beq_iff_eq]; omega), dataLt_int] at a1
      rw [if_neg (by simp only [PyData.eqv, beq_iff_eq]; omega), dataLt_int] at a2
      have b1 := of_decide_eq_false a1
      have b2 := of_decide_eq_false a2
      omega
  rw [if_pos (by simp [PyData.eqv, hv])] at a1
  rw [if_pos (by simp [PyData.eqv, hv])] at a2
  have hb : x.2 = y.2 := by
    by_cases q : PyData.eqv (blkD x.2) (blkD y.2) = true
    · have q2 := q
      unfold blkD intsB at q2
      simp only [List.map_cons, List.map_nil, PyData.eqv, PyData.eqvAll, Bool.and_true, Bool.and_eq_true, beq_iff_eq] at q2
      refine intsB_inj ?_
      unfold intsB
      rw [q2.1, q2.2.1, q2.2.2.1, q2.2.2.2]
    · rw [if_neg q] at a2
      by_cases r : PyData.eqv (blkD y.2) (blkD x.2) = true
      · unfold blkD intsB at r q
        simp only [List.map_cons, List.map_nil, PyData.eqv, PyData.eqvAll, Bool.and_true, Bool.and_eq_true, beq_iff_eq] at r q
        exact absurd ⟨r.1.symm, r.2.1.symm, r.2.2.1.symm, r.2.2.2.symm⟩ q
      · rw [if_neg r] at a1
        rw [ltB] at a1 a2
        exact intsB_inj (ints_an (of_decide_eq_false a2) (of_decide_eq_false a1))
  exact Prod.ext hv hb
end KT
namespace KT
open PySem PySem.W
/-- a block of the document: a ≤ b, c ≤ d, something goes or comes -/
def GoodB (b : Blk) : Prop := b.1 ≤ b.2.1 ∧ b.2.2.1 ≤ b.2.2.2 ∧ (b.1 < b.2.1 ∨ b.2.2.1 < b.2.2.2)
/-- blocks of one diff -/
structure Spread (S : List Blk) : Prop where
  good : ∀ b ∈ S, GoodB b
  ap : S.Pairwise fun b c => b.2.1 < c.1
theorem lo_hi (x : Itm) : loI x ≤ hiI x := Int.le_max_left _ _
theorem lo_pos (x : Itm) : 0 ≤ loI x := by
  unfold loI coverB
  split <;> dsimp only <;> omega
theorem hi_good {x : Itm} (h : GoodB x.2) : hiI x = (coverB x.2).2 := by
  unfold hiI
  refine Int.max_eq_right ?_
  obtain ⟨h1, h2, h3⟩ := h
  unfold loI coverB
  split <;> dsimp only <;> omega
theorem lo_le {x : Itm} : loI x ≤ 2 * (x.2.1 : Int) + 1 := by
  unfold loI coverB
  split <;> dsimp only <;> omega
theorem lo_ge {x : Itm} : 2 * (x.2.1 : Int) ≤ loI x := by
  unfold loI coverB
  split <;> dsimp only <;> omega
def told (S0 S1 : List Blk) : List Itm := S0.map (fun b => (0, b)) ++ S1.map (fun b => (1, b))
def side (v : Nat) (g : List Itm) : List Blk := (g.filter fun x => decide (x.1 = v)).map (·.2)
def knotsL (S0 S1 : List Blk) : List (List Blk × List Blk) := (sweep loI hiI ((told S0 S1).mergeSort leI)).1.map fun g => (side 0 g, side 1 g)
def asKnot (g : List Itm) : List Blk × List Blk := ((side 0 g).mergeSort leB, (side 1 g).mergeSort leB)
theorem pw_or {β : Type} {R : β → β → Prop} : ∀ {L : List β}, L.Pairwise R → ∀ {a b}, a ∈ L → b ∈ L → a = b ∨ R a b ∨ R b a
  | [], _, _, _, ha, _ => by cases ha
  | c :: L, h, a, b, ha, hb => by
    have h2 := List.pairwise_cons.mp h
    rcases List.mem_cons.mp ha with q | q
    · rcases List.mem_cons.mp hb with r | r
      · exact .inl (q.trans r.symm)
      · exact .inr (.inl (by rw [q]; exact h2.1 b r))
    · rcases List.mem_cons.mp hb with r | r
      · exact .inr (.inr (by rw [r]; exact h2.1 a q))
      · exact pw_or h2.2 q r
theorem told_side {S0 S1 : List Blk} {v : Nat} {x : Itm} (h : x ∈ told S0 S1) (e : x.1 = v) : (v = 0 ∧ x.2 ∈ S0) ∨ (v = 1 ∧ x.2 ∈ S1) := by
  unfold told at h
  rcases List.mem_append.mp h with q | q
  · obtain ⟨b, hb, rfl⟩ := List.mem_map.mp q
    exact .inl ⟨e.symm, hb⟩
  · obtain ⟨b, hb, rfl⟩ := List.mem_map.mp q
    exact .inr ⟨e.symm, hb⟩
theorem side_sorted {S0 S1 : List Blk} (h0 : Spread S0) (h1 : Spread S1) {g : List Itm} (hg : ∀ x ∈ g, x ∈ told S0 S1) (v : Nat) : side v (g.mergeSort leI) = (side v g).mergeSort leB := by
  have tot : ∀ a b, (leI a b || leI b a) = true := fun a b => by rw [Bool.or_eq_true]; exact leI_tot.total a b
  have totB : ∀ a b, (leB a b || leB b a) = true := fun a b => by rw [Bool.or_eq_true]; exact leB_tot.total a b
  have mp : (g.mergeSort leI).Perm g := List.mergeSort_perm g leI
  refine sorted_eq (le := fun a b => leB a b = true) leB_an ?_ ?_ (List.pairwise_mergeSort leB_tot.trans totB _)
  · unfold side
    exact ((mp.filter _).map _).trans (List.mergeSort_perm _ leB).symm
  · unfold side
    rw [List.pairwise_map]
    have pw := (List.pairwise_mergeSort leI_tot.trans tot g).filter fun x => decide (x.1 = v)
    refine pw.imp_of_mem fun {x y} hx hy hxy => ?_
    have hx2 := List.mem_filter.mp hx
    have hy2 := List.mem_filter.mp hy
    have tx := told_side (hg x (mp.mem_iff.mp hx2.1)) (of_decide_eq_true hx2.2)
    have ty := told_side (hg y (mp.mem_iff.mp hy2.1)) (of_decide_eq_true hy2.2)
    have key : ∀ {S : List Blk}, Spread S → x.2 ∈ S → y.2 ∈ S → leB x.2 y.2 = true := fun {S} hS mx my => by
      rcases pw_or hS.ap mx my with q | q | q
      · rw [q]
        have := totB y.2 y.2
        rw [Bool.or_self] at this
        exact this
      · have := (hS.good _ mx).1
        exact leB_lt (by omega)
      · exfalso
        have m := leI_mon x y hxy
        have a := lo_ge (x := x)
        have b := lo_le (x := y)
        have := (hS.good _ my).1
        omega
    rcases tx with ⟨e, mx⟩ | ⟨e, mx⟩ <;> rcases ty with ⟨e2, my⟩ | ⟨e2, my⟩
    · exact key h0 mx my
    · omega
    · omega
    · exact key h1 mx my
/-- the law's way and the program's -/
theorem knots_same {S0 S1 : List Blk} (h0 : Spread S0) (h1 : Spread S1) (first : List Itm → Int) (f1 : ∀ g x, x ∈ g → first g ≤ loI x) (f2 : ∀ g, g ≠ [] → ∃ x ∈ g, loI x = first g) {Gs : List (List Itm)}
    (hp : Gs.Perm (groups loI hiI (told S0 S1))) (hs : Gs.Pairwise fun g h => first g ≤ first h) : knotsL S0 S1 = Gs.map asKnot := by
  have tot : ∀ a b, (leI a b || leI b a) = true := fun a b => by rw [Bool.or_eq_true]; exact leI_tot.total a b
  unfold knotsL
  rw [groups_sweep lo_hi lo_pos leI_tot.trans tot leI_an leI_mon first f1 f2 (told S0 S1) hp hs, List.map_map]
  refine List.map_congr_left fun g hg => ?_
  have I := groups_inv (lo := loI) (hi := hiI) lo_hi (told S0 S1)
  have hm : ∀ x ∈ g, x ∈ told S0 S1 := fun x hx => I.pm.mem_iff.mp (List.mem_flatten.mpr ⟨g, hp.mem_iff.mp hg, hx⟩)
  show (side 0 (g.mergeSort leI), side 1 (g.mergeSort leI)) = asKnot g
  rw [side_sorted h0 h1 hm 0, side_sorted h0 h1 hm 1]
  rfl
end KT
/-! An exception of a class of the text, made by a call with positions and keywords. -/
namespace XR
open PySem PySem.W PySem.Calls
section
variable {P : Program} {w : World} {M : Model} {A : Around} {E : Value → Shared → Prop} {R : Result → Shared → Prop} {h : Heap} {g : Array GenState} {d : Drawn} {t : Nat} {os : OsState}
variable {nm q : Str} {C N : Addr} {bs bm bmB : List Value} {hdct : Bool} {sn : List Str} {sub : List Value} {ab : Bool} {col : Option Bool} {dd : Option Addr} {k0 k1 k2 k3 k5 : Option Value} {B newId initId : String}

theorem newChecked (F : ExcBaseFacts B newId initId bmB) (hT : ∀ X : String, bm.contains (.type X) = bmB.contains (.type X)) {us : List Value} {kw : List (Str × Value)} {Q : Unit → Shared → Prop}
    (hC : h.get? C = some (excClassObj nm q C N bs bm hdct sn sub ab col dd k0 k1 k2 k3 k5 newId)) (z : Q () ⟨h, g, d, t, os⟩) : wpAny M A (checkBuiltinCall newId ⟨.ref C :: us, kw⟩) Q E ⟨h, g, d, t, os⟩ := by
  have c1 : (Value.ref C :: bm).contains (.type B) = true := by rw [List.contains_cons, hT, F.hasB, Bool.or_true]
  have c2 := F.noStar
  simp only [checkBuiltinCall, F.newKind, F.newSplit, F.newRow]
  repeat (first
    | refine wpAny_loadPart_at hC ?_
    | (refine wpAny_isSubtype_exc hC ?_; rw [c1])
    | refine wpAny_staticBase_exc hC ?_
    | refine wpAny_madeBy_exc hC ?_
    | simp only [bne_self_eq_false, Bool.false_eq_true, if_false]
    | wp_step)
  exact z

/-- BaseException.__new__ of such a class: the args from the positions alone -/
theorem newRuns (F : ExcBaseFacts B newId initId bmB) (hT : ∀ X : String, bm.contains (.type X) = bmB.contains (.type X)) {us : List Value} {kw : List (Str × Value)}
    (hC : h.get? C = some (excClassObj nm q C N bs bm hdct sn sub ab col dd k0 k1 k2 k3 k5 newId)) (hl : us.length ≤ sizeLine)
    (z : R (.ok (.ret (.ref (h.objs.size + 1)))) ⟨(h.push (kdv_tup us)).push (excObj C h.objs.size none .none), g, d, t, os⟩) :
    codeAny (model P w) A (.builtin newId ⟨.ref C :: us, kw⟩) R ⟨h, g, d, t, os⟩ := by
  have c0 := F.ends
  have c1 : (Value.ref C :: bm).contains (.type B) = true := by rw [List.contains_cons, hT, F.hasB, Bool.or_true]
  have c2 : (Value.ref C :: bm).contains (.type "AttributeError") = false := by rw [List.contains_cons, hT, F.noAttr]; rfl
  have c3 : (Value.ref C :: bm).contains (.type "NameError") = false := by rw [List.contains_cons, hT, F.noName]; rfl
  refine codeAny_builtinAt F.entry ?_
  unfold Builtin.«BaseException.__new__»
  refine wpAt_bind ?_
  show PySem.wpAt _ _ _ (stack >>= _) _ _ _
  refine wpAt_bind (wpAt_stack fun p below => wpAt_of_wpAny ?_)
  wp_walk
  refine wpAt_of_wpAny ?_
  rw [F.owner]
  repeat (first
    | with_reducible refine wpAny_madeHere_exc F.canon hC ?_
    | with_reducible refine wpAny_loadPart_at hC ?_
    | (with_reducible refine wpAny_isSubtype_exc hC ?_; first | rw [c1] | rw [c2] | rw [c3])
    | wp_step)
  show R _ _
  rw [Heap.size_push]
  exact z

theorem typeCall (F : ExcBaseFacts B newId initId bmB) (hT : ∀ X : String, bm.contains (.type X) = bmB.contains (.type X)) {us : List Value} {kw : List (Str × Value)} {fI : Addr} {Q : Fin → Shared → Prop}
    (hC : h.get? C = some (excClassObj nm q C N bs bm hdct sn sub ab col dd k0 k1 k2 k3 k5 newId))
    (hi : Looks (model P w) h (typeLookup (.ref C) "__init__") (some (.ref fI))) (hb : ∀ self, Looks (model P w) h (bindSpecial (.ref fI) self) (.ref fI, [self])) (hl : us.length ≤ sizeLine)
    (z : codeAny (model P w) A (.call (.ref fI) ⟨.ref (h.objs.size + 1) :: us, kw⟩)
      (fun r s' => match r with | .ok (.ret v) => v = .none ∧ Q (.done (.ret (.ref (h.objs.size + 1)))) s' | .ok _ => False | .error e => E e s')
      ⟨(h.push (kdv_tup us)).push (excObj C h.objs.size none .none), g, d, t, os⟩) :
    wpAny (model P w) A (Builtin.«type.__call__» ⟨.ref C :: us, kw⟩) Q E ⟨h, g, d, t, os⟩ := by
  repeat (first
    | with_reducible refine wpAny_loadPart_at hC ?_
    | with_reducible refine wpAny_madeBy_exc hC ?_
    | wp_step)
  refine codeAny_call_builtin_code (Code.quiet_builtin _ F.quiet) (newChecked F hT hC ?_)
  refine newRuns F hT hC hl ?_
  show wpAny _ _ _ _ _ _
  have k : ∀ b o, h.get? b = some o → ((h.push (kdv_tup us)).push (excObj C h.objs.size none .none)).get? b = some o := fun b o e => Heap.get?_push_of_some _ (Heap.get?_push_of_some _ e)
  have c4 := k _ _ hC
  have c5 : ((h.push (kdv_tup us)).push (excObj C h.objs.size none .none)).get? (h.objs.size + 1) = some (excObj C h.objs.size none .none) := by heap_get
  have c6 : (Value.ref C :: bm).contains (.ref C) = true := by simp
  have i1 := hi.keeps k
  have b1 := (hb (.ref (h.objs.size + 1))).keeps k
  unfold isInstance
  repeat (first
    | with_reducible refine wpAny_loadPart_at c5 ?_
    | (with_reducible refine wpAny_isSubtype_exc c4 ?_; rw [c6])
    | wp_step)
  show wpAny _ _ (typeLookup (.ref C) _) _ _ _
  refine i1.at ?_
  refine wpAny_holding (wpAny_bind (b1.at ?_))
  refine wpAny_bind (wpAny_call (codeAny_mono z fun r s' y => ?_))
  rcases r with e | (v | _ | _ | _) <;> first | exact y | exact y.elim | skip
  obtain ⟨rfl, y⟩ := y
  first
    | exact wpAny_pure (wpAny_pure y)
    | (wp_walk; exact y)

theorem callMade (F : ExcBaseFacts B newId initId bmB) (hT : ∀ X : String, bm.contains (.type X) = bmB.contains (.type X)) {us : List Value} {kw : List (Str × Value)} {fI : Addr}
    (hC : h.get? C = some (excClassObj nm q C N bs bm hdct sn sub ab col dd k0 k1 k2 k3 k5 newId))
    (hi : Looks (model P w) h (typeLookup (.ref C) "__init__") (some (.ref fI))) (hb : ∀ self, Looks (model P w) h (bindSpecial (.ref fI) self) (.ref fI, [self])) (hl : us.length ≤ sizeLine)
    (z : codeAny (model P w) (A.under (.builtin "type.__call__" ⟨.ref C :: us, kw⟩)) (.call (.ref fI) ⟨.ref (h.objs.size + 1) :: us, kw⟩) (InitBack (h.objs.size + 1) R)
      ⟨(h.push (kdv_tup us)).push (excObj C h.objs.size none .none), g, d, t, os⟩) :
    codeAny (model P w) A (.call (.ref C) ⟨us, kw⟩) R ⟨h, g, d, t, os⟩ := by
  have f1 := tc_lookup
  have f2 := tc_bind (.ref C)
  have f3 : (⟨h, g, d, t, os⟩ : Shared).TypeIs (.ref C) "type" := ⟨_, hC, rfl⟩
  refine codeAny_of_tree ?_
  show wpAny _ _ (callAny (.ref C) _) _ _ _
  repeat (any_goals (first | assumption | with_reducible refine wpAny_loadPart_at hC ?_ | wp_step))
  refine ⟨rfl, ?_⟩
  refine codeAny_call_builtin_at (Code.quiet_builtin _ (by decide +kernel)) entry_typeCall (wpAny_check_type_call_sub hC (typeCall F hT hC hi hb hl ?_))
  refine codeAny_mono z fun r s' y => ?_
  rcases r with e | (v | _ | _ | _) <;> exact y
end
end XR
namespace XR
open PySem PySem.W PySem.Calls
open Builtin Builtin.ObjectAttr
section
variable {P : Program} {w : World} {M : Model} {A : Around} {E : Value → Shared → Prop} {R : Result → Shared → Prop} {h : Heap} {g : Array GenState} {d : Drawn} {t : Nat} {os : OsState}
variable {K : Frag} {C e t1 dx : Addr} {B : String} {bmB : List Value} {f : Str} {v : Value} {Q : Unit → Shared → Prop}

/-- the first field of an exception: its dict is made -/
theorem storeFirst (SF : StoreFacts B bmB "object.__setattr__" "object") (X : K.In h) (he : h.get? e = some (excObj C t1 none .none)) (sa : findIn K (.ref C) "__setattr__" = some (some (.builtin "object.__setattr__")))
    (ov : excOver K C bmB = true) (di : hasDictIn K C = true) (tk : takerIn K C f = some none)
    (z : ∀ h' tk' dx, (∀ b o, b ≠ e → h.get? b = some o → h'.get? b = some o) → h.objs.size ≤ dx → dx ≠ e → h'.get? e = some (excObj C t1 (some dx) .none) → h'.Ns1 dx (fun y => if y = f then some v else none) → Q () ⟨h', g, d, tk', os⟩) :
    wpAny (model P w) A (setAttr (.ref e) f v) Q E ⟨h, g, d, t, os⟩ := by
  have I : W.InstAt h e (excObj C t1 none .none) C none := ⟨he, rfl, rfl, trivial⟩
  refine set_plain X I sa ?_
  refine osa_openX (r := none) SF X I ov tk fun b => ?_
  obtain ⟨cd, hc, hd'⟩ := any_some di
  have hcls : Looks (model P w) h (classData C) cd := looks_clsIn X hc
  have hes : e ≠ h.objs.size := Nat.ne_of_lt (Heap.lt_size he)
  show wpAny _ _ (storeInOwnDict (.ref e) (.ref C) (.str f t) f v b) _ _ _
  obtain ⟨nm, bs, mro, ns, qn, hd, sn, sb, ab, col, del⟩ := cd
  dsimp only at hd'
  subst hd'
  unfold storeInOwnDict ownDictForStores
  repeat (first
    | with_reducible refine PySem.HandSPX.store_in_new ?_ ?_
    | with_reducible refine wpAny_loadPart_at he ?_
    | with_reducible refine hcls.at ?_
    | wp_step)
  · exact ⟨_, #[], _, (Heap.get?_update_ne _ _ _ _ hes.symm).trans (Heap.get?_push_at rfl rfl), rfl, fun e he => absurd he (by simp), fun _ => rfl⟩
  · intro h' tk' hn' hs
    have h1 : (h.push { cls := .type "dict", data := .dict #[] }).get? e = some (excObj C t1 none .none) := Heap.get?_push_of_some _ he
    refine z h' tk' h.objs.size (fun b o hb ho => ?_) (Nat.le_refl _) hes.symm ?_ hn'
    · exact (hs.2 b (Nat.ne_of_lt (Heap.lt_size ho))).trans ((Heap.get?_update_ne _ _ _ _ hb).trans (Heap.get?_push_of_some _ ho))
    · exact (hs.2 e hes).trans (Heap.get?_update_self _ h1 rfl)

/-- a further one -/
theorem storeNext {m0 : Str → Option Value} {ns : List Str} (SF : StoreFacts B bmB "object.__setattr__" "object") (X : K.In h) (he : h.get? e = some (excObj C t1 (some dx) .none)) (hn : h.Ns1 dx m0) (hw : Within m0 ns) (hz : ns.length ≤ 1000)
    (sa : findIn K (.ref C) "__setattr__" = some (some (.builtin "object.__setattr__"))) (ov : excOver K C bmB = true) (di : hasDictIn K C = true) (tk : takerIn K C f = some none)
    (z : ∀ h' tk', (∀ b o, b ≠ dx → h.get? b = some o → h'.get? b = some o) → h'.Ns1 dx (fun y => if y = f then some v else m0 y) → Q () ⟨h', g, d, tk', os⟩) :
    wpAny (model P w) A (setAttr (.ref e) f v) Q E ⟨h, g, d, t, os⟩ := by
  obtain ⟨oD, esD, epD, hoD, hdD, _⟩ := hn.count hw
  have I : W.InstAt h e (excObj C t1 (some dx) .none) C (some oD) := ⟨he, rfl, rfl, hoD⟩
  refine set_plain X I sa ?_
  refine osa_openX (r := none) SF X I ov tk fun b => ?_
  obtain ⟨cd, hc, hd'⟩ := any_some di
  have hcls : Looks (model P w) h (classData C) cd := looks_clsIn X hc
  show wpAny _ _ (storeInOwnDict (.ref e) (.ref C) (.str f t) f v b) _ _ _
  obtain ⟨nm, bs, mro, nsx, qn, hd, sn, sb, ab, col, del⟩ := cd
  dsimp only at hd'
  subst hd'
  unfold storeInOwnDict ownDictForStores
  repeat (first
    | with_reducible refine PySem.OEX.store_in_old hn hw hz ?_
    | with_reducible refine wpAny_loadPart_at he ?_
    | with_reducible refine hcls.at ?_
    | wp_step)
  intro h' tk' hn' hs
  exact z h' tk' (fun b o hb ho => (hs.2 b hb).trans ho) hn'
end
end XR
namespace XR
open PySem PySem.W PySem.Calls
/-- what the written part says of an exception class over the built-in B, and of its __init__ -/
structure XCls (K : Frag) (P : Program) (C fI cc cda : Addr) (B newId initId : String) (bmB : List Value) (fd : FuncData) : Prop where
  FB : ExcBaseFacts B newId initId bmB
  SF : StoreFacts B bmB "object.__setattr__" "object"
  KF : KxsFacts B initId
  ei : excInitIn K C bmB newId = true
  ov : excOver K C bmB = true
  di : hasDictIn K C = true
  sa : findIn K (.ref C) "__setattr__" = some (some (.builtin "object.__setattr__"))
  su : ks_superIn K C C "__init__" = some (some (.builtin initId))
  sb : subIn K (.ref C) (.type B) = some true
  me : mroIn K C (.ref C) = some true
  op : nsIn K cStatics "thirdparty.any" = some none
  ini : findIn K (.ref C) "__init__" = some (some (.ref fI))
  fn : isFn K (.ref fI) = true
  lk : ∃ oc od osl, K.lookup fI = some ⟨oc, od, .func fd, osl⟩
  cod : codeIn K (.ref cda) fd.qualname = true
  cdl : ∃ a b vs c file tf, K.lookup cda = some ⟨a, b, .fields vs, c⟩ ∧ vs[2]? = some (.str file tf) ∧ ((P.main.file : Str) == file) = true
  cel : ∃ a b c, K.lookup cc = some ⟨a, b, .cell (some (.ref C)), c⟩
  kp : keepIn K (.ref C) = true

/-- a store of a parameter -/
def stS (f p : Str) (a b c d : Pos) : Stmt := .Assign [.Attribute (.Name "self" a) f b] (.Name p c) d
def stSup (txt : Str) (k : Nat) (p0 p1 p2 p3 p4 p5 : Pos) : Stmt := .Expr (.Call (.Attribute (.Call (.Name "super" p0) [] [] p1) "__init__" p2) [.Constant (.str txt) k p3] [] p4) p5

section
variable {P : Program} {w : World} {A : Around} {h : Heap} {g : Array GenState} {d : Drawn} {t : Nat} {os : OsState}
variable {K : Frag} {C fI cc cda e t1 L : Addr} {B newId initId : String} {bmB : List Value} {fd : FuncData} {m mg mb : Str → Option Value} {qual : Str} {scope : Scope}

/-- super().__init__(text): the args are laid anew -/
theorem superRuns {body : List Stmt} {txt : Str} {k : Nat} {p0 p1 p2 p3 p4 p5 : Pos} {ar : Arg} {Q : Flow → Shared → Prop} {E : Value → Shared → Prop} (T : XCls K P C fI cc cda B newId initId bmB fd) (X : K.In h) (he : h.get? e = some (excObj C t1 none .none))
    (hn : h.Ns L m) (hv : m "self" = some (.ref e)) (hm : h.Ns mainGlobals mg) (hb : h.Ns builtinsNs mb) (m1 : mg "super" = none) (m2 : mb "super" = some (.type "super"))
    (hp : (fd.params.posonlyargs ++ fd.params.args).head? = some ar) (har : ar.arg = "self")
    (hks : scope.names.lookup ("super" : Str) = some .globalImplicit) (hkc : scope.names.lookup ("__class__" : Str) = some .free) (hka : scope.names.lookup ("self" : Str) = some .local) (hk : scope.kind = .function)
    (hev : ∃ pl, eval (.Call (.Attribute (.Call (.Name "super" p0) [] [] p1) "__init__" p2) [.Constant (.str txt) k p3] [] p4) (ksEnv qual scope L fI (.ref cda) cc) = (do
      let ov ← attributeBase (.Call (.Name "super" p0) [] [] p1) "__init__" (ksEnv qual scope L fI (.ref cda) cc) (eval (.Call (.Name "super" p0) [] [] p1) (ksEnv qual scope L fI (.ref cda) cc))
      standAt p2.atName
      let (f, first) ← holding [ov] (getMethod ov "__init__" pl)
      callWith p4 f first (backTo p4 (starEach [.Constant (.str txt) k p3] (ksEnv qual scope L fI (.ref cda) cc))) []))
    (htop : (P.main.scope.names.lookup ("super" : Str)).isSome = false) (heL : e ≠ L)
    (z : ∀ h' t2 tk, (∀ b o, b ≠ e → h.get? b = some o → h'.get? b = some o) → h'.get? e = some (excObj C t2 none .none) → Q .next ⟨h', g, d, tk, os⟩) :
    PySem.wpAt (model P w) A (.func body (ksEnv qual scope L fI (.ref cda) cc)) (exec (stSup txt k p0 p1 p2 p3 p4 p5) (ksEnv qual scope L fI (.ref cda) cc)) Q E ⟨h, g, d, t, os⟩ := by
  obtain ⟨kd, nms, ig, ic, mr⟩ := scope
  dsimp only at hk hks hkc hka hev
  obtain ⟨pl, hev⟩ := hev
  subst hk
  have hk : (⟨.function, nms, ig, ic, mr⟩ : Scope).kind = .function := rfl
  obtain ⟨oc, od, osl, lk⟩ := T.lk
  obtain ⟨a1, a2, vs, a3, file, tf, cdl, hvs, hfile⟩ := T.cdl
  obtain ⟨b1, b2, b3, cel⟩ := T.cel
  obtain ⟨nm, N', qn, bs, bm, hdct, sn, sub, ab, col, dd, k0, k1', k2, k3, k5, hC, hT⟩ := excInit_of X T.ei
  have I : W.InstAt h e (excObj C t1 none .none) C none := ⟨he, rfl, rfl, trivial⟩
  refine ks_wpAt_Expr_any ?_
  refine ks_wpAt_MethodCall (pl := pl) ?_ hev
  refine ks_wpAt_super_base (env := ksEnv qual ⟨.function, nms, ig, ic, mr⟩ L fI (.ref cda) cc) (attr := "__init__") hks hkc (by decide) rfl (X _ _ lk) rfl hp rfl (X _ _ cdl) rfl hvs hfile htop ?_
  have hD : ∃ oD cdD, h.get? C = some oD ∧ oD.data = .cls cdD := ⟨_, _, hC, rfl⟩
  obtain ⟨oD, cdD, hD1, hD2⟩ := hD
  refine ks_loadName_global hk hks (loadGlobal_builtin (env := ksEnv qual ⟨.function, nms, ig, ic, mr⟩ L fI (.ref cda) cc) hm m1 hb m2 ⟨rfl, ?_⟩)
  refine wpAny_loadName_free hk hkc rfl ⟨_, X _ _ cel, rfl⟩ ?_
  rw [har]
  refine wpAny_loadName_local hk hka hn hv ?_
  refine ks_wpAny_isType_cls hD1 hD2 ⟨rfl, ?_⟩
  refine ks_wpAny_call_super hD1 hD2 he rfl (fun c e => by cases e) (looks_mroIn X T.me) (fun h1 e1 k1 => ?_)
  have X1 : K.In h1 := X.keeps k1
  have he1 := k1 _ _ he
  obtain ⟨cdx, hcdx, hfx⟩ := Option.bind_eq_some_iff.mp (show (clsIn K C).bind (fun cd => alongIn K "__init__" ((cd.mro.dropWhile (· != .ref C)).drop 1)) = some (some (.builtin initId)) from T.su)
  have I1 : W.InstAt h1 e (excObj C t1 none .none) C none := ⟨he1, rfl, rfl, trivial⟩
  have hI : Looks (model P w) h1 (isInstance (.ref e) (.type B)) true := I1.type.andThen (looks_subIn X1 T.sb)
  refine kxs_getMethod T.KF e1 (looks_opaque X1 T.op) (l₀ := cdx.mro) ?_ rfl X1 hfx hI (ks_ne X1 I1 hcdx) (by decide) ?_
  · exact fun A Q E s k q => wpAny_bind ((looks_clsIn X1 hcdx) A _ E s k (wpAny_pure q))
  refine kxs_callWith (i := initId) (x := e) (by rfl) ?_
  have c1 : (h1.push (kxs_mw initId e)).get? h1.objs.size = some (kxs_mw initId e) := Heap.get?_push_at rfl rfl
  have c2 : ∀ b o, h1.get? b = some o → (h1.push (kxs_mw initId e)).get? b = some o := fun b o q => Heap.get?_push_of_some _ q
  refine evalArgs_plain (spliced_cons (Constant_str (k := k) (pos := p3) (spliced_nil ⟨c1, ?_⟩)))
  refine wpAny_call (codeAny_of_tree ?_)
  show wpAny _ A.in1 (callAny (.ref h1.objs.size) ⟨[.str txt _], []⟩) _ _ _
  simp only [callAny]
  refine wpAny_bind (wpAny_load c1 ?_)
  have c3 : (Value.type "method-wrapper" == Value.type "method" || Value.type "method-wrapper" == Value.type "builtin_function_or_method" || Value.type "method-wrapper" == Value.type "method-wrapper") = true := by decide
  simp only [kxs_mw, c3, if_true]
  refine KFB.if_so (by decide) ?_
  refine wpAny_bind (check_bound_init T.FB.toExcCallFacts (c2 _ _ (k1 _ _ hC)) (c2 _ _ he1) rfl ?_)
  refine wpAny_bind (wpAny_pure (wpAny_pure ?_))
  refine ⟨plainId_quiet T.FB.init.plain _, codeAny_builtin T.FB.initEntry ?_⟩
  refine exc_init_tree (cls := .ref C) (t0 := t1) (dv := none) (c2 := .none) (c3 := .none) (b4 := .bool false) (c2 _ _ he1) (by show 1 ≤ sizeLine; decide) fun h' k' e' t' => ?_
  exact z h' _ _ (fun b o hb q => k' b o hb (c2 b o (k1 b o q))) e'
end
end XR
namespace XR
open PySem PySem.W PySem.Calls
/-- a store of the body: the field, the parameter, its value -/
structure Sto where
  f : Str
  p : Str
  v : Value
  a : Pos
  b : Pos
  c : Pos
  d : Pos
def Sto.st (x : Sto) : Stmt := stS x.f x.p x.a x.b x.c x.d
/-- an exception at e with the fields fs, newest first; its dict stands at n0 or behind, and is not L -/
def Fl (n0 : Nat) (L e C : Addr) (fs : List (Str × Value)) (h : Heap) : Prop :=
  ∃ t1 : Addr, (fs = [] ∧ h.get? e = some (excObj C t1 none .none)) ∨
    ∃ dx : Addr, fs ≠ [] ∧ n0 ≤ dx ∧ dx ≠ e ∧ dx ≠ L ∧ h.get? e = some (excObj C t1 (some dx) .none) ∧ h.Ns1 dx (fun y => fs.lookup y)
theorem lookup_cons' (f y : Str) (v : Value) (fs : List (Str × Value)) : (if y = f then some v else fs.lookup y) = ((f, v) :: fs).lookup y := by
  by_cases q : y = f
  · subst q; simp [List.lookup]
  · have q' : (y == f) = false := by simpa using q
    rw [if_neg q]; simp [List.lookup, q']
theorem within_lookup : ∀ (fs : List (Str × Value)), Within (fun y => fs.lookup y) (fs.map (·.1))
  | [] => fun y hy => absurd rfl hy
  | (f, v) :: fs => fun y hy => by
    by_cases q : y = f
    · rw [q]; exact List.mem_cons_self ..
    · refine List.mem_cons_of_mem _ (within_lookup fs y ?_)
      have q' : (y == f) = false := by simpa using q
      simpa [List.lookup, q'] using hy
section
variable {P : Program} {w : World} {A : Around} {g : Array GenState} {d : Drawn} {os : OsState}
variable {K : Frag} {C fI cc cda e L : Addr} {n0 : Nat} {B newId initId : String} {bmB : List Value} {fd : FuncData} {m : Str → Option Value} {env : Env} {Q : Flow → Shared → Prop} {E : Value → Shared → Prop}

theorem storesRun (T : XCls K P C fI cc cda B newId initId bmB fd) (hK : ∀ b o, K.lookup b = some o → b < n0) (he0 : n0 ≤ e) (hL0 : n0 ≤ L) (heL : e ≠ L) (hl : env.locals = L) (hk : env.scope.kind = .function)
    (hself : env.kindOf "self" = some .local) (hv : m "self" = some (.ref e)) :
    ∀ (l : List Sto) (fs : List (Str × Value)) (h : Heap) (t : Nat), (∀ x ∈ l, m x.p = some x.v ∧ env.kindOf x.p = some .local ∧ (x.p == ("__debug__" : Str)) = false ∧ takerIn K C x.f = some none ∧ swapsWith (.Name x.p x.c) (some (.Attribute (.Name "self" x.a) x.f x.b)) x.d.line env = pure false) →
      fs.length + l.length ≤ 900 → K.In h → h.Ns L m → Fl n0 L e C fs h →
      (∀ h' tk, (∀ b o, b < n0 → h.get? b = some o → h'.get? b = some o) → Fl n0 L e C ((l.map fun x => (x.f, x.v)).reverse ++ fs) h' → Q .next ⟨h', g, d, tk, os⟩) →
      wpAny (model P w) A (execs (l.map Sto.st) env) Q E ⟨h, g, d, t, os⟩
  | [], fs, h, t, _, _, _, _, hF, z => wpAny_execs_nil (z h t (fun _ _ _ q => q) hF)
  | x :: l, fs, h, t, hx, hlen, X, hn, hF, z => by
    obtain ⟨x1, x2, x3, x4, x5⟩ := hx x (List.mem_cons_self ..)
    have hn' : h.Ns env.locals m := by rw [hl]; exact hn
    refine wpAny_execs_cons ?_
    show wpAny _ _ (exec (.Assign [.Attribute (.Name "self" x.a) x.f x.b] (.Name x.p x.c) x.d) env) _ _ _
    refine plainObj_wpAny_Assign_Attribute (wpAny_Name (wpAny_loadName_local hk x2 hn' x1 (wpAny_Name (wpAny_loadName_local hk hself hn' hv ?_) (by decide))) x3) x5
    have step : ∀ (h' : Heap) (tk : Nat), (∀ b o, (b < n0 ∨ b = L) → h.get? b = some o → h'.get? b = some o) → Fl n0 L e C ((x.f, x.v) :: fs) h' → wpAny (model P w) A (execs (l.map Sto.st) env) Q E ⟨h', g, d, tk, os⟩ := fun h' tk k hF' => by
      have X' : K.In h' := fun b o q => k b o (.inl (hK b o q)) (X b o q)
      have hn2 : h'.Ns L m := by
        obtain ⟨o, es, ep, ho, r⟩ := hn
        exact ⟨o, es, ep, k _ _ (.inr rfl) ho, r⟩
      refine storesRun T hK he0 hL0 heL hl hk hself hv l ((x.f, x.v) :: fs) h' tk (fun y hy => hx y (List.mem_cons_of_mem _ hy)) (by simp only [List.length_cons] at hlen ⊢; omega) X' hn2 hF' fun h2 tk2 k2 hF2 => ?_
      refine z h2 tk2 (fun b o hb q => k2 b o hb (k b o (.inl hb) q)) ?_
      simpa using hF2
    obtain ⟨t1, ⟨hf, he⟩ | ⟨dx, hf, hd0, hde, hdL, he, hns⟩⟩ := hF
    · subst hf
      refine storeFirst T.SF X he T.sa T.ov T.di x4 fun h' tk' dx k k0 kne hx' hn' => ?_
      refine step h' tk' (fun b o hb q => k b o ?_ q) ⟨t1, .inr ⟨dx, by simp, ?_, kne, ?_, hx', ?_⟩⟩
      · rcases hb with hb | hb
        · exact Nat.ne_of_lt (Nat.lt_of_lt_of_le hb he0)
        · rw [hb]; exact heL.symm
      · exact Nat.le_trans (Nat.le_trans he0 (Nat.le_of_lt (Heap.lt_size he))) k0
      · have : L < h.objs.size := by obtain ⟨o, _, _, ho, _⟩ := hn; exact Heap.lt_size ho
        exact (Nat.ne_of_lt (Nat.lt_of_lt_of_le this k0)).symm
      · have e1 : (fun y => if y = x.f then some x.v else none) = (fun y => [(x.f, x.v)].lookup y) := by funext y; exact lookup_cons' x.f y x.v []
        rw [e1] at hn'; exact hn'
    · refine storeNext T.SF X he hns (within_lookup fs) (by rw [List.length_map]; simp only [List.length_cons] at hlen; omega) T.sa T.ov T.di x4 fun h' tk' k hn' => ?_
      refine step h' tk' (fun b o hb q => k b o ?_ q) ⟨t1, .inr ⟨dx, by simp, hd0, hde, hdL, k _ _ hde.symm he, ?_⟩⟩
      · rcases hb with hb | hb
        · exact Nat.ne_of_lt (Nat.lt_of_lt_of_le hb hd0)
        · rw [hb]; exact hdL.symm
      · have e1 : (fun y => if y = x.f then some x.v else fs.lookup y) = (fun y => ((x.f, x.v) :: fs).lookup y) := by funext y; exact lookup_cons' x.f y x.v fs
        rw [e1] at hn'; exact hn'
end
end XR
namespace XR
open PySem PySem.W PySem.Calls
section
variable {P : Program} {w : World} {A : Around} {g : Array GenState} {d : Drawn} {t : Nat} {os : OsState} {hp h : Heap}
variable {K : Frag} {C fI cc cda e t1 : Addr} {n0 : Nat} {B newId initId : String} {bmB : List Value} {fd : FuncData} {mg mb : Str → Option Value} {R : Result → Shared → Prop} {Q : Value → Shared → Prop} {E : Value → Shared → Prop}

/-- how the text of an __init__ stands: super().__init__(txt), then the stores l -/
structure Shape (P : Program) (fd : FuncData) (fI cda cc : Addr) (txt : Str) (k : Nat) (p0 p1 p2 p3 p4 p5 : Pos) (l : List Sto) : Prop where
  eq : ∃ x qual params scope dV kV doc pm an ct, fd = ksFn x qual params (stSup txt k p0 p1 p2 p3 p4 p5 :: l.map Sto.st) scope dV kV doc pm an (.ref cda) ct cc ∧
    (∃ ar, (params.posonlyargs ++ params.args).head? = some ar ∧ ar.arg = "self") ∧ scope.names.lookup ("super" : Str) = some .globalImplicit ∧ scope.names.lookup ("__class__" : Str) = some .free ∧ scope.names.lookup ("self" : Str) = some .local ∧ scope.kind = .function ∧
    (∀ L : Addr, ∃ pl, eval (.Call (.Attribute (.Call (.Name "super" p0) [] [] p1) "__init__" p2) [.Constant (.str txt) k p3] [] p4) (ksEnv qual scope L fI (.ref cda) cc) = (do
      let ov ← attributeBase (.Call (.Name "super" p0) [] [] p1) "__init__" (ksEnv qual scope L fI (.ref cda) cc) (eval (.Call (.Name "super" p0) [] [] p1) (ksEnv qual scope L fI (.ref cda) cc))
      standAt p2.atName
      let (f, first) ← holding [ov] (getMethod ov "__init__" pl)
      callWith p4 f first (backTo p4 (starEach [.Constant (.str txt) k p3] (ksEnv qual scope L fI (.ref cda) cc))) [])) ∧
    (∀ x ∈ scope.names, x.2 ≠ .cell) ∧ scope.isCoroutine = false ∧ scope.isGenerator = false ∧
    (∀ L : Addr, ∀ x ∈ l, scope.names.lookup x.p = some .local ∧ (x.p == ("__debug__" : Str)) = false ∧ swapsWith (.Name x.p x.c) (some (.Attribute (.Name "self" x.a) x.f x.b)) x.d.line (ksEnv qual scope L fI (.ref cda) cc) = pure false)
  top : (P.main.scope.names.lookup ("super" : Str)).isSome = false

theorem initRuns {txt : Str} {k : Nat} {p0 p1 p2 p3 p4 p5 : Pos} {l : List Sto} {args : Args} {binds : List (Str × Value)} (T : XCls K P C fI cc cda B newId initId bmB fd) (S : Shape P fd fI cda cc txt k p0 p1 p2 p3 p4 p5 l)
    (hK : ∀ b o, K.lookup b = some o → b < n0) (he0 : n0 ≤ e) (hl : l.length ≤ 900)
    (X : K.In hp) (hm : hp.Ns mainGlobals mg) (hb : hp.Ns builtinsNs mb) (m1 : mg "super" = none) (m2 : mb "super" = some (.type "super")) (lim : hp.NoLimit) (room : A.depth < recursionLimit)
    (bt : BindsTo ⟨hp, g, d, t, os⟩ fd args binds) (hloc : ∀ x ∈ binds, fd.scope.names.lookup x.1 = some .local) (hself : binds.reverse.lookup ("self" : Str) = some (Value.ref e))
    (hx : ∀ x ∈ l, binds.reverse.lookup x.p = some x.v ∧ takerIn K C x.f = some none)
    (he : hp.get? e = some (excObj C t1 none .none))
    (z : ∀ h' tk, (∀ b o, b < n0 → hp.get? b = some o → h'.get? b = some o) → Fl n0 hp.objs.size e C (l.map fun x => (x.f, x.v)).reverse h' → R (.ok (.ret .none)) ⟨h', g, d, tk, os⟩) :
    codeAny (model P w) A (.call (.ref fI) args) R ⟨hp, g, d, t, os⟩ := by
  obtain ⟨x, qual, params, scope, dV, kV, doc, pm, an, ct, rfl, ⟨ar, hp1, har⟩, hks, hkc, hka, hk, hev, hcell, hco, hgen, hsw⟩ := S.eq
  obtain ⟨oc, od, osl, lk⟩ := T.lk
  have heL : e ≠ hp.objs.size := Nat.ne_of_lt (Heap.lt_size he)
  have hL0 : n0 ≤ hp.objs.size := Nat.le_trans he0 (Nat.le_of_lt (Heap.lt_size he))
  refine ks_codeAny_call_defAt (fd := ksFn x qual params (stSup txt k p0 p1 p2 p3 p4 p5 :: l.map Sto.st) scope dV kV doc pm an (.ref cda) ct cc) (body := stSup txt k p0 p1 p2 p3 p4 p5 :: l.map Sto.st) (binds := binds) room (X _ _ lk) rfl lim (codeRec_of X T.cod) rfl bt hcell hloc (fun h1 hns hk1 => ?_) hco hgen hk
  refine ks_wpAt_execs_cons ?_
  show PySem.wpAt (model P w) (A.deeper (ksEnv qual scope hp.objs.size fI (.ref cda) cc)) (.func (stSup txt k p0 p1 p2 p3 p4 p5 :: l.map Sto.st) (ksEnv qual scope hp.objs.size fI (.ref cda) cc)) (exec (stSup txt k p0 p1 p2 p3 p4 p5) (ksEnv qual scope hp.objs.size fI (.ref cda) cc)) _ _ _
  refine superRuns (t1 := t1) T (X.keeps hk1) (hk1 _ _ he) hns hself (hm.keeps hk1) (hb.keeps hk1) m1 m2 hp1 har hks hkc hka hk (hev _) S.top heL fun h2 t2 tk k2 he2 => ?_
  dsimp only
  refine wpAt_of_wpAny ?_
  have K2 : ∀ b o, b ≠ e → hp.get? b = some o → h2.get? b = some o := fun b o hb q => k2 b o hb (hk1 b o q)
  have X2 : K.In h2 := fun b o q => K2 b o (Nat.ne_of_lt (Nat.lt_of_lt_of_le (hK b o q) he0)) (X b o q)
  have hns2 : h2.Ns hp.objs.size (fun x => binds.reverse.lookup x) := by
    obtain ⟨o, es, ep, ho, r⟩ := hns
    exact ⟨o, es, ep, k2 _ _ heL.symm ho, r⟩
  refine storesRun (env := ksEnv qual scope hp.objs.size fI (.ref cda) cc) (m := fun x => binds.reverse.lookup x) T hK he0 hL0 heL rfl hk hka hself l [] h2 tk (fun y hy => ⟨(hx y hy).1, (hsw 0 y hy).1, (hsw 0 y hy).2.1, (hx y hy).2, (hsw _ y hy).2.2⟩) (by simpa using hl) X2 hns2 ⟨t2, .inl ⟨rfl, he2⟩⟩ fun h3 tk3 k3 F3 => ?_
  refine z h3 tk3 (fun b o hb q => k3 b o hb (K2 b o (Nat.ne_of_lt (Nat.lt_of_lt_of_le hb he0)) q)) ?_
  simpa using F3

/-- C(..): the exception stands with its fields -/
theorem made {txt : Str} {k : Nat} {p0 p1 p2 p3 p4 p5 : Pos} {l : List Sto} {us : List Value} {kw : List (Str × Value)} {binds : List (Str × Value)} (T : XCls K P C fI cc cda B newId initId bmB fd) (S : Shape P fd fI cda cc txt k p0 p1 p2 p3 p4 p5 l) (hl : l.length ≤ 900)
    (X : K.In h) (hm : h.Ns mainGlobals mg) (hb : h.Ns builtinsNs mb) (m1 : mg "super" = none) (m2 : mb "super" = some (.type "super")) (lim : h.NoLimit) (room : (A.under (.builtin "type.__call__" ⟨.ref C :: us, kw⟩)).depth < recursionLimit) (hus : us.length ≤ sizeLine)
    (bt : ∀ s, BindsTo s fd ⟨.ref (h.objs.size + 1) :: us, kw⟩ binds) (hloc : ∀ x ∈ binds, fd.scope.names.lookup x.1 = some .local) (hself : binds.reverse.lookup ("self" : Str) = some (Value.ref (h.objs.size + 1)))
    (hx : ∀ x ∈ l, binds.reverse.lookup x.p = some x.v ∧ takerIn K C x.f = some none)
    (z : ∀ h' tk L, (∀ b o, h.get? b = some o → h'.get? b = some o) → Fl h.objs.size L (h.objs.size + 1) C (l.map fun x => (x.f, x.v)).reverse h' → Q (.ref (h.objs.size + 1)) ⟨h', g, d, tk, os⟩) :
    wpAny (model P w) A (call (.ref C) us kw) Q E ⟨h, g, d, t, os⟩ := by
  obtain ⟨nm, N', qn, bs, bm, hdct, sn, sub, ab, col, dd, k0, k1, k2, k3, k5, hC, hT⟩ := excInit_of X T.ei
  obtain ⟨oI, hoI, hcI⟩ : ∃ oI, h.get? fI = some oI ∧ oI.cls = .type "function" := by
    obtain ⟨o, ho, hc⟩ := Option.map_eq_some_iff.mp (show (K.lookup fI).map (·.cls) = some (.type "function") from beq_iff_eq.mp T.fn)
    exact ⟨o, X _ _ ho, hc⟩
  have kk : ∀ b o, h.get? b = some o → ((h.push (kdv_tup us)).push (excObj C h.objs.size none .none)).get? b = some o := fun b o q => Heap.get?_push_of_some _ (Heap.get?_push_of_some _ q)
  have c5 : ((h.push (kdv_tup us)).push (excObj C h.objs.size none .none)).get? (h.objs.size + 1) = some (excObj C h.objs.size none .none) := by heap_get
  refine wpAny_call (callMade T.FB hT hC (looks_findIn X T.ini) (fun self => exc_bind hoI hcI self) hus ?_)
  refine initRuns T S (n0 := h.objs.size) (fun b o q => Heap.lt_size (X b o q)) (Nat.le_succ _) hl (X.keeps kk) (hm.keeps kk) (hb.keeps kk) m1 m2 (lim.keeps kk) room (bt _) hloc hself hx c5 fun h' tk k' F' => ?_
  refine ⟨rfl, ?_⟩
  exact z h' tk _ (fun b o q => k' b o (Heap.lt_size q) (kk b o q)) F'
end
end XR
/-! repr of data that stands in the abstract heap: none, bools, ints, texts, lists, tuples, dicts with int and text keys. -/
namespace XR
open PySem PySem.Spec L2
mutual
inductive Dq (K : PySem.W.Frag) (H : Hp) : V → PyData → Prop
  | non : Dq K H .non .none
  | bl (b : Bool) : Dq K H (.bl b) (.bool b)
  | int (i : Int) : Dq K H (.int i) (.int i)
  | str (x : Str) : Dq K H (.str x) (.str x)
  | lst {a : Addr} {xs : List V} {ds : List PyData} : SqL K H a xs → DqAll K H xs ds → Dq K H (.ref a) (.list ds)
  | tup {a : Addr} {xs : List V} {ds : List PyData} : SqT K H a xs → DqAll K H xs ds → Dq K H (.ref a) (.tuple ds)
  | dct {a : Addr} {kvs : List (Key × V)} {ds : List (PyData × PyData)} : H a = some (.dK kvs) → DqAll K H (kvs.map fun p => kV p.1) (ds.map (·.1)) → DqAll K H (kvs.map (·.2)) (ds.map (·.2)) → Dq K H (.ref a) (.dict ds)
inductive DqAll (K : PySem.W.Frag) (H : Hp) : List V → List PyData → Prop
  | nil : DqAll K H [] []
  | cons {v : V} {vs : List V} {d : PyData} {ds : List PyData} : Dq K H v d → DqAll K H vs ds → DqAll K H (v :: vs) (d :: ds)
end
theorem DqAll.length {K : PySem.W.Frag} {H : Hp} : ∀ {vs : List V} {ds : List PyData}, DqAll K H vs ds → vs.length = ds.length
  | _, _, .nil => rfl
  | _, _, .cons _ h => by simp [h.length]
theorem DqAll.append {K : PySem.W.Frag} {H : Hp} : ∀ {vs ws : List V} {ds es : List PyData}, DqAll K H vs ds → DqAll K H ws es → DqAll K H (vs ++ ws) (ds ++ es)
  | _, _, _, _, .nil, h => h
  | _, _, _, _, .cons a b, h => .cons a (b.append h)
theorem DqAll.rep {K : PySem.W.Frag} {H : Hp} {v : V} {d : PyData} (h : Dq K H v d) : ∀ n : Nat, DqAll K H (List.replicate n v) (List.replicate n d)
  | 0 => .nil
  | n + 1 => by
    rw [List.replicate_succ, List.replicate_succ]
    exact .cons h (DqAll.rep h n)
theorem Same.tup {K : PySem.W.Frag} {H H' : Hp} {a : Addr} {xs : List V} (e : Same H H') (h : SqT K H a xs) : SqT K H' a xs := by
  rcases h with (h | ⟨o, h⟩) | h
  · exact .inl (.inl (e _ _ h))
  · exact .inl (.inr ⟨o, e _ _ h⟩)
  · exact .inr h
mutual
theorem Dq.same {K : PySem.W.Frag} {H H' : Hp} (e : Same H H') : ∀ {v : V} {d : PyData}, Dq K H v d → Dq K H' v d
  | _, _, .non => .non
  | _, _, .bl b => .bl b
  | _, _, .int i => .int i
  | _, _, .str x => .str x
  | _, _, .lst h1 h2 => .lst (e.seq h1) (DqAll.same e h2)
  | _, _, .tup h1 h2 => .tup (Same.tup e h1) (DqAll.same e h2)
  | _, _, .dct h1 h2 h3 => .dct (e _ _ h1) (DqAll.same e h2) (DqAll.same e h3)
theorem DqAll.same {K : PySem.W.Frag} {H H' : Hp} (e : Same H H') : ∀ {vs : List V} {ds : List PyData}, DqAll K H vs ds → DqAll K H' vs ds
  | _, _, .nil => .nil
  | _, _, .cons a b => .cons (Dq.same e a) (DqAll.same e b)
end
/-- the entries of a dict: their keys and values -/
theorem pairs_keys {P : Program} {w : World} : ∀ {kvs : List (Key × V)} {vs : List (Key × Value)} {es : List DictEntry}, KV kvs vs → Pairs (mixKind P w) es vs →
    Vals (kvs.map fun p => kV p.1) (es.map (·.key)) ∧ Vals (kvs.map (·.2)) (es.map (·.val))
  | _, _, _, .nil, h => by
    cases h
    exact ⟨.nil, .nil⟩
  | _, _, _, .cons r t, h => by
    cases h with
    | cons h1 h2 h3 =>
      obtain ⟨a, b⟩ := pairs_keys t h3
      obtain ⟨r1, r2⟩ := r
      refine ⟨.cons ?_ a, .cons ?_ b⟩
      · dsimp only
        rw [r1]
        rcases keyIs_shape (show keyIs _ _ = true from h1) with ⟨i, t, q1, q2⟩ | ⟨x, t, q1, q2⟩
        · rw [q1, q2]; exact ⟨t, rfl⟩
        · rw [q1, q2]; exact ⟨t, rfl⟩
      · dsimp only
        rw [h2]; exact r2
section
variable {X : Cx} {pins : List (Addr × Obj)} {σ : St} {H : Hp} {s : Shared}
mutual
theorem Dq.both (I : Inv X pins σ H s) : ∀ {v : V} {d : PyData} {u : Value}, Dq X.K H v d → RelV v u → d.showable = true → d.shown.length ≤ sizeLine →
    ∃ as bs, Reads s.heap u d as ∧ ReadAtMost s.heap d.depth bs ∧ ReprK X.prog X.w bs s.heap d.depth u d.shown
  | _, _, _, .non, r, _, _ => by
    cases r
    exact ⟨_, [], .none, (fun _ h => nomatch h), by simp only [PyData.shown]; exact .of_is ReprIs.none _ _ _⟩
  | _, _, _, .bl b, r, _, _ => by
    cases r
    exact ⟨_, [], .bool b, (fun _ h => nomatch h), by simp only [PyData.shown]; exact .of_is (ReprIs.bool b) _ _ _⟩
  | _, _, _, .int i, r, hs, _ => by
    obtain ⟨t, rfl⟩ := r
    exact ⟨_, [], .int i t, (fun _ h => nomatch h), by simp only [PyData.shown]; exact .of_is (ReprIs.int t (by simpa [PyData.showable] using hs)) _ _ _⟩
  | _, _, _, .str x, r, _, hz => by
    obtain ⟨t, rfl⟩ := r
    exact ⟨_, [], .str x t, (fun _ h => nomatch h), by simp only [PyData.shown]; exact .of_is (ReprIs.str x t (by simpa only [PyData.shown] using hz)) _ _ _⟩
  | _, _, _, .lst (a := a) (ds := ds) h1 h2, r, hs, hz => by
    cases r
    have hz' : (listText (PyData.shownAll ds)).length ≤ sizeLine := by simpa only [PyData.shown] using hz
    obtain ⟨its, rv, ⟨o, n, ho, hc, _, hd⟩, _⟩ := I.list h1
    obtain ⟨as, bs, q1, q2, q3⟩ := DqAll.both I h2 rv (by simpa [PyData.showable] using hs) (fun t ht => Nat.le_trans (listText_mem_le ht) hz')
    have rr : Reads s.heap (.ref a) (.list ds) _ := .list ho hc hd q1
    have hna : a ∉ bs := not_mem_of_deeper rr (by simp only [PyData.depth]; omega) q2
    refine ⟨_, a :: bs, rr, ReadAtMost.cons rr (by simp only [PyData.depth]; omega) q2, ?_⟩
    simp only [PyData.depth, PyData.shown]
    cases its with
    | nil =>
      cases q1
      simp only [PyData.shownAll, listText_nil]
      exact ReprK.listEmpty ho hc hd
    | cons y l => exact ReprK.list ho hc hd hna (by simpa using q3.length_eq) (fun i y e => q3.item i y (by simpa using e))
  | _, _, _, .tup (a := a) (ds := ds) h1 h2, r, hs, hz => by
    cases r
    have hz' : (tupleText (PyData.shownAll ds)).length ≤ sizeLine := by simpa only [PyData.shown] using hz
    obtain ⟨its, rv, ⟨o, ho, hc, n, hd⟩, _⟩ := I.tuple h1
    obtain ⟨as, bs, q1, q2, q3⟩ := DqAll.both I h2 rv (by simpa [PyData.showable] using hs) (fun t ht => Nat.le_trans (tupleText_mem_le ht) hz')
    have rr : Reads s.heap (.ref a) (.tuple ds) _ := .tuple ho hc hd q1
    have hna : a ∉ bs := not_mem_of_deeper rr (by simp only [PyData.depth]; omega) q2
    refine ⟨_, a :: bs, rr, ReadAtMost.cons rr (by simp only [PyData.depth]; omega) q2, ?_⟩
    simp only [PyData.depth, PyData.shown]
    exact ReprK.tuple ho hc hd hna q3
  | _, _, _, .dct (a := a) (kvs := kvs) (ds := ds) h1 h2 h3, r, hs, hz => by
    cases r
    have hz' : (dictText (PyData.shownKv ds)).length ≤ sizeLine := by simpa only [PyData.shown] using hz
    obtain ⟨hl, hsys, vs, rk, o, es, ep, ho, ⟨hc, _⟩, hd, _, hp, _⟩ := (show ObjOk X.prog X.w H s.heap a (.dK kvs) from I.hok a _ h1)
    obtain ⟨r1, r2⟩ := pairs_keys rk hp
    obtain ⟨s1, s2⟩ := PyData.showableKv_split ds (by simpa [PyData.showable] using hs)
    obtain ⟨a1, b1, q1, q2, q3⟩ := DqAll.both I h2 r1 s1 (fun t ht => let ⟨p, hp, hl⟩ := PyData.shownKv_key_le ds t ht; Nat.le_trans hl (Nat.le_trans (dictText_mem_le hp) hz'))
    obtain ⟨a2, b2, t1, t2, t3⟩ := DqAll.both I h3 r2 s2 (fun t ht => let ⟨p, hp, hl⟩ := PyData.shownKv_val_le ds t ht; Nat.le_trans hl (Nat.le_trans (dictText_mem_le hp) hz'))
    have rr : Reads s.heap (.ref a) (.dict ds) _ := .dict ho hc hd q1 t1
    have hb : ReadAtMost s.heap (PyData.depthKv ds) (b1 ++ b2) := (q2.mono (PyData.depthAll_keys_le ds)).append (t2.mono (PyData.depthAll_vals_le ds))
    have hna : a ∉ b1 ++ b2 := not_mem_of_deeper rr (by simp only [PyData.depth]; omega) hb
    refine ⟨_, a :: (b1 ++ b2), rr, ReadAtMost.cons rr (by simp only [PyData.depth]; omega) hb, ?_⟩
    simp only [PyData.depth, PyData.shown, PyData.shownKv_eq]
    exact ReprK.dict ho hc hd hsys hna (ReprEntriesK.of_two es.toList _ _
      (q3.more_le (fun b hb => List.mem_append_left _ hb) (PyData.depthAll_keys_le ds)) (t3.more_le (fun b hb => List.mem_append_right _ hb) (PyData.depthAll_vals_le ds)))
theorem DqAll.both (I : Inv X pins σ H s) : ∀ {vs : List V} {ds : List PyData} {us : List Value}, DqAll X.K H vs ds → Vals vs us → PyData.showableAll ds = true → (∀ t ∈ PyData.shownAll ds, t.length ≤ sizeLine) →
    ∃ as bs, ReadsAll s.heap us ds as ∧ ReadAtMost s.heap (PyData.depthAll ds) bs ∧ ReprAllK X.prog X.w bs s.heap (PyData.depthAll ds) us (PyData.shownAll ds)
  | _, _, _, .nil, r, _, _ => by
    cases r
    exact ⟨_, [], .nil, (fun _ h => nomatch h), .nil⟩
  | _, _, _, .cons (d := d) (ds := ds) h1 h2, r, hs, hz => by
    cases r with
    | cons r1 r2 =>
      have hs' : d.showable = true ∧ PyData.showableAll ds = true := by simpa [PyData.showableAll] using hs
      obtain ⟨a1, b1, q1, q2, q3⟩ := Dq.both I h1 r1 hs'.1 (hz _ (by simp only [PyData.shownAll]; exact List.mem_cons_self ..))
      obtain ⟨a2, b2, t1, t2, t3⟩ := DqAll.both I h2 r2 hs'.2 (fun t ht => hz t (by simp only [PyData.shownAll]; exact List.mem_cons_of_mem _ ht))
      refine ⟨_, b1 ++ b2, .cons q1 t1, ?_, ?_⟩
      · simp only [PyData.depthAll]
        exact (q2.mono (Nat.le_max_left _ _)).append (t2.mono (Nat.le_max_right _ _))
      · simp only [PyData.depthAll, PyData.shownAll]
        exact .cons ((q3.more fun b hb => List.mem_append_left _ hb).level_le (Nat.le_max_left _ _)) (t3.more_le (fun b hb => List.mem_append_right _ hb) (Nat.le_max_right _ _))
end
end
section
variable {X : Cx}
def rRepr (K : PySem.W.Frag) : List V → Hp → VK → Prop := fun xs H Q => ∃ x d, xs = [x] ∧ Dq K H x d ∧ d.showable = true ∧ d.shown.length ≤ sizeLine ∧ d.depth ≤ 60 ∧ Q (.str d.shown) H
/-- repr(x), x data; no repr is under way around -/
theorem call_reprQ (hg : X.A.guards = some []) (hu : X.A.units + 64 < cLine) : CallR X (.builtin "repr") (rRepr X.K) := by
  intro pins s σ H xs us Q I r h
  obtain ⟨x, d, rfl, hd, hs, hz, hdp, q⟩ := h
  obtain ⟨u, rfl, ru⟩ := vals1 r
  have fin : ∀ (h' : Heap) (t tk : Nat), (∀ b o, s.heap.get? b = some o → h'.get? b = some o) → EP X pins σ Q (.str d.shown t) { s with heap := h', toks := tk } := fun h' t tk k => ⟨.str d.shown, H, I.kept k, ⟨t, rfl⟩, q⟩
  cases hd with
  | non =>
    cases ru
    refine PySem.P.repr_of_none ?_
    have e := fin s.heap s.toks (s.toks + 1) fun _ _ q => q
    simpa only [PyData.shown] using e
  | bl b =>
    cases ru
    refine PySem.P.repr_of_bool ?_
    have e := fin s.heap s.toks (s.toks + 1) fun _ _ q => q
    simpa only [PyData.shown] using e
  | int i =>
    obtain ⟨t, rfl⟩ := ru
    refine PySem.P.repr_of_int (by simpa [PyData.showable] using hs) ?_
    have e := fin s.heap s.toks (s.toks + 1) fun _ _ q => q
    simpa only [PyData.shown] using e
  | str y =>
    obtain ⟨t, rfl⟩ := ru
    refine PySem.P.repr_of_str ?_ (by simpa only [PyData.shown] using hz)
    have e := fin s.heap s.toks (s.toks + 1) fun _ _ q => q
    simpa only [PyData.shown] using e
  | @lst a xs ds h1 h2 =>
    cases ru
    have hz' : (listText (PyData.shownAll ds)).length ≤ sizeLine := by simpa only [PyData.shown] using hz
    obtain ⟨its, rv, ⟨o, n, ho, hc, _, hd'⟩, _⟩ := I.list h1
    obtain ⟨as, bs, q1, q2, q3⟩ := DqAll.both I h2 rv (by simpa [PyData.showable] using hs) (fun t ht => Nat.le_trans (listText_mem_le ht) hz')
    have hna : a ∉ bs := not_mem_of_deeper (.list ho hc hd' q1) (by simp only [PyData.depth]; omega) q2
    simp only [PyData.depth] at hdp
    simp only [PyData.shown] at fin
    refine call_repr_slot (by omega) ⟨o, ho, hc⟩ F.slot_list_repr.toG ?_
    cases its with
    | nil =>
      cases q1
      simp only [PyData.shownAll, listText_nil] at fin
      exact call_list_repr_empty ⟨o, ho, hc⟩ ho hd' ⟨_, _, rfl, fin s.heap _ _ fun _ _ q => q⟩
    | cons y l =>
      exact call_list_reprK ho hc hd' hna (by simpa using q3.length_eq) (fun i y e => q3.item i y (by simpa using e)) (show X.A.in1.guards = some [] from hg) (fun b _ => Clear.nil b) (by show X.A.units + 1 + _ < cLine; omega) (fun _ _ q => q) (fun h' u tk k => ⟨_, _, rfl, fin h' u tk k⟩) hz'
  | @tup a xs ds h1 h2 =>
    cases ru
    have hz' : (tupleText (PyData.shownAll ds)).length ≤ sizeLine := by simpa only [PyData.shown] using hz
    obtain ⟨its, rv, ⟨o, ho, hc, n, hd'⟩, _⟩ := I.tuple h1
    obtain ⟨as, bs, q1, q2, q3⟩ := DqAll.both I h2 rv (by simpa [PyData.showable] using hs) (fun t ht => Nat.le_trans (tupleText_mem_le ht) hz')
    have hna : a ∉ bs := not_mem_of_deeper (.tuple ho hc hd' q1) (by simp only [PyData.depth]; omega) q2
    simp only [PyData.depth] at hdp
    simp only [PyData.shown] at fin
    refine call_repr_slot (by omega) ⟨o, ho, hc⟩ F.slot_tuple_repr ?_
    exact call_tuple_reprK ho hc hd' hna q3 (show X.A.in1.guards = some [] from hg) (fun b _ => Clear.nil b) (by show X.A.units + 1 + _ < cLine; omega) (fun _ _ q => q) (fun h' u tk k => ⟨_, _, rfl, fin h' u tk k⟩) hz'
  | @dct a kvs ds h1 h2 h3 =>
    cases ru
    have hz' : (dictText (PyData.shownKv ds)).length ≤ sizeLine := by simpa only [PyData.shown] using hz
    obtain ⟨hl, hsys, vs, rk, o, es, ep, ho, ⟨hc, _⟩, hd', _, hp, _⟩ := (show ObjOk X.prog X.w H s.heap a (.dK kvs) from I.hok a _ h1)
    obtain ⟨r1, r2⟩ := pairs_keys rk hp
    obtain ⟨s1, s2⟩ := PyData.showableKv_split ds (by simpa [PyData.showable] using hs)
    obtain ⟨a1, b1, q1, q2, q3⟩ := DqAll.both I h2 r1 s1 (fun t ht => let ⟨p, hp, hl⟩ := PyData.shownKv_key_le ds t ht; Nat.le_trans hl (Nat.le_trans (dictText_mem_le hp) hz'))
    obtain ⟨a2, b2, t1, t2, t3⟩ := DqAll.both I h3 r2 s2 (fun t ht => let ⟨p, hp, hl⟩ := PyData.shownKv_val_le ds t ht; Nat.le_trans hl (Nat.le_trans (dictText_mem_le hp) hz'))
    have hb : ReadAtMost s.heap (PyData.depthKv ds) (b1 ++ b2) := (q2.mono (PyData.depthAll_keys_le ds)).append (t2.mono (PyData.depthAll_vals_le ds))
    have hna : a ∉ b1 ++ b2 := not_mem_of_deeper (.dict ho hc hd' q1 t1) (by simp only [PyData.depth]; omega) hb
    simp only [PyData.depth] at hdp
    simp only [PyData.shown, PyData.shownKv_eq] at fin
    refine call_repr_slot (by omega) ⟨o, ho, hc⟩ F.slot_dict_repr ?_
    exact call_dict_reprK ho hc hd' hsys hna (ReprEntriesK.of_two es.toList _ _
      (q3.more_le (fun b hb => List.mem_append_left _ hb) (PyData.depthAll_keys_le ds)) (t3.more_le (fun b hb => List.mem_append_right _ hb) (PyData.depthAll_vals_le ds)))
      (show X.A.in1.guards = some [] from hg) (fun b _ => Clear.nil b) (by show X.A.units + 1 + _ < cLine; omega) (fun _ _ q => q) (fun h' u tk k => ⟨_, _, rfl, fin h' u tk k⟩) (by rw [← PyData.shownKv_eq]; exact hz')
end
end XR
/-! Defs that ask for a repr: their promise where no repr is under way around the call. -/
namespace XR
open PySem PySem.Spec L2
open PyProof.Rows hiding St
structure FnG (P : Program) (w : World) (K : PySem.W.Frag) (mg : Str → Option Value) (base : Heap) (k : Nat) (f : Addr) (fd : FuncData) (ps : List Str) (sp : Sp) : Prop where
  len : ∀ vs H Q E, sp vs H Q E → vs.length = ps.length
  run : ∀ (A : Around) (outer : List Env) (s : Shared) (H : Hp) (args : Args) (us : List Value) (vs : List V) (Q : VK) (E : XK), A.guards = some [] → Room k A → Env0 P w K mg base A outer s H → BindsTo s fd args (ps.zip us) → Vals vs us → sp vs H Q E →
    codeAny (model P w) A (.call (.ref f) args) (CR CX0 outer P w H s Q E) s
section
variable {P : Program} {w : World} {K : PySem.W.Frag} {mg : Str → Option Value} {base : Heap}
theorem FnG.of {k : Nat} {f : Addr} {fd : FuncData} {ps : List Str} {sp : Sp} (F : FnOk P w K mg base CX0 k f fd ps sp) : FnG P w K mg base k f fd ps sp :=
  ⟨F.len, fun A outer s H args us vs Q E _ hr he hb hv hs => F.run A outer s H args us vs Q E hr he hb hv hs⟩
/-- a def by its body; in the body the guards are none -/
theorem okG {x qual : Str} {st : Stmt} {f : Addr} {fd : FuncData} {N ps : List Str} {k : Nat} {sp : Sp} (F : Fun K x qual st f fd) (S : FnScope N ps (defScope st)) (len : ∀ vs H Q E, sp vs H Q E → vs.length = ps.length)
    (hbody : ∀ (cdv : Value) (A : Around) (outer : List Env) (s : Shared) (H : Hp) (vs : List V) (Q : VK) (E : XK), Room k (A.deeper (envOfC qual (defScope st) s.heap.objs.size f cdv)) → A.guards = some [] → sp vs H Q E →
      ∃ t, PSs (cxOf CX0 P w K mg base N qual (defScope st) f cdv A outer s H E).nox (defBody st) t ∧ t { nx := fun _ H' => Q .non H', rt := Q } (start N vs) H) : FnG P w K mg base (k + 1) f fd ps sp := by
  obtain ⟨oc, od, kV, doc, pm, an, cdv, ct, osl, rfl, lk, hcd⟩ := F.ex
  refine ⟨len, fun A outer s H args us vs Q E hg hr e0 hb r hsp => ?_⟩
  have hl := len _ _ _ _ hsp
  have k0 : ∀ b o, base.get? b = some o → s.heap.get? b = some o := fun b o e => (e0.bs b o e).1
  have KX : K.In s.heap := e0.mod.kin.keeps k0
  have par : ∀ y ∈ ps.zip us, (defScope st).names.lookup y.1 = some .local ∨ ((defScope st).names.lookup y.1 = some .cell ∧ ((cellsFrom (s.heap.objs.size + 1) (defScope st).names []).lookup y.1).isSome = true) := by
    rintro ⟨n, v⟩ hy
    rcases S.par n (List.of_mem_zip hy).1 with q | q
    · exact .inl q
    · exact .inr ⟨q, PySem.W.cellsFrom_some _ _ _ (.inl q)⟩
  refine codeAny_call_function hr.depth (KX _ _ lk) rfl S.co S.gen rfl
    (PySem.W.codeRec_of KX hcd) (hb _ _ _ _ ?_)
  refine wpAny_newFunctionEnv_cells S.kind par fun env he s1 xx => ?_
  subst he
  refine ⟨(e0.mod.nolimit.keeps k0).keeps xx.toInCall.keep, codeAny_func ?_⟩
  obtain ⟨t, ht, hq⟩ := hbody cdv A outer s H vs Q E (hr.deeper _) hg hsp
  have I : Inv (cxOf CX0 P w K mg base N qual (defScope st) f cdv A outer s H E) [] (start N vs) H s1 :=
    inv_start S hr.hd e0 hl r xx
  have tb := ht.nox
  refine wpAny_mono (tb.run [] s1 (start N vs) H _ I hq) (fun fl s' hs => ?_) fun e s' hs => hs
  cases fl with
  | ret u =>
    obtain ⟨v, σ', H', J, rv, q⟩ := hs
    exact ⟨v, H', J.os, J.bare, J.base, J.hok, rv, q⟩
  | next =>
    obtain ⟨σ', H', J, q⟩ := hs
    exact ⟨V.non, H', J.os, J.bare, J.base, J.hok, rfl, q⟩
  | brk =>
    obtain ⟨_, _, _, q⟩ := hs
    exact q.elim
  | cont =>
    obtain ⟨_, _, _, q⟩ := hs
    exact q.elim
end
section
variable {X : Cx} {k : Nat} {f : Addr} {fd : FuncData} {ps : List Str} {sp : Sp} {E : XK} {x : Str} {p pos : Pos} {e : Expr} {es : List Expr} {t : TA}
/-- the call of such a def -/
theorem pe_callG (F : FnG X.prog X.w X.K X.mg X.base k f fd ps sp) (hg : X.A.guards = some []) (hr : Room k X.A) (hgl : Gl X x) (hm : X.mg x = some (.ref f)) (hk : PySem.W.keepIn X.K (.ref f) = true) (hb : Binds X.K fd ps []) (ha : PA X (e :: es) t)
    (hdb : (x == ("__debug__" : Str)) = false := by decide) (he : starEach (e :: es) X.env = (false, eval e X.env) :: starEach es X.env := by rfl) (hpl : (backTo pos (starEach es X.env)).any (·.1) = false := by rfl) :
    PE X (.Call (.Name x p) (e :: es) [] pos) (tCall sp [] E0 t) := by
  refine ⟨fun pins s σ H Q I h => ?_⟩
  refine wpAny_Call_Name_kw (ld_glob I hgl hm ?_ hdb)
  refine PySem.W.callWith_K (h₀ := X.base) I.ok.mod.kin hk (thn (ha.run pos pins s σ H _ I h) fun us s1 ⟨vs, H1, I1, r, q⟩ => ⟨I1.kIn, ?_⟩) he hpl
  have q : sp vs H1 Q E0 := by simpa using q
  have hl : (us ++ []).length = ps.length := by rw [List.append_nil, ← r.length]; exact F.len _ _ _ _ q
  have hbt := hb s1 us I1.kIn hl
  rw [List.append_nil] at hbt
  refine wpAny_call (codeAny_mono (F.run X.A X.stack s1 H1 ⟨us, []⟩ us vs Q E0 hg hr I1.env0 hbt r q) fun r' s' hq => ?_)
  cases r' with
  | error e => exact False.elim hq
  | ok fl =>
    cases fl with
    | ret u => exact I1.after hq
    | next => exact False.elim hq
    | brk => exact False.elim hq
    | cont => exact False.elim hq
end
/-- the call of the law over the heap behind the top -/
theorem lawCallG {P : Program} {w : World} {K : PySem.W.Frag} {mg mb : Str → Option Value} {k : Nat} {fa a : Addr} {fd : FuncData} {x : Str} {sp : Sp} {s₁ : Shared} {vs : List Value} {ns : List Int}
    (KX : K.In s₁.heap) (h1 : s₁.heap.Ns mainGlobals mg) (h2 : s₁.heap.Ns builtinsNs mb) (h3 : ∀ x : Str, x ≠ "__name__" → mb x = bootBuiltins x) (h4 : s₁.heap.NoLimit) (h5 : s₁.gens = #[])
    (ha : s₁.heap.get? a = some { cls := .type "list", data := .seq vs.toArray }) (hi : IntsAre vs ns) (hl : ns.length ≤ sizeLine) (hr : Room k callerA)
    (F : ∀ base : Heap, K.In base → base.Ns mainGlobals mg → FnG P w K mg base k fa fd [x] sp) (hbind : ∀ (s : Shared) (u : Value), BindsTo s fd ⟨[u], []⟩ [(x, u)])
    (hsp : ∀ H : Hp, Only H → SqL K H a (ns.map V.int) → sp [.ref a] H (fun v _ => v = .bl true) fun _ _ _ => False) :
    codeAny (model P w) callerA (.call (.ref fa) ⟨[.ref a], []⟩) (fun r s' => r = .ok (.ret (.bool true)) ∧ OldK s₁.heap s'.heap ∧ s'.os = s₁.os ∧ AllBare s'.gens) s₁ := by
  have rv := vals_ints hi
  have lenV := hi.length
  have main : ∀ H : Hp, Only H → SqL K H a (ns.map V.int) → HOk P w H s₁.heap → (∀ b, H b ≠ none → b = a ∧ K.lookup a = none) →
      codeAny (model P w) callerA (.call (.ref fa) ⟨[.ref a], []⟩) (fun r s' => r = .ok (.ret (.bool true)) ∧ OldK s₁.heap s'.heap ∧ s'.os = s₁.os ∧ AllBare s'.gens) s₁ := by
    intro H hO hS hok hA
    have free : ∀ {b : Addr}, b ≠ a → H b = none := fun {b} hb => by
      cases q : H b with
      | none => rfl
      | some u => exact absurd (hA b (by rw [q]; exact Option.some_ne_none u)).1 hb
    have ns' : ∀ {b : Addr} {m : Str → Option Value}, s₁.heap.Ns b m → (hidT s₁.heap H).Ns b m := by
      rintro b m ⟨o, es, ep, e, d, r⟩
      have hb : b ≠ a := by
        rintro rfl
        rw [ha] at e
        cases e
        cases d
      exact ⟨o, es, ep, hidT_get e (free hb), d, r⟩
    have kb : K.In (hidT s₁.heap H) := fun b o e => by
      refine hidT_get (KX b o e) ?_
      cases q : H b with
      | none => rfl
      | some u =>
        obtain ⟨e1, e2⟩ := hA b (by rw [q]; exact Option.some_ne_none u)
        rw [e1, e2] at e
        cases e
    obtain ⟨mc, l1, l2⟩ := h4
    have M : Mod K mg (hidT s₁.heap H) := ⟨kb, ns' h1, ⟨mb, ns' h2, h3⟩, ⟨mc, ns' l1, l2⟩⟩
    have e0 : Env0 P w K mg (hidT s₁.heap H) callerA [] s₁ H :=
      ⟨rfl, M, fun b o e => of_hidT e, Nat.le_of_eq (hidT_size _ _), trivial, fun b hb => (List.not_mem_nil (a := b) hb).elim, hok, .of_eq h5⟩
    have run := (F _ kb (ns' h1)).run callerA [] s₁ H ⟨[.ref a], []⟩ [.ref a] [.ref a] _ _ rfl hr e0 (hbind s₁ (.ref a)) (.cons rfl .nil) (hsp H hO hS)
    refine codeAny_mono run fun r s' h => ?_
    cases r with
    | error e => exact False.elim h
    | ok fl =>
      cases fl with
      | next => exact False.elim h
      | brk => exact False.elim h
      | cont => exact False.elim h
      | ret u =>
        obtain ⟨v, H', os, bare, un, hok', r', q⟩ := h
        obtain rfl : v = V.bl true := q
        obtain rfl : u = Value.bool true := r'
        refine ⟨rfl, OldK.of_keep fun b o e => ?_, os, bare⟩
        rcases hO b with z | ⟨ob, xs, z⟩
        · exact un.keep b o e z (List.not_mem_nil (a := b)) (List.not_mem_nil (a := b))
        · obtain ⟨e1, _⟩ := hok b _ z
          obtain ⟨e2, _⟩ := hok' b _ (un.frzs b ob _ z)
          rw [e] at e1
          cases e1
          exact e2
  cases hk : K.lookup a with
  | some o =>
    have e := KX a o hk
    rw [ha] at e
    cases e
    exact main (fun _ => none) (fun _ => .inl rfl) (.inr ⟨_, vs.toArray, _, hk, rfl, rfl, rfl, by rw [List.size_toArray, lenV]; exact hl, by simpa using rv⟩) (fun b u z => nomatch z) fun b z => absurd rfl z
  | none =>
    have hT : ∀ {b : Addr} {u : HO}, (if b = a then some (HO.frz { cls := .type "list", data := .seq vs.toArray } (.lst (ns.map V.int))) else none) = some u → b = a ∧ u = .frz { cls := .type "list", data := .seq vs.toArray } (.lst (ns.map V.int)) := fun {b u} z => by
      by_cases hb : b = a
      · rw [if_pos hb] at z
        exact ⟨hb, (Option.some.inj z).symm⟩
      · rw [if_neg hb] at z
        cases z
    refine main (fun b => if b = a then some (.frz { cls := .type "list", data := .seq vs.toArray } (.lst (ns.map V.int))) else none) (fun b => ?_) (.inl (.inr ⟨_, if_pos rfl⟩)) (fun b u z => ?_) fun b z => ?_
    · by_cases hb : b = a
      · exact .inr ⟨_, _, if_pos hb⟩
      · exact .inl (if_neg hb)
    · obtain ⟨rfl, rfl⟩ := hT z
      exact ⟨ha, by rw [List.length_map]; exact hl, vs, _, rv, ha⟩
    · obtain ⟨u, hu⟩ := Option.ne_none_iff_exists'.mp z
      exact ⟨(hT hu).1, hk⟩
/-- the law's end, for such a promise -/
theorem walkG {l : PySem.W.OpenLaw} {n k : Nat} {q : Program} {loose : List Str} {XP : (Str → Option Value) → Heap → Prop} {YP : World → Heap → Prop} {d : DefRec} {K : Params → PySem.W.Frag} {sp : World → Sp} {x : Str}
    (hn : l.most = some n) (hn2 : n ≤ sizeLine) (hdf : d.params.defaults = []) (hr : Room k callerA) (hY : ∀ (w : World) (h : Heap), YP w h → (K w.params).In h)
    (F : ∀ (w : World) (mg : Str → Option Value) (fa : Addr) (h : Heap), (K w.params).In h → h.Ns mainGlobals mg → mg d.name = some (.ref fa) →
      ∃ fd : FuncData, (∀ (s : Shared) (u : Value), BindsTo s fd ⟨[u], []⟩ [(x, u)]) ∧ ∀ base : Heap, (K w.params).In base → base.Ns mainGlobals mg → FnG l.prog w (K w.params) mg base k fa fd [x] (sp w))
    (hsp : ∀ (w : World) (H : Hp) (a : Addr) (ns : List Int), ns.length ≤ n → Only H → SqL (K w.params) H a (ns.map V.int) → sp w [.ref a] H (fun v _ => v = .bl true) fun _ _ _ => False) :
    PySem.W.WalkO q loose XP YP l.row.toRowW d [] (fun f vs => PySem.call f vs) := by
  refine Att.attach_call hn hdf fun w s₀ s₁ mg mb fa o pm cd doc a vs ns G Y ho hd hcd hmg hobj hints hlen hg => ?_
  obtain ⟨fd, hb, hF⟩ := F w mg fa _ (hY w _ Y) G.T.g hmg
  exact lawCallG (hY w _ Y) G.T.g G.T.b G.T.builtins G.T.nolimit hg hobj hints (Nat.le_trans hlen hn2) hr hF hb fun H hO hS => hsp w H a ns hlen hO hS
end XR
/-! Exceptions of the text as values: made, their fields read, isinstance of them. -/
namespace XR
open PySem PySem.Spec L2
/-- an exception of the class at C with the fields fs, newest first -/
def ExAt (H : Hp) (e C : Addr) (fs : List (Str × V)) : Prop := (fs = [] ∧ H e = some (exo e C none)) ∨ ∃ dx, H e = some (exo e C (some dx)) ∧ H dx = some (exd dx fs)
theorem ExAt.same {H H' : Hp} {e C : Addr} {fs : List (Str × V)} (s : Same H H') (h : ExAt H e C fs) : ExAt H' e C fs := by
  rcases h with ⟨h1, h2⟩ | ⟨dx, h1, h2⟩
  · exact .inl ⟨h1, s _ _ h2⟩
  · exact .inr ⟨dx, s _ _ h1, s _ _ h2⟩
abbrev FV : List (Str × V) → List (Str × Value) → Prop := Paired fun p q => p.1 = q.1 ∧ RelV p.2 q.2
theorem FV.rel : ∀ {fs : List (Str × V)} {gs : List (Str × Value)}, FV fs gs → ∀ f, RelO (fs.lookup f) (gs.lookup f)
  | _, _, .nil, _ => True.intro
  | (a, v) :: fs, (b, u) :: gs, .cons ⟨h1, h2⟩ t, f => by
    have h1 : a = b := h1
    subst h1
    by_cases q : f = a
    · subst q
      simp only [List.lookup, beq_self_eq_true]
      exact h2
    · have q' : (f == a) = false := by simpa using q
      simp only [List.lookup, q']
      exact FV.rel t f
theorem FV.nil_iff {fs : List (Str × V)} {gs : List (Str × Value)} (h : FV fs gs) : gs = [] → fs = [] := fun e => by
  subst e
  cases h
  rfl
section
variable {X : Cx} {pins : List (Addr × Obj)} {σ : St} {H : Hp} {h h' : Heap} {g : Array GenState} {d : Drawn} {t tk : Nat} {os : OsState} {e C L : Addr} {fs : List (Str × V)} {gs : List (Str × Value)}
theorem laidX (I : Inv X pins σ H ⟨h, g, d, t, os⟩) (k : ∀ b o, h.get? b = some o → h'.get? b = some o) (he : h.objs.size ≤ e) (F : Fl h.objs.size L e C gs h') (r : FV fs gs) :
    ∃ H2, Same H H2 ∧ ExAt H2 e C fs ∧ Inv X pins σ H2 ⟨h', g, d, tk, os⟩ := by
  have ne : H e = none := I.hok.fresh he
  obtain ⟨t1, ⟨hf, ho⟩ | ⟨dx, hf, hd0, hde, hdL, ho, hns⟩⟩ := F
  · subst hf
    have e2 := r.nil_iff rfl
    subst e2
    refine ⟨upd H e (exo e C none), fun b o q => by rw [upd_ne (ne_of_none q ne)]; exact q, .inl ⟨rfl, upd_same⟩, ?_⟩
    exact I.laid (t' := tk) k he (exo_ok ho)
  · have nd : H dx = none := I.hok.fresh hd0
    have sm : Same H (upd (upd H dx (exd dx fs)) e (exo e C (some dx))) := fun b o q => by
      rw [upd_ne (ne_of_none q ne), upd_ne (ne_of_none q nd)]
      exact q
    refine ⟨_, sm, .inr ⟨dx, upd_same, by rw [upd_ne hde]; exact upd_same⟩, ?_⟩
    have lt : ∀ {b : Addr} {o : Obj}, h.get? b = some o → b ≠ e ∧ b ≠ dx := fun {b o} q => ⟨Nat.ne_of_lt (Nat.lt_of_lt_of_le (Heap.lt_size q) he), Nat.ne_of_lt (Nat.lt_of_lt_of_le (Heap.lt_size q) hd0)⟩
    have U : Un X.fs [] H (upd (upd H dx (exd dx fs)) e (exo e C (some dx))) h h' := {
      keep := fun b o q _ _ _ => k b o q
      slot := fun b o q _ _ _ => ⟨o.slots, k b o q⟩
      free := fun b o q n _ => by rw [upd_ne (lt q).1, upd_ne (lt q).2]; exact n
      there := fun b o q _ => ⟨o, k b o q⟩
      tups := fun b xs q => sm _ _ q
      frzs := fun b o u q => sm _ _ q
      tbls := fun b ps q => ⟨#[], by rw [sm _ _ q]; simp⟩ }
    refine I.un (t' := tk) U fun b o q => ?_
    by_cases hb : b = e
    · subst hb
      rw [upd_same] at q
      cases q
      exact exo_ok ho
    · rw [upd_ne hb] at q
      by_cases hd : b = dx
      · subst hd
        rw [upd_same] at q
        cases q
        exact exd_ok hns r.rel
      · rw [upd_ne hd] at q
        exact (I.hok b o q).stay (fun c v _ z => k c v z) (fun c z => sm _ _ z) fun c xs z => sm _ _ z
end
/-- how the class at C is made by a call with n arguments: by position, or by the keywords ks -/
def argsX (kw : Option (List Str)) (e : Addr) (us : List Value) : Args := match kw with
  | none => ⟨.ref e :: us, []⟩
  | some ks => ⟨[.ref e], ks.zip us⟩
structure MkX (K : PySem.W.Frag) (P : Program) (C : Addr) (kw : Option (List Str)) (n : Nat) (fv : List V → List (Str × V)) : Prop where
  n1 : n ≤ 100
  ex : ∃ fI cc cda B newId initId bmB fd txt k p0 p1 p2 p3 p4 p5, ∃ (l : List Value → List Sto) (gb : List Value → List (Str × Value)), XCls K P C fI cc cda B newId initId bmB fd ∧
    (∀ us, us.length = n → Shape P fd fI cda cc txt k p0 p1 p2 p3 p4 p5 (l us) ∧ (l us).length ≤ 900 ∧ (∀ e s, BindsTo s fd (argsX kw e us) (("self", .ref e) :: gb us)) ∧
      (∀ e, ∀ x ∈ (((("self" : Str), Value.ref e) :: gb us) : List (Str × Value)), fd.scope.names.lookup x.1 = some .local) ∧ (∀ e : Addr, (((("self" : Str), Value.ref e) :: gb us) : List (Str × Value)).reverse.lookup ("self" : Str) = some (Value.ref e)) ∧
      (∀ e : Addr, ∀ x ∈ l us, (((("self" : Str), Value.ref e) :: gb us) : List (Str × Value)).reverse.lookup x.p = some x.v ∧ PySem.W.takerIn K C x.f = some none) ∧
      ∀ vs, Vals vs us → FV (fv vs) ((l us).map fun x => (x.f, x.v)).reverse)
section
variable {X : Cx} {k n : Nat} {C : Addr} {fv : List V → List (Str × V)} {x : Str} {p pos : Pos} {e : Expr} {es : List Expr} {t tk : TA} {ks : List Str} {kws : List Keyword} {mb : Str → Option Value}
/-- the call of the class, its arguments at hand -/
theorem runX {pins : List (Addr × Obj)} {σ : St} {H : Hp} {s : Shared} {Q : VK} {kw : Option (List Str)} {us : List Value} {vs : List V} (T : MkX X.K X.prog C kw n fv) (hr : Room 2 X.A) (hsup : X.mg "super" = none) (I : Inv X pins σ H s) (r : Vals vs us) (hl : us.length = n)
    (q : ∀ H2 e, Same H H2 → H e = none → ExAt H2 e C (fv vs) → Q (.ref e) H2) :
    wpAny (model X.prog X.w) X.A (match kw with | none => call (.ref C) us | some ks => call (.ref C) [] (ks.zip us)) (EP X pins σ Q) X.xe s := by
  obtain ⟨fI, cc, cda, B, newId, initId, bmB, fd, txt, kk, p0, p1, p2, p3, p4, p5, l, gb, T1, T2⟩ := T.ex
  obtain ⟨S, hl9, bt, hloc, hself, hx, hfv⟩ := T2 us hl
  obtain ⟨mb, hb, hbb⟩ := I.ok.mod.blt
  have hn : us.length ≤ sizeLine := by rw [hl, sizeLine_eq]; have := T.n1; omega
  have m2 : mb "super" = some (.type "super") := (hbb _ (by decide +kernel)).trans (by decide +kernel)
  obtain ⟨h, g, d, t, os⟩ := s
  have hm := I.ok.mod.glob.keeps I.bk
  have hb' := hb.keeps I.bk
  have dep : ∀ us kw, (X.A.under (.builtin "type.__call__" ⟨.ref C :: us, kw⟩)).depth < recursionLimit := fun us kw => by
    have := hr.dp
    rw [make_depth]
    omega
  have fin : ∀ h' tk L, (∀ b o, h.get? b = some o → h'.get? b = some o) → Fl h.objs.size L (h.objs.size + 1) C ((l us).map fun x => (x.f, x.v)).reverse h' → EP X pins σ Q (.ref (h.objs.size + 1)) ⟨h', g, d, tk, os⟩ := fun h' tk L kp F => by
    obtain ⟨H2, sm, ea, J⟩ := laidX (tk := tk) I kp (Nat.le_succ _) F (hfv vs r)
    exact ⟨.ref (h.objs.size + 1), H2, J, rfl, q H2 _ sm (I.hok.fresh (Nat.le_succ _)) ea⟩
  cases kw with
  | none => exact made T1 S hl9 I.kIn hm hb' hsup m2 I.nolimit (dep _ _) hn (bt _) (hloc _) (hself _) (hx _) fin
  | some ks => exact made (us := []) T1 S hl9 I.kIn hm hb' hsup m2 I.nolimit (dep _ _) (Nat.zero_le _) (bt _) (hloc _) (hself _) (hx _) fin
def tMkX (C : Addr) (n : Nat) (fv : List V → List (Str × V)) (t : TA) : TE := fun σ H Q => t σ H fun vs H1 => vs.length = n ∧ ∀ H2 e, Same H1 H2 → H1 e = none → ExAt H2 e C (fv vs) → Q (.ref e) H2
/-- C(e, ..) -/
theorem pe_mkX (T : MkX X.K X.prog C none n fv) (hk : PySem.W.keepIn X.K (.ref C) = true) (hr : Room 2 X.A) (hsup : X.mg "super" = none) (hg : Gl X x) (hm : X.mg x = some (.ref C)) (ha : PA X (e :: es) t)
    (hdb : (x == ("__debug__" : Str)) = false := by decide) (he : starEach (e :: es) X.env = (false, eval e X.env) :: starEach es X.env := by rfl) (hpl : (backTo pos (starEach es X.env)).any (·.1) = false := by rfl) :
    PE X (.Call (.Name x p) (e :: es) [] pos) (tMkX C n fv t) := by
  refine ⟨fun pins s σ H Q I h => ?_⟩
  refine wpAny_Call_Name_kw (ld_glob I hg hm ?_ hdb)
  refine PySem.W.callWith_K (h₀ := X.base) I.ok.mod.kin hk (thn (ha.run pos pins s σ H _ I h) fun us s1 ⟨vs, H1, I1, r, hl, q⟩ => ⟨I1.kIn, ?_⟩) he hpl
  exact runX (kw := none) T hr hsup I1 r (r.length.symm.trans hl) q
/-- C() -/
theorem pe_mkX0 (T : MkX X.K X.prog C none 0 fv) (hk : PySem.W.keepIn X.K (.ref C) = true) (hr : Room 2 X.A) (hsup : X.mg "super" = none) (hg : Gl X x) (hm : X.mg x = some (.ref C))
    (hdb : (x == ("__debug__" : Str)) = false := by decide) : PE X (.Call (.Name x p) [] [] pos) (tMkX C 0 fv tNil) := by
  refine ⟨fun pins s σ H Q I h => ?_⟩
  refine wpAny_Call_Name_kw (ld_glob I hg hm ?_ hdb)
  obtain ⟨_, q⟩ := h
  exact PySem.W.callWith_K0 I.kIn hk (runX T hr hsup I .nil rfl q)
/-- C(k = e, ..) -/
theorem pe_mkXK (T : MkX X.K X.prog C (some ks) n fv) (hk : PySem.W.keepIn X.K (.ref C) = true) (hr : Room 2 X.A) (hsup : X.mg "super" = none) (hg : Gl X x) (hm : X.mg x = some (.ref C)) (hkw : PK X kws tk)
    (hall : (backToKw pos (keywordEach kws X.env)).all (·.1.isSome) = true := by rfl) (hks : (backToKw pos (keywordEach kws X.env)).filterMap (·.1) = ks := by rfl)
    (hdb : (x == ("__debug__" : Str)) = false := by decide) (hpl : ((backTo pos (starEach [] X.env)).any (·.1) || (backToKw pos (keywordEach kws X.env)).any (·.1.isNone)) = false := by rfl) :
    PE X (.Call (.Name x p) [] kws pos) (tMkX C n fv tk) := by
  refine ⟨fun pins s σ H Q I h => ?_⟩
  refine wpAny_Call_Name_kw (ld_glob I hg hm ?_ hdb)
  refine PySem.W.callWith_KW0 (h₀ := X.base) I.ok.mod.kin hk hall (thn (hkw.run pos pins s σ H _ I h) fun us s1 ⟨vs, H1, I1, r, hl, q⟩ => ⟨I1.kIn, ?_⟩) hpl
  rw [hks]
  exact runX (kw := some ks) T hr hsup I1 r (r.length.symm.trans hl) q
end
/-- what the written part says of a class of exceptions, for its fields and isinstance -/
structure ClsR (K : PySem.W.Frag) (C : Addr) : Prop where
  cl : (PySem.W.clsIn K C).isSome = true
  ga : PySem.W.findIn K (.ref C) "__getattribute__" = some (some (.builtin "BaseException.__getattribute__"))
  gt : PySem.W.findIn K (.ref C) "__getattr__" = some none
  sb : PySem.W.subIn K (.ref C) (.type "BaseException") = some true
  di : PySem.W.hasDictIn K C = true
  ca : PySem.W.findIn K (.ref C) "__class__" = some (some (.builtin "object.__class__"))
  sp : PySem.W.specialIn K (.builtin "object.__class__") "__get__" = some (some (.builtin "getset_descriptor.__get__"))
  tk : PySem.W.takesIn K (.builtin "object.__class__") = some true
  mo : PySem.W.mroIn K C (.type "object") = some true
section
variable {X : Cx} {pins : List (Addr × Obj)} {σ : St} {H : Hp} {s : Shared} {a C : Addr} {fs : List (Str × V)}
theorem instX (I : Inv X pins σ H s) (h : ExAt H a C fs) : ∃ (ox : Obj) (od : Option Obj), PySem.W.InstAt s.heap a ox C od ∧ ∀ v, fs.lookup v ≠ none → ∃ o, od = some o ∧ ∃ m : Str → Option Value, (∀ f, RelO (fs.lookup f) (m f)) ∧ ∀ f, PySem.W.lookIn f o = some (m f) := by
  rcases h with ⟨rfl, h⟩ | ⟨dx, h1, h2⟩
  · obtain ⟨t1, ho⟩ := exo_at I.hok h
    exact ⟨_, none, ⟨ho, rfl, rfl, trivial⟩, fun v hv => absurd rfl hv⟩
  · obtain ⟨t1, ho⟩ := exo_at I.hok h1
    obtain ⟨m, hn, hr⟩ := exd_at I.hok h2
    obtain ⟨od, hod, hl⟩ := lookIn_ns hn
    exact ⟨_, some od, ⟨ho, rfl, rfl, hod⟩, fun v _ => ⟨od, rfl, m, hr, hl⟩⟩
variable {e : Expr} {f : Str} {pos : Pos} {ta : TE}
def tExF (K : PySem.W.Frag) (ta : TE) (f : Str) : TE := fun σ H Q => ta σ H fun x H1 => ∃ a C fs v, x = .ref a ∧ ExAt H1 a C fs ∧ ClsR K C ∧ PySem.W.findIn K (.ref C) f = some none ∧ fs.lookup f = some v ∧ Q v H1
/-- e.f of an exception -/
theorem pe_exf (he : PE X e ta) (hb : attributeBase e f X.env (eval e X.env) = eval e X.env) : PE X (.Attribute e f pos) (tExF X.K ta f) := by
  refine ⟨fun pins s σ H Q I h => ?_⟩
  refine attr_of hb (thn (he.run pins s σ H _ I h) fun u s1 ⟨x, H1, I1, rx, a, C, fs, v, ex, ea, T, nf, l, q⟩ => ?_)
  subst ex
  obtain rfl : u = Value.ref a := rx
  obtain ⟨ox, od, J, hf⟩ := instX I1 ea
  obtain ⟨o, rfl, m, hr, hl⟩ := hf f (by rw [l]; exact Option.some_ne_none v)
  have hm := hr f
  rw [l] at hm
  obtain ⟨u, hu, ru⟩ := RelO.some_of hm
  have hl' := hl f
  rw [hu] at hl'
  refine PySem.PX.exc_get I1.kIn J T.ga T.gt T.sb (PySem.W.findObj_own T.di nf rfl hl') (handed_of ru) ?_
  exact ⟨v, H1, I1.tok _, ru, q⟩
/-- isinstance(e, c) -/
def rIsX (K : PySem.W.Frag) : List V → Hp → VK → Prop := fun xs H Q => ∃ (a C : Addr) (fs : List (Str × V)) (c : V) (cv : Value) (b : Bool), xs = [.ref a, c] ∧ ExAt H a C fs ∧ ClsR K C ∧ (∀ u, RelV c u → u = cv) ∧ PySem.W.kitOne K (.ref C) cv = some b ∧ Q (.bl b) H
theorem call_isX : CallR X (.builtin "isinstance") (rIsX X.K) := by
  intro pins s σ H xs us Q I r h
  obtain ⟨a, C, fs, c, cv, b, rfl, ea, T, hc, e, q⟩ := h
  obtain ⟨u1, u2, rfl, r1, r2⟩ := vals2 r
  cases r1
  obtain rfl := hc _ r2
  obtain ⟨ox, od, J, _⟩ := instX I ea
  exact PySem.W.kia_one (PySem.W.kitx_exc T.cl T.ga T.gt T.sb T.ca T.sp T.tk T.mo) I.kIn J e (fun z => nomatch z) fun tk => ⟨.bl b, H, I.kept (t' := tk) fun _ _ z => z, rfl, q⟩
end
end XR
/-! Law-independent: heaps alike but for one address, the pot of a law, what its draws promise. -/
namespace XR
open PySem L2
/-- all but a is as it was -/
def But (a : Addr) (H H' : Hp) : Prop := ∀ b o, H b = some o → b ≠ a → H' b = some o
theorem But.refl (a : Addr) (H : Hp) : But a H H := fun _ _ h _ => h
theorem But.trans {a : Addr} {H H1 H2 : Hp} (x : But a H H1) (y : But a H1 H2) : But a H H2 := fun b o h n => y b o (x b o h n) n
theorem But.same {a : Addr} {H H1 H2 : Hp} (x : But a H H1) (y : Same H1 H2) : But a H H2 := fun b o h n => y b o (x b o h n)
theorem same_upd {H : Hp} {p : Addr} {o : HO} (h : H p = none) : Same H (upd H p o) := fun b u e => by
  rw [upd_ne (ne_of_none e h)]
  exact e
theorem But.del {a : Addr} {H H' : Hp} (x : But a H H') : Same (L2.del H a) (L2.del H' a) := fun b o h => by
  by_cases e : b = a
  · rw [e, del_same] at h; cases h
  · rw [del_ne e] at h ⊢
    exact x b o h e
theorem del_sub {a : Addr} {H : Hp} : Same (L2.del H a) H := fun b o h => by
  by_cases e : b = a
  · rw [e, del_same] at h; cases h
  · rw [del_ne e] at h
    exact h
def PotAt (H : Hp) (a : Addr) : Prop := ∃ p q : Int, H a = some (.lst [.int p, .int q]) ∧ 0 ≤ p ∧ 0 ≤ q ∧ q < 2147483647
def spPot (K : PySem.W.Frag) : Sp := fun vs H Q _ => ∃ (a : Addr) (ns : List Int) (k : Nat), vs = [.ref a, .int k] ∧ SqL K H a (ns.map V.int) ∧ ns.length ≤ 63 ∧ k ≤ 100 ∧
  ∀ p H', Same H H' → H p = none → PotAt H' p → Q (.ref p) H'
def spDraw : Sp := fun vs H Q _ => ∃ (a : Addr) (m : Int), vs = [.ref a, .int m] ∧ PotAt H a ∧ 0 < m ∧ m ≤ 1000 ∧
  ∀ (r : Int) H', 0 ≤ r → r < m → PotAt H' a → But a H H' → Q (.int r) H'
def spPick : Sp := fun vs H Q _ => ∃ (a b : Addr) (xs : List V), vs = [.ref a, .ref b] ∧ PotAt H a ∧ H b = some (.lst xs) ∧ a ≠ b ∧ 0 < xs.length ∧ xs.length ≤ 1000 ∧
  ∀ (x : V) H', x ∈ xs → PotAt H' a → But a H H' → Q x H'
theorem int_of_map {ns : List Int} {i : Nat} (h : i < ns.length) : (ns.map V.int)[i]? = some (V.int (ns.getD i 0)) := by
  rw [List.getElem?_map, List.getD_eq_getElem?_getD]
  rw [List.getElem?_eq_getElem h]
  rfl
end XR
namespace K62
open PySem L2 XR
def top (i : Nat) : Stmt := PySem.Challenge.pw_alldiffs_k62_origins_and_fates.main.body.getD i (.Pass ⟨0, 0, 0, 0⟩)
abbrev sPot : Stmt := top 39
abbrev sDraw : Stmt := top 40
abbrev sPick : Stmt := top 41
structure Blt (mg : Str → Option Value) : Prop where
  all : ∀ x : Str, x ∈ (["len", "abs", "max", "min", "int", "divmod", "repr", "isinstance", "enumerate", "range", "all", "super", "zip", "tuple", "dict", "bool", "str", "list"] : List Str) → mg x = none
def Blt.len {mg : Str → Option Value} (T : Blt mg) : mg "len" = none := T.all _ (by decide)
def Blt.abs {mg : Str → Option Value} (T : Blt mg) : mg "abs" = none := T.all _ (by decide)
def Blt.max {mg : Str → Option Value} (T : Blt mg) : mg "max" = none := T.all _ (by decide)
def Blt.min {mg : Str → Option Value} (T : Blt mg) : mg "min" = none := T.all _ (by decide)
def Blt.int {mg : Str → Option Value} (T : Blt mg) : mg "int" = none := T.all _ (by decide)
def Blt.divmod {mg : Str → Option Value} (T : Blt mg) : mg "divmod" = none := T.all _ (by decide)
def Blt.range {mg : Str → Option Value} (T : Blt mg) : mg "range" = none := T.all _ (by decide)
def Blt.enum {mg : Str → Option Value} (T : Blt mg) : mg "enumerate" = none := T.all _ (by decide)
section
variable {P : Program} {w : World} {K : PySem.W.Frag} {mg : Str → Option Value} {base : Heap}
theorem scPot : FnScope ["_law_script", "_law_index", "_law_cell"] ["_law_script", "_law_index"] (defScope sPot) := ⟨rfl, rfl, rfl, by decide +kernel, rfl, by decide +kernel, by decide +kernel⟩
theorem ok_pot {f : Addr} {fd : FuncData} (F : Fun K "_law_pot" "_law_pot" sPot f fd) (T : Blt mg) : FnOk P w K mg base CX0 1 f fd ["_law_script", "_law_index"] (spPot K) := by
  refine F.ok scPot (fun vs H Q E h => ?_) (fun cdv A outer s H vs Q E hr h => ?_)
  · obtain ⟨a, ns, k, rfl, _⟩ := h
    rfl
  · obtain ⟨a, ns, k, rfl, hS, hn, hk, q⟩ := h
    refine ⟨_, pss_cons (ps_set (i := 2) scPot.nd rfl (.inl rfl) (pe_ifExp (pt_cmpR op_lt (pv 1) (pe_callB call_len_seq (by rfl) T.len PySem.boot_len (pa_cons (pv 0) pa_nil)) (nomark _))
        (pe_callB call_abs (by rfl) T.abs (by decide +kernel) (pa_cons (pe_ix ix_list (pv 0) (pv 1) (fun _ _ => rfl)) pa_nil))
        (pe_op op_add (pe_op op_mul pe_int (pv 1)) pe_int)))
      (pss_one (ps_ret (pe_lst (pa_cons (pe_callB (call_max2 rfl) (by rfl) T.max (by decide +kernel) (pa_cons pe_int (pa_cons (pe_op op_sub (pv 2) (pe_op op_pow pe_int pe_int)) pa_nil)))
        (pa_cons (pe_op op_mod (pe_callTy call_int1 (by rfl) T.int (by decide +kernel) (pa_cons (pe_op op_add (pe_op op_add (pe_op op_mul (pe_op op_mod (pe_callTy call_int1 (by rfl) T.int (by decide +kernel) (pa_cons (pv 2) pa_nil)) pe_int) pe_int) (pe_op op_mul pe_int (pv 1))) pe_int) pa_nil)) pe_int) pa_nil))))), ?_⟩
    refine ⟨_, rfl, _, rfl, a, _, rfl, .inl hS, _, _, rfl, rfl, _, rfl, ?_⟩
    refine ite2 (fun h1 => ?_) (fun h1 => ?_)
    · have h2 : k < ns.length := by
        have h3 := of_decide_eq_true h1
        rw [List.length_map] at h3
        omega
      refine ⟨_, rfl, _, rfl, a, _, _, _, rfl, rfl, hS, atI_nat (int_of_map h2), _, rfl, ?_⟩
      have hc : (0 : Int) ≤ (if ns.getD k 0 < 0 then -(ns.getD k 0) else ns.getD k 0) := by split <;> omega
      revert hc
      generalize (if ns.getD k 0 < 0 then -(ns.getD k 0) else ns.getD k 0) = c
      intro hc
      refine ⟨_, rfl, _, _, rfl, rfl, ⟨by decide, by decide, by decide⟩, _, _, rfl, rfl, _, _, rfl, _, rfl, .inl ⟨_, rfl, _, _, rfl, rfl, by show (0 : Int) < 2147483563; decide, _, _, rfl, rfl, .inr ⟨by decide, by decide⟩, _, rfl, _, _, rfl, rfl, .inl ⟨by decide, by decide⟩, _, _, rfl, rfl, _, _, rfl, rfl,
        .inl ⟨_, rfl, _, _, rfl, rfl, by show (0 : Int) < 2147483629; decide, by show 2 ≤ sizeLine; decide, fun p hp => ?_⟩⟩⟩
      refine q p _ (same_upd hp) hp ⟨_, _, upd_same, ?_, Int.emod_nonneg _ (by decide), Int.lt_of_lt_of_le (Int.emod_lt_of_pos _ (show (0 : Int) < 2147483629 by decide)) (by decide)⟩

      split <;> omega
    · refine ⟨_, rfl, _, _, rfl, rfl, .inl ⟨by decide, by decide⟩, _, _, rfl, rfl, ?_⟩
      refine ⟨_, rfl, _, _, rfl, rfl, ⟨by decide, by decide, by decide⟩, _, _, rfl, rfl, _, _, rfl, _, rfl, .inl ⟨_, rfl, _, _, rfl, rfl, by show (0 : Int) < 2147483563; decide, _, _, rfl, rfl, .inr ⟨by decide, by decide⟩, _, rfl, _, _, rfl, rfl, .inl ⟨by decide, by decide⟩, _, _, rfl, rfl, _, _, rfl, rfl,
        .inl ⟨_, rfl, _, _, rfl, rfl, by show (0 : Int) < 2147483629; decide, by show 2 ≤ sizeLine; decide, fun p hp => ?_⟩⟩⟩
      refine q p _ (same_upd hp) hp ⟨_, _, upd_same, ?_, Int.emod_nonneg _ (by decide), Int.lt_of_lt_of_le (Int.emod_lt_of_pos _ (show (0 : Int) < 2147483629 by decide)) (by decide)⟩

      split <;> omega
theorem scDraw : FnScope ["_law_pot_here", "_law_many", "_law_digit"] ["_law_pot_here", "_law_many"] (defScope sDraw) := ⟨rfl, rfl, rfl, by decide +kernel, rfl, by decide +kernel, by decide +kernel⟩
theorem ok_draw {f : Addr} {fd : FuncData} (F : Fun K "_law_draw" "_law_draw" sDraw f fd) (T : Blt mg) : FnOk P w K mg base CX0 1 f fd ["_law_pot_here", "_law_many"] spDraw := by
  refine F.ok scDraw (fun vs H Q E h => ?_) (fun cdv A outer s H vs Q E hr h => ?_)
  · obtain ⟨a, m, rfl, _⟩ := h
    rfl
  · obtain ⟨a, m, rfl, ⟨p, q, ha, hp, hq, hq2⟩, hm, hm2, z⟩ := h
    refine ⟨_, pss_cons (ps_if (pt_cmpR op_gt (pe_ix ix_list (pv 0) pe_int (fun _ _ => rfl)) pe_int (nomark _))
        (pss_cons (ps_asg (pe_callB call_divmod (by rfl) T.divmod (by decide +kernel) (pa_cons (pe_ix ix_list (pv 0) pe_int (fun _ _ => rfl)) (pa_cons (pv 1) pa_nil)))
            (pg_tup rfl (pgs_cons (pg_sub (pv 0) pe_int set_list) (pgs_cons (pg_name (i := 2) scDraw.nd rfl (.inl rfl)) pgs_nil))))
          (pss_one (ps_ret (pv 2))))
        pss_nil)
      (pss_cons (ps_asg (pe_op op_mod (pe_callTy call_int1 (by rfl) T.int (by decide +kernel) (pa_cons (pe_op op_add (pe_op op_mul (pe_ix ix_list (pv 0) pe_int (fun _ _ => rfl)) pe_int) pe_int) pa_nil)) pe_int) (pg_sub (pv 0) pe_int set_list))
      (pss_one (ps_ret (pe_op op_mod (pe_callTy call_int1 (by rfl) T.int (by decide +kernel) (pa_cons (pe_op op_fdiv (pe_op op_mod (pe_callTy call_int1 (by rfl) T.int (by decide +kernel) (pa_cons (pe_op op_mul (pe_ix ix_list (pv 0) pe_int (fun _ _ => rfl)) (pe_ix ix_list (pv 0) pe_int (fun _ _ => rfl))) pa_nil)) pe_int) pe_int) pa_nil)) (pv 1))))), ?_⟩
    refine ⟨_, rfl, a, _, _, _, rfl, rfl, .inl (.inl ha), atI_nat (j := 0) rfl, _, _, rfl, rfl, _, rfl, ?_⟩
    refine ite2 (fun h1 => ?_) (fun h1 => ?_)
    · refine ⟨_, rfl, a, _, _, _, rfl, rfl, .inl (.inl ha), atI_nat (j := 0) rfl, _, rfl, _, _, rfl, ⟨hm, by omega⟩, fun t ht => ?_⟩
      refine ⟨t, _, rfl, .inl (.inl upd_same), rfl, ?_⟩
      have hat : a ≠ t := ne_of_none ha ht
      refine ⟨_, _, rfl, _, rfl, a, _, _, 0, rfl, rfl, (by rw [upd_ne hat]; exact ha), rfl, ?_⟩
      refine ⟨_, _, rfl, rfl, _, rfl, ?_⟩
      have hp1 : (0 : Int) < p := of_decide_eq_true h1
      refine z (p % m) _ (Int.emod_nonneg _ (by omega)) (Int.emod_lt_of_pos _ hm) ⟨p / m, q, upd_same, Int.ediv_nonneg hp (by omega), hq, hq2⟩ fun b o hb hn => ?_
      rw [upd_ne hn, upd_ne (ne_of_none hb ht)]
      exact hb
    · have m1 : (0 : Int) < 2147483629 := by decide
      have m2 : (0 : Int) < 2147483587 := by decide
      refine ⟨_, rfl, a, _, _, _, rfl, rfl, .inl (.inl ha), atI_nat (j := 1) rfl, _, _, rfl, rfl, .inr ⟨by decide, by decide⟩, _, _, rfl, rfl, .inl ⟨_, rfl, _, _, rfl, rfl, m1, _, rfl, a, _, _, 1, rfl, rfl, ha, rfl, ?_⟩⟩
      have q0 : 0 ≤ (q * 48271 + 11) % 2147483629 := Int.emod_nonneg _ (by decide)
      have q1 : (q * 48271 + 11) % 2147483629 < 2147483629 := Int.emod_lt_of_pos _ (by decide)
      refine ⟨_, rfl, a, _, _, _, rfl, rfl, .inl (.inl upd_same), atI_nat (j := 1) rfl, _, rfl, a, _, _, _, rfl, rfl, .inl (.inl upd_same), atI_nat (j := 1) rfl, _, _, rfl, rfl, .inl ⟨by omega, by omega⟩, .inl ⟨_, rfl, _, _, rfl, rfl, m2, _, _, rfl, rfl, ⟨by decide, by decide⟩, .inl ⟨_, rfl, _, rfl, _, _, rfl, rfl, hm, ?_⟩⟩⟩
      refine z _ _ (Int.emod_nonneg _ (by omega)) (Int.emod_lt_of_pos _ hm) ⟨p, (q * 48271 + 11) % 2147483629, upd_same, hp, q0, by omega⟩ fun b o hb hn => ?_
      rw [upd_ne hn]
      exact hb
theorem scPick : FnScope ["_law_pot_here", "_law_some"] ["_law_pot_here", "_law_some"] (defScope sPick) := ⟨rfl, rfl, rfl, by decide +kernel, rfl, by decide +kernel, by decide +kernel⟩
theorem ok_pick {f fD : Addr} {fd fdD : FuncData} (F : Fun K "_law_pick" "_law_pick" sPick f fd) (T : Blt mg) (FD : Fun K "_law_draw" "_law_draw" sDraw fD fdD) (bD : Binds K fdD ["_law_pot_here", "_law_many"] []) (mD : mg "_law_draw" = some (.ref fD)) : FnOk P w K mg base CX0 2 f fd ["_law_pot_here", "_law_some"] spPick := by
  have GD : FnOk P w K mg base CX0 1 fD fdD ["_law_pot_here", "_law_many"] spDraw := ok_draw FD T
  refine F.ok scPick (fun vs H Q E h => ?_) (fun cdv A outer s H vs Q E hr h => ?_)
  · obtain ⟨a, b, xs, rfl, _⟩ := h
    rfl
  · obtain ⟨a, b, xs, rfl, hpot, hb, hab, h0, h1, z⟩ := h
    refine ⟨_, pss_one (ps_ret (pe_ix ix_list (pv 1) (pe_call GD hr rfl mD FD.kp bD .nil pass0 (pa_cons (pv 0) (pa_cons (pe_callB call_len_seq (by rfl) T.len PySem.boot_len (pa_cons (pv 1) pa_nil)) pa_nil))) (fun _ _ => rfl))), ?_⟩
    refine ⟨_, rfl, _, rfl, _, rfl, b, xs, rfl, .inl (.inl (.inl hb)), a, _, rfl, hpot, by omega, by omega, fun r H' r0 r1 hp' but => ?_⟩
    have hlt : r.toNat < xs.length := by omega
    have er : ((r.toNat : Nat) : Int) = r := by omega
    have ea : atI xs ((r.toNat : Nat) : Int) = some xs[r.toNat] := atI_nat (List.getElem?_eq_getElem hlt)
    rw [er] at ea
    exact ⟨b, xs, r, xs[r.toNat], rfl, rfl, .inl (.inl (but b _ hb (Ne.symm hab))), ea, z _ H' (List.getElem_mem hlt) hp' but⟩
end
end K62
namespace XR
open PySem L2
/-- the lines that a law draws -/
def words : List Str := ["a", "b", "c", "", " ", "a ", "keep", "-", "+a", "ab", "A", "new"]
def Wd (ss : List Str) : Prop := ∀ s, s ∈ ss → s ∈ words
theorem ll20 {n : Nat} (h : n ≤ 20) : n ≤ sizeLine := Nat.le_trans h (by decide)
/-- a drawn text: a new list of words -/
def spText : Sp := fun vs H Q _ => ∃ (a : Addr) (m : Int), vs = [.ref a, .int m] ∧ PotAt H a ∧ 0 ≤ m ∧ m ≤ 100 ∧
  ∀ (p : Addr) (ss : List Str) H', PotAt H' a → But a H H' → H p = none → H' p = some (.lst (ss.map V.str)) → Wd ss → (ss.length : Int) ≤ m → Q (.ref p) H'
theorem But.new {a p : Addr} {H H' : Hp} {o : HO} (b : But a H H') (h : H' p = none) : But a H (upd H' p o) := fun x u hx n => by
  have := b x u hx n
  rw [upd_ne (ne_of_none this h)]
  exact this
theorem PotAt.same {a : Addr} {H H' : Hp} (s : Same H H') (h : PotAt H a) : PotAt H' a := by
  obtain ⟨p, q, e, r⟩ := h
  exact ⟨p, q, s _ _ e, r⟩
theorem PotAt.ne {a p : Addr} {H : Hp} (h : PotAt H a) (n : H p = none) : a ≠ p := by
  obtain ⟨_, _, e, _⟩ := h
  exact ne_of_none e n
theorem PotAt.upd {a p : Addr} {H : Hp} {o : HO} (h : PotAt H a) (n : a ≠ p) : PotAt (L2.upd H p o) a := by
  obtain ⟨p', q, e, r⟩ := h
  exact ⟨p', q, by rw [upd_ne n]; exact e, r⟩
theorem Same.but {a : Addr} {H H' : Hp} (s : Same H H') : But a H H' := fun b o h _ => s b o h
end XR
namespace K62
open PySem L2 XR
section
variable {P : Program} {w : World} {K : PySem.W.Frag} {mg : Str → Option Value} {base : Heap}
structure Draws (P : Program) (w : World) (K : PySem.W.Frag) (mg : Str → Option Value) (base : Heap) (fD fP : Addr) (fdD fdP : FuncData) : Prop where
  FD : Fun K "_law_draw" "_law_draw" sDraw fD fdD
  GD : FnOk P w K mg base CX0 1 fD fdD ["_law_pot_here", "_law_many"] spDraw
  bD : Binds K fdD ["_law_pot_here", "_law_many"] []
  mD : mg "_law_draw" = some (.ref fD)
  FP : Fun K "_law_pick" "_law_pick" sPick fP fdP
  GP : FnOk P w K mg base CX0 2 fP fdP ["_law_pot_here", "_law_some"] spPick
  bP : Binds K fdP ["_law_pot_here", "_law_some"] []
  mP : mg "_law_pick" = some (.ref fP)
end
end K62
namespace XR
open PySem L2
theorem But.fresh {a p : Addr} {H H' : Hp} (b : But a H H') (h : PotAt H' a) (n : H' p = none) : H p = none := by
  cases e : H p with
  | none => rfl
  | some o =>
    have := b _ _ e (h.ne n).symm
    rw [n] at this; cases this
theorem cut_to (ss : List Str) {m : Int} (h : 0 ≤ m) : cutV (ss.map V.str) none (some m) = (ss.take m.toNat).map V.str := by
  unfold cutV HT.sIx
  simp only [List.drop_zero, Nat.sub_zero, if_neg (show ¬ m < 0 by omega), List.length_map]
  rw [← List.map_take]
  congr 1
  by_cases q : m.toNat ≤ ss.length
  · rw [Nat.min_eq_left q]
  · rw [Nat.min_eq_right (by omega), List.take_of_length_le (Nat.le_refl _), List.take_of_length_le (by omega)]
theorem Wd.take {ss : List Str} (h : Wd ss) (n : Nat) : Wd (ss.take n) := fun s hs => h s (List.mem_of_mem_take hs)
theorem Wd.append {ss ts : List Str} (h : Wd ss) (k : Wd ts) : Wd (ss ++ ts) := fun s hs => by
  rcases List.mem_append.mp hs with hs | hs
  · exact h s hs
  · exact k s hs
theorem Wd.one {s : Str} (h : s ∈ words) : Wd [s] := fun x hx => by rw [List.mem_singleton.mp hx]; exact h
theorem Wd.two {s t : Str} (h : s ∈ words) (k : t ∈ words) : Wd [s, t] := fun x hx => by
  simp only [List.mem_cons, List.not_mem_nil, or_false] at hx
  rcases hx with rfl | rfl
  · exact h
  · exact k
/-- a text near another one -/
def spNear : Sp := fun vs H Q _ => ∃ (a l : Addr) (ls : List Str) (m : Int), vs = [.ref a, .ref l, .int m] ∧ PotAt H a ∧ H l = some (.lst (ls.map V.str)) ∧ a ≠ l ∧ Wd ls ∧ ls.length ≤ 60 ∧ 0 ≤ m ∧ m ≤ 100 ∧
  ∀ (p : Addr) (ss : List Str) H', PotAt H' a → But a H H' → H p = none → H' p = some (.lst (ss.map V.str)) → Wd ss → (ss.length : Int) ≤ m → Q (.ref p) H'
end XR
namespace K62
open PySem L2 XR
section
variable {P : Program} {w : World} {K : PySem.W.Frag} {mg : Str → Option Value} {base : Heap}
end
end K62
namespace XR
open PySem L2
/-- two drawn texts, in a new tuple -/
def spTwo : Sp := fun vs H Q _ => ∃ (a : Addr) (m : Int), vs = [.ref a, .int m] ∧ PotAt H a ∧ 0 ≤ m ∧ m ≤ 60 ∧
  ∀ (t p1 p2 : Addr) (ss1 ss2 : List Str) H', PotAt H' a → But a H H' → H t = none → H p1 = none → H p2 = none → H' t = some (.tup [.ref p1, .ref p2]) → H' p1 = some (.lst (ss1.map V.str)) → H' p2 = some (.lst (ss2.map V.str)) →
    Wd ss1 → Wd ss2 → (ss1.length : Int) ≤ m → (ss2.length : Int) ≤ m → Q (.ref t) H'
theorem But.ne {a p : Addr} {H H' : Hp} (b : But a H H') (h : PotAt H a) (n : H p = none) : a ≠ p := h.ne n
end XR
namespace K62
open PySem L2 XR
section
variable {P : Program} {w : World} {K : PySem.W.Frag} {mg : Str → Option Value} {base : Heap}
end
end K62
namespace XR
open PySem L2
/-- a diff of two texts, as pairs of numbers -/
def IsDf (ss1 ss2 : List Str) (ps : List (Nat × Nat)) : Prop :=
  (∀ q, q ∈ ps → 1 ≤ q.1 ∧ q.1 ≤ ss1.length ∧ 1 ≤ q.2 ∧ q.2 ≤ ss2.length ∧ ∃ s : Str, ss1[q.1 - 1]? = some s ∧ ss2[q.2 - 1]? = some s) ∧ ps.Pairwise fun x y => x.1 < y.1 ∧ x.2 < y.2
def tupV (q : Nat × Nat) : HO := .tup [.int (q.1 : Int), .int (q.2 : Int)]
/-- rs: where the pairs stand -/
def PsAt (H : Hp) (rs : List Addr) (ps : List (Nat × Nat)) : Prop := rs.length = ps.length ∧ ∀ (i : Nat) (q : Nat × Nat), ps[i]? = some q → ∃ r : Addr, rs[i]? = some r ∧ H r = some (tupV q)
def refs (rs : List Addr) : List V := rs.map V.ref
/-- the diff at t -/
def DfAt (H : Hp) (t : Addr) (ps : List (Nat × Nat)) : Prop := ∃ rs, H t = some (.tup (refs rs)) ∧ PsAt H rs ps
theorem PsAt.same {H H' : Hp} {rs : List Addr} {ps : List (Nat × Nat)} (s : Same H H') (h : PsAt H rs ps) : PsAt H' rs ps :=
  ⟨h.1, fun i q hq => let ⟨r, h1, h2⟩ := h.2 i q hq; ⟨r, h1, s _ _ h2⟩⟩
theorem PsAt.but {a : Addr} {H H' : Hp} {rs : List Addr} {ps : List (Nat × Nat)} (b : But a H H') (hp : PotAt H a) (h : PsAt H rs ps) : PsAt H' rs ps :=
  ⟨h.1, fun i q hq => let ⟨r, h1, h2⟩ := h.2 i q hq; ⟨r, h1, b _ _ h2 (fun e => by obtain ⟨_, _, e2, _⟩ := hp; rw [e] at h2; rw [e2] at h2; cases h2)⟩⟩
theorem DfAt.same {H H' : Hp} {t : Addr} {ps : List (Nat × Nat)} (s : Same H H') (h : DfAt H t ps) : DfAt H' t ps :=
  let ⟨rs, h1, h2⟩ := h; ⟨rs, s _ _ h1, h2.same s⟩
theorem DfAt.but {a t : Addr} {H H' : Hp} {ps : List (Nat × Nat)} (b : But a H H') (hp : PotAt H a) (h : DfAt H t ps) : DfAt H' t ps :=
  let ⟨rs, h1, h2⟩ := h
  ⟨rs, b _ _ h1 (fun e => by obtain ⟨_, _, e2, _⟩ := hp; rw [e, e2] at h1; cases h1), h2.but b hp⟩
theorem PsAt.snoc {H : Hp} {rs : List Addr} {ps : List (Nat × Nat)} {r : Addr} {q : Nat × Nat} (h : PsAt H rs ps) (k : H r = some (tupV q)) : PsAt H (rs ++ [r]) (ps ++ [q]) := by
  refine ⟨by rw [List.length_append, List.length_append, h.1]; rfl, fun i q' hq => ?_⟩
  by_cases hi : i < ps.length
  · rw [List.getElem?_append_left hi] at hq
    obtain ⟨r', h1, h2⟩ := h.2 i q' hq
    exact ⟨r', by rw [List.getElem?_append_left (by rw [h.1]; exact hi)]; exact h1, h2⟩
  · have e : i = ps.length := by
      have := (List.getElem?_eq_some_iff.mp hq).1
      rw [List.length_append] at this
      have h2 : i < ps.length + 1 := this
      omega
    subst e
    rw [List.getElem?_append_right (Nat.le_refl _), Nat.sub_self] at hq
    have e2 : q = q' := Option.some.inj hq
    subst e2
    exact ⟨r, by rw [← h.1, List.getElem?_append_right (Nat.le_refl _), Nat.sub_self]; rfl, k⟩
theorem IsDf.snoc {ss1 ss2 : List Str} {ps : List (Nat × Nat)} {i j : Nat} {s : Str} (h : IsDf ss1 ss2 ps) (h1 : ss1[i]? = some s) (hj : 1 ≤ j) (h2 : ss2[j - 1]? = some s) (lt : ∀ q, q ∈ ps → q.1 < i + 1 ∧ q.2 < j) : IsDf ss1 ss2 (ps ++ [(i + 1, j)]) := by
  refine ⟨fun q hq => ?_, ?_⟩
  · rcases List.mem_append.mp hq with hq | hq
    · exact h.1 q hq
    · rw [List.mem_singleton.mp hq]
      have l1 := (List.getElem?_eq_some_iff.mp h1).1
      have l2 := (List.getElem?_eq_some_iff.mp h2).1
      refine ⟨by show 1 ≤ i + 1; omega, by show i + 1 ≤ _; omega, hj, by show j ≤ _; omega, s, ?_, h2⟩
      show ss1[i + 1 - 1]? = some s
      rw [Nat.add_sub_cancel]; exact h1
  · rw [List.pairwise_append]
    refine ⟨h.2, List.pairwise_singleton _ _, fun x hx y hy => ?_⟩
    rw [List.mem_singleton.mp hy]
    exact lt x hx
/-- a drawn diff, new -/
def spDiff : Sp := fun vs H Q _ => ∃ (a p1 p2 : Addr) (ss1 ss2 : List Str), vs = [.ref a, .ref p1, .ref p2] ∧ PotAt H a ∧ H p1 = some (.lst (ss1.map V.str)) ∧ H p2 = some (.lst (ss2.map V.str)) ∧ ss1.length ≤ 60 ∧ ss2.length ≤ 60 ∧
  ∀ (t : Addr) (ps : List (Nat × Nat)) H', PotAt H' a → But a H H' → H t = none → DfAt H' t ps → IsDf ss1 ss2 ps → Q (.ref t) H'
theorem lst_ne {a p : Addr} {H : Hp} {ss : List Str} (h : PotAt H a) (k : H p = some (.lst (ss.map V.str))) : a ≠ p := fun e => by
  obtain ⟨x, y, e2, _⟩ := h
  rw [← e, e2] at k
  have k2 := Option.some.inj k
  injection k2 with k2
  cases ss with
  | nil => cases k2
  | cons s ss => injection k2 with k3 _; cases k3
theorem lay_all : ∀ js : List Int, PyData.canLayAll0 (js.map PyData.int) = true ∧ PyData.depthAll (js.map PyData.int) ≤ 1
  | [] => ⟨by simp [PyData.canLayAll0], by simp [PyData.depthAll]⟩
  | j :: js => by
    obtain ⟨h1, h2⟩ := lay_all js
    exact ⟨by simp [PyData.canLayAll0, PyData.canLay0, h1], by simp [PyData.depthAll, PyData.depth]; omega⟩
theorem int_lay (js : List Int) : SeqAt.shaped (.list (js.map PyData.int)) = true := by
  obtain ⟨h1, h2⟩ := lay_all js
  unfold SeqAt.shaped
  rw [Bool.and_eq_true]
  refine ⟨by simp only [PyData.canLay0, h1], ?_⟩
  rw [decide_eq_true_eq]
  have e : (PyData.list (js.map PyData.int)).depth = PyData.depthAll (js.map PyData.int) + 1 := by simp only [PyData.depth]
  have e2 : (64 : Nat) = 64 := rfl
  omega
theorem dpInts {K : PySem.W.Frag} {H : Hp} : ∀ js : List Int, DpAll K H (js.map V.int) (js.map PyData.int)
  | [] => .nil
  | j :: js => .cons (.int j) (dpInts js)
end XR
namespace K62
open PySem L2 XR
section
variable {P : Program} {w : World} {K : PySem.W.Frag} {mg : Str → Option Value} {base : Heap}
end
end K62
namespace XR
open PySem L2
theorem PotAt.lst_ne {a p : Addr} {H : Hp} {xs : List V} (h : PotAt H a) (k : H p = some (.tup xs)) : a ≠ p := fun e => by
  obtain ⟨x, y, e2, _⟩ := h
  rw [← e, e2] at k
  cases k
theorem cut_ints (js : List Int) {m : Int} (h : 0 ≤ m) : cutV (js.map V.int) none (some m) = (js.take m.toNat).map V.int := by
  unfold cutV HT.sIx
  simp only [List.drop_zero, Nat.sub_zero, if_neg (show ¬ m < 0 by omega), List.length_map]
  rw [← List.map_take]
  congr 1
  by_cases q : m.toNat ≤ js.length
  · rw [Nat.min_eq_left q]
  · rw [Nat.min_eq_right (by omega), List.take_of_length_le (Nat.le_refl _), List.take_of_length_le (by omega)]
theorem str_of_map {ss : List Str} {i : Nat} {v : V} (h : (ss.map V.str)[i]? = some v) : ∃ s : Str, v = .str s ∧ ss[i]? = some s := by
  rw [List.getElem?_map] at h
  obtain ⟨s, h1, rfl⟩ := Option.map_eq_some_iff.mp h
  exact ⟨s, rfl, h1⟩
theorem PsAt.nil {H : Hp} : PsAt H [] [] := ⟨rfl, fun i q h => by simp at h⟩
theorem IsDf.nil {ss1 ss2 : List Str} : IsDf ss1 ss2 [] := ⟨fun q h => (by cases h), List.Pairwise.nil⟩
theorem PsAt.updL {H : Hp} {rs : List Addr} {ps : List (Nat × Nat)} {p : Addr} {xs ys : List V} (h : PsAt H rs ps) (k : H p = some (.lst xs)) : PsAt (upd H p (.lst ys)) rs ps :=
  ⟨h.1, fun i q hq => let ⟨r, h1, h2⟩ := h.2 i q hq; ⟨r, h1, by rw [upd_ne (fun e => by rw [e, k] at h2; cases h2)]; exact h2⟩⟩
theorem eqv_nil (x : PyData) (xs : List PyData) : PyData.eqv (.list (x :: xs)) (.list []) = false := by simp [PyData.eqv, PyData.eqvAll]
theorem eqv_nil0 : PyData.eqv (.list []) (.list []) = true := by simp [PyData.eqv, PyData.eqvAll]
end XR
namespace K62
open PySem L2 XR
section
variable {P : Program} {w : World} {K : PySem.W.Frag} {mg : Str → Option Value} {base : Heap}
end
end K62
/-! Raising an exception of the text whose __init__ calls super().__init__ and stores its parameters; its field in a handler. -/
namespace XR
open PySem PySem.Spec L2
section
variable {X : Cx} {n : Nat} {C : Addr} {fv : List V → List (Str × V)} {x : Str} {p pos : Pos} {e : Expr} {es : List Expr} {t : TA}
/-- C(e, ..), to be raised -/
def tPmX (C : Addr) (n : Nat) (fv : List V → List (Str × V)) (t : TA) : St → Hp → XK → Prop := fun σ H Q => t σ H fun vs H1 => vs.length = n ∧ ∀ d, H1 d = none → Q (.ref C) (some d) (upd H1 d (.xd (fv vs)))
theorem pmkX (T : MkX X.K X.prog C none n fv) (h0 : ∀ vs : List V, vs.length = n → fv vs ≠ []) (hk : PySem.W.keepIn X.K (.ref C) = true) (hr : Room 2 X.A) (hsup : X.mg "super" = none) (bP : PySem.W.subIn X.K (.ref C) (.type "BaseException") = some true) (tP : PySem.W.typeIn X.K (.ref C) = some (.type "type"))
    (hg : Gl X x) (hm : X.mg x = some (.ref C)) (ha : PA X (e :: es) t)
    (hdb : (x == ("__debug__" : Str)) = false := by decide) (he : starEach (e :: es) X.env = (false, eval e X.env) :: starEach es X.env := by rfl) (hpl : (backTo pos (starEach es X.env)).any (·.1) = false := by rfl) :
    PMk X (.Call (.Name x p) (e :: es) [] pos) (tPmX C n fv t) := by
  intro pins s σ H Q I h
  refine wpAny_Call_Name_kw (ld_glob I hg hm ?_ hdb)
  refine PySem.W.callWith_K (h₀ := X.base) I.ok.mod.kin hk (thn (ha.run pos pins s σ H _ I h) fun us s1 ⟨vs, H1, I1, r, hl, q⟩ => ⟨I1.kIn, ?_⟩) he hpl
  have hlu : us.length = n := r.length.symm.trans hl
  obtain ⟨fI, cc, cda, B, newId, initId, bmB, fd, txt, kk, p0, p1, p2, p3, p4, p5, l, gb, T1, T2⟩ := T.ex
  obtain ⟨S, hl9, bt, hloc, hself, hx, hfv⟩ := T2 us hlu
  obtain ⟨mb, hb, hbb⟩ := I1.ok.mod.blt
  have hn : us.length ≤ sizeLine := by rw [hlu, sizeLine_eq]; have := T.n1; omega
  have m2 : mb "super" = some (.type "super") := (hbb _ (by decide +kernel)).trans (by decide +kernel)
  obtain ⟨hp, g, dr, tk, os⟩ := s1
  have hm' := I1.ok.mod.glob.keeps I1.bk
  have hb' := hb.keeps I1.bk
  have dep : (X.A.under (.builtin "type.__call__" ⟨.ref C :: us, []⟩)).depth < recursionLimit := by
    have := hr.dp
    rw [make_depth]
    omega
  show wpAny _ _ (call (.ref C) us) _ _ _
  refine made T1 S hl9 I1.kIn hm' hb' hsup m2 I1.nolimit dep hn (bt _) (hloc _) (hself _) (hx _) fun h' tk' L k F => ?_
  obtain ⟨t1, ⟨hf, ho⟩ | ⟨dx, hf, hd0, hde, hdL, ho, hns⟩⟩ := F
  · exact absurd ((hfv vs r).nil_iff hf) (h0 vs hl)
  · obtain ⟨G', g1, g2⟩ := restrict h' fun b => decide (b ≠ hp.objs.size + 1)
    have gk : ∀ b, b ≠ hp.objs.size + 1 → G'.get? b = h'.get? b := fun b hb => g1 b (decide_eq_true hb)
    have ge : G'.get? (hp.objs.size + 1) = none := g2 (hp.objs.size + 1) (by simp)
    have old : ∀ b o, hp.get? b = some o → G'.get? b = some o := fun b o q => (gk b (Nat.ne_of_lt (Nat.lt_succ_of_lt (Heap.lt_size q)))).trans (k b o q)
    have ob : ObjOk X.prog X.w (upd H1 dx (.xd (fv vs))) G' dx (.xd (fv vs)) := ⟨_, hns.at (fun o q => (gk dx hde).trans q), (hfv vs r).rel⟩
    have J : Inv X pins σ (upd H1 dx (.xd (fv vs))) ⟨G', g, dr, tk', os⟩ := I1.laid (t' := tk') old hd0 ob
    refine ⟨hp.objs.size + 1, _, _, ⟨G', g, dr, tk', os⟩, _, .ref C, some dx, rfl, J, fun b o q => ?_, ge, ho, ⟨rfl, rfl⟩, rfl, rfl, ?_, rfl, I1.bare, raises_own bP tP, q dx (I1.hok.fresh hd0)⟩
    · by_cases hb : b = hp.objs.size + 1
      · have q' : G'.get? b = some o := q
        rw [hb, ge] at q'; cases q'
      · exact (gk b hb).symm.trans q
    · rw [upd_ne (Ne.symm hde)]
      exact I1.hok.fresh (Nat.le_succ _)
/-- raise C(e, ..) -/
theorem ps_raiseX {W : WX} {pos2 : Pos} (hc : X.calm = true) (tk : Takes X W) (T : MkX X.K X.prog C none n fv) (h0 : ∀ vs : List V, vs.length = n → fv vs ≠ []) (hk : PySem.W.keepIn X.K (.ref C) = true) (hr : Room 2 X.A) (hsup : X.mg "super" = none) (bP : PySem.W.subIn X.K (.ref C) (.type "BaseException") = some true) (tP : PySem.W.typeIn X.K (.ref C) = some (.type "type"))
    (hg : Gl X x) (hm : X.mg x = some (.ref C)) (ha : PA X (e :: es) t)
    (hdb : (x == ("__debug__" : Str)) = false := by decide) (he : starEach (e :: es) X.env = (false, eval e X.env) :: starEach es X.env := by rfl) (hpl : (backTo pos (starEach es X.env)).any (·.1) = false := by rfl) :
    PS X (.Raise (some (.Call (.Name x p) (e :: es) [] pos)) none pos2) (fun _ σ H => tPmX C n fv t σ H fun cls d H' => W cls d σ H') := ps_raise hc tk (pmkX T h0 hk hr hsup bP tP hg hm ha hdb he hpl)
/-- e.f in a handler, e the exception that it holds (at a; its class cls, its dict d) -/
def tByX (K : PySem.W.Frag) (a : Addr) (cls : Value) (d : Option Addr) (f : Str) (te : TE) : TE := fun σ H Q => te σ H fun x H1 => x = .ref a ∧ ∃ (C dd : Addr) (fs : List (Str × V)) (v : V), cls = .ref C ∧ d = some dd ∧ ClsR K C ∧ PySem.W.findIn K (.ref C) f = some none ∧ H1 dd = some (.xd fs) ∧ fs.lookup f = some v ∧ Q v H1
theorem pe_byX {a : Addr} {oe : Obj} {cls : Value} {d : Option Addr} {pn : List (Addr × Obj)} {e : Expr} {f : Str} {te : TE} {pos : Pos} (hz : Zc cls d oe) (hf : ∃ vs, oe.data = .fields vs) (he : PE (X.suite a ((a, oe) :: pn)) e te)
    (hb : attributeBase e f X.env (eval e X.env) = eval e X.env) :
    PE (X.suite a ((a, oe) :: pn)) (.Attribute e f pos) (tByX X.K a cls d f te) := by
  refine ⟨fun pins s σ H Q I h => ?_⟩
  refine attr_of hb (thn (he.run pins s σ H _ I h) fun u s1 hh => ?_)
  obtain ⟨x, H1, I1, rx, ex, C, dd, fs, v, ec, ed, T, nf, ea, lk, q⟩ := hh
  subst ex
  obtain rfl : u = Value.ref a := rx
  subst ec
  subst ed
  obtain ⟨ha, _⟩ := I1.pin (a, oe) (List.mem_append_left _ List.mem_cons_self)
  obtain ⟨vs, hd⟩ := hf
  have hx : ObjOk X.prog X.w H1 s1.heap dd (.xd fs) := I1.hok dd _ ea
  obtain ⟨mA, hns, hr⟩ := hx
  obtain ⟨od, ho, hl⟩ := lookIn_ns hns
  obtain ⟨u, hu, ru⟩ := RelO.some_of (v := v) (o := mA f) (by rw [← lk]; exact hr f)
  have J : PySem.W.InstAt s1.heap a oe C (some od) := ⟨ha, hz.1, by unfold PySem.W.notCls; rw [hd] <;> rfl, by rw [hz.2]; exact ho⟩
  exact PySem.PX.exc_get I1.kIn J T.ga T.gt T.sb (PySem.W.findObj_own T.di nf rfl (by rw [hl, hu])) (handed_of ru) ⟨v, H1, I1.tok _, ru, q⟩
end
end XR
namespace XR
open PySem L2
def tyN : PyData → String
  | .none => "NoneType"
  | .bool _ => "bool"
  | .int _ => "int"
  | .str _ => "str"
  | .list _ => "list"
  | .tuple _ => "tuple"
  | .dict _ => "dict"
theorem Dq.ty {K : PySem.W.Frag} {H : Hp} {x : V} {d : PyData} (h : Dq K H x d) : TyX K H x (.type (tyN d)) := by
  cases h with
  | non => exact .base .non
  | bl b => exact .base (.bl b)
  | int i => exact .base (.int i)
  | str s => exact .base (.str s)
  | lst h1 h2 =>
    rcases h1 with (h | ⟨o, h⟩) | ⟨o, _, _, h, hc, _⟩
    · exact .base (.lst h)
    · exact .base (.frz h)
    · exact .kList h hc
  | tup h1 h2 =>
    rcases h1 with (h | ⟨o, h⟩) | ⟨o, _, _, h, hc, _⟩
    · exact .base (.tup h)
    · exact .fTuple h
    · exact .kTuple h hc
  | dct h1 _ _ => exact .base (.dK h1)
/-- a judge of any value -/
def spJudge (K : PySem.W.Frag) (p : PyData → Bool) : Sp := fun vs H Q _ => ∃ (x : V) (d : PyData), vs = [x] ∧ Dq K H x d ∧ ∀ H', Same H H' → Q (.bl (p d)) H'
def isWhole : PyData → Bool
  | .int _ => true
  | _ => false
def isSeq : PyData → Bool
  | .list _ => true
  | .tuple _ => true
  | _ => false
def isLine : PyData → Bool
  | .str s => !decide ((10 : Nat) ∈ s.cps.toList)
  | _ => false
def itemsOf : PyData → List PyData
  | .list ds => ds
  | .tuple ds => ds
  | _ => []
def isText (d : PyData) : Bool := isSeq d && (decide ((itemsOf d).length ≤ 60) && (itemsOf d).all isLine)
theorem kit_int (d : PyData) : kitB (tyN d) "int" = some (isWhole d || (match d with | .bool _ => true | _ => false)) := by
  cases d <;> kernel_rfl
theorem kit_bool (d : PyData) : kitB (tyN d) "bool" = some (match d with | .bool _ => true | _ => false) := by
  cases d <;> kernel_rfl
theorem kit_str (d : PyData) : kitB (tyN d) "str" = some (match d with | .str _ => true | _ => false) := by
  cases d <;> kernel_rfl
theorem kit_tuple (d : PyData) : kitB (tyN d) "tuple" = some (match d with | .tuple _ => true | _ => false) := by
  cases d <;> kernel_rfl
end XR
namespace K62
open PySem L2 XR
abbrev sWhole : Stmt := top 5
abbrev sIsList : Stmt := top 6
abbrev sIsTuple : Stmt := top 7
abbrev sSpot : Stmt := top 8
abbrev sLine : Stmt := top 11
abbrev sIsText : Stmt := top 12
section
variable {P : Program} {w : World} {K : PySem.W.Frag} {mg : Str → Option Value} {base : Heap}
theorem scWhole : FnScope ["value"] ["value"] (defScope sWhole) := ⟨rfl, rfl, rfl, by decide +kernel, rfl, by decide +kernel, by decide +kernel⟩
def Blt.isin {mg : Str → Option Value} (T : Blt mg) : mg "isinstance" = none := T.all _ (by decide)
theorem ok_whole {f : Addr} {fd : FuncData} (F : Fun K "is_whole" "is_whole" sWhole f fd) (T : Blt mg) : FnOk P w K mg base CX0 1 f fd ["value"] (spJudge K isWhole) := by
  refine F.ok scWhole (fun vs H Q E h => ?_) (fun cdv A outer s H vs Q E hr h => ?_)
  · obtain ⟨x, d, rfl, _⟩ := h
    rfl
  · obtain ⟨x, d, rfl, hd, z⟩ := h
    refine ⟨_, pss_one (ps_ret (pe_and (pe_callB call_isi (by rfl) T.isin (by decide +kernel) (pa_cons (pv 0) (pa_cons (pe_bltn (v := .ty "int") (u := .type "int") (by rfl) T.int (by decide +kernel) rfl) pa_nil)))
      (pe_one (pe_not (pe_callB call_isi (by rfl) T.isin (by decide +kernel) (pa_cons (pv 0) (pa_cons (pe_bltn (v := .ty "bool") (u := .type "bool") (by rfl) (T.all "bool" (by decide)) (by decide +kernel) rfl) pa_nil))))))), ?_⟩
    refine ⟨_, rfl, x, _, _, _, _, rfl, .ty "int", hd.ty, kit_ty (kit_int d), _, rfl, ?_⟩
    have zz := z H (fun _ _ e => e)
    cases d <;> first
      | exact iteF zz
      | exact iteT ⟨_, rfl, x, _, _, _, _, rfl, .ty "bool", hd.ty, kit_ty (kit_bool _), _, rfl, zz⟩
theorem scIsList : FnScope ["value"] ["value"] (defScope sIsList) := ⟨rfl, rfl, rfl, by decide +kernel, rfl, by decide +kernel, by decide +kernel⟩
theorem kit_seq {K : PySem.W.Frag} (d : PyData) : PySem.W.kitAny K (.type (tyN d)) [.type "list", .type "tuple"] = some (isSeq d) := by
  cases d <;> kernel_rfl
theorem ok_isList {f : Addr} {fd : FuncData} (F : Fun K "is_list" "is_list" sIsList f fd) (T : Blt mg) : FnOk P w K mg base CX0 1 f fd ["value"] (spJudge K isSeq) := by
  refine F.ok scIsList (fun vs H Q E h => ?_) (fun cdv A outer s H vs Q E hr h => ?_)
  · obtain ⟨x, d, rfl, _⟩ := h
    rfl
  · obtain ⟨x, d, rfl, hd, z⟩ := h
    refine ⟨_, pss_one (ps_ret (pe_callB call_isiT (by rfl) T.isin (by decide +kernel) (pa_cons (pv 0) (pa_cons (pe_tup (pa_cons (pe_bltn (v := .ty "list") (u := .type "list") (by rfl) (T.all "list" (by decide)) (by decide +kernel) rfl) (pa_cons (pe_bltn (v := .ty "tuple") (u := .type "tuple") (by rfl) (T.all "tuple" (by decide)) (by decide +kernel) rfl) pa_nil))) pa_nil)))), ?_⟩
    refine ⟨_, rfl, ll20 (by show 2 ≤ 20; decide), fun t nt => ?_⟩
    have s := same_upd (o := .tup [V.ty "list", V.ty "tuple"]) nt
    exact ⟨x, t, _, _, _, _, rfl, upd_same, .cons (.ty "list") (.cons (.ty "tuple") .nil), (hd.same s).ty, kit_seq d, z _ s⟩
theorem scLine : FnScope ["value"] ["value"] (defScope sLine) := ⟨rfl, rfl, rfl, by decide +kernel, rfl, by decide +kernel, by decide +kernel⟩
theorem ok_line {f : Addr} {fd : FuncData} (F : Fun K "is_line" "is_line" sLine f fd) (T : Blt mg) : FnOk P w K mg base CX0 1 f fd ["value"] (spJudge K isLine) := by
  refine F.ok scLine (fun vs H Q E h => ?_) (fun cdv A outer s H vs Q E hr h => ?_)
  · obtain ⟨x, d, rfl, _⟩ := h
    rfl
  · obtain ⟨x, d, rfl, hd, z⟩ := h
    refine ⟨_, pss_one (ps_ret (pe_and (pe_callB call_isi (by rfl) T.isin (by decide +kernel) (pa_cons (pv 0) (pa_cons (pe_bltn (v := .ty "str") (u := .type "str") (by rfl) (T.all "str" (by decide)) (by decide +kernel) rfl) pa_nil)))
      (pe_one (pe_cmpR op_notIn_sign pe_str (pv 0) (by rfl))))), ?_⟩
    refine ⟨_, rfl, x, _, _, _, _, rfl, .ty "str", hd.ty, kit_ty (kit_str d), _, rfl, ?_⟩
    have zz := z H (fun _ _ e => e)
    cases d <;> first
      | exact iteF zz
      | skip
    cases hd
    exact iteT ⟨_, rfl, _, _, rfl, rfl, zz⟩
end
end K62
namespace XR
open PySem L2
theorem DqAll.get {K : PySem.W.Frag} {H : Hp} : ∀ {xs : List V} {ds : List PyData} {i : Nat} {x : V}, DqAll K H xs ds → xs[i]? = some x → ∃ d, ds[i]? = some d ∧ Dq K H x d
  | _, _, _, _, .nil, h => by simp at h
  | _, _, 0, _, .cons (d := d) a b, h => by
    have e := Option.some.inj h
    subst e
    exact ⟨d, rfl, a⟩
  | _, _, i + 1, _, .cons a b, h => b.get (i := i) h
end XR
namespace K62
open PySem L2 XR
section
variable {P : Program} {w : World} {K : PySem.W.Frag} {mg : Str → Option Value} {base : Heap}
theorem scIsText : FnScope ["value", "line"] ["value"] (defScope sIsText) := ⟨rfl, rfl, rfl, by decide +kernel, rfl, by decide +kernel, by decide +kernel⟩
theorem ok_isText {f fL fI : Addr} {fd fdL fdI : FuncData} {tm : Nat} (F : Fun K "is_text" "is_text" sIsText f fd) (T : Blt mg) (mM : mg "MOST" = some (.int 60 tm))
    (FL : Fun K "is_list" "is_list" sIsList fL fdL) (bL : Binds K fdL ["value"] []) (mL : mg "is_list" = some (.ref fL))
    (FI : Fun K "is_line" "is_line" sLine fI fdI) (bI : Binds K fdI ["value"] []) (mI : mg "is_line" = some (.ref fI)) : FnOk P w K mg base CX0 2 f fd ["value"] (spJudge K isText) := by
  have GL := ok_isList (P := P) (w := w) (base := base) FL T
  have GI := ok_line (P := P) (w := w) (base := base) FI T
  refine F.ok scIsText (fun vs H Q E h => ?_) (fun cdv A outer s H vs Q E hr h => ?_)
  · obtain ⟨x, d, rfl, _⟩ := h
    rfl
  · obtain ⟨x, d, rfl, hd, z⟩ := h
    cases hd with
    | @lst a xs ds h1 h2 =>
      refine ⟨_, pss_one (ps_ret (pe_and (pe_call GL hr rfl mL FL.kp bL .nil pass0 (pa_cons (pv 0) pa_nil)) (pe_and (pe_cmpR op_le (pe_callB call_len_seq (by rfl) T.len PySem.boot_len (pa_cons (pv 0) pa_nil)) (pe_glob (v := .int 60) (by rfl) mM ⟨_, rfl⟩) (nomark _))
        (pe_one (pe_callB (cr_all rfl) (by rfl) (T.all "all" (by decide)) (by decide +kernel) (pa_cons (pe_lc (own := [("line", 1)]) (g := gName 1) (tt := tYes) (te := tCall (spJudge K isLine) [] E0 (tCons (tVar 1) tNil)) rfl scIsText.nd (pi_list (pv 0))
          (blkOk_by (own := [("line", 1)]) (N := ["value", "line"]) (sc := defScope sIsText) (by decide +kernel)) (fun _ _ _ _ _ => pg_name (i := 1) scIsText.nd rfl (Or.inl rfl)) (fun _ _ _ _ _ => pts_nil)
          (fun _ _ _ _ _ => pe_call GI hr rfl mI FI.kp bI .nil pass0 (pa_cons (pv 1) pa_nil))) pa_nil)))))), ?_⟩
      refine ⟨_, rfl, _, _, rfl, .lst h1 h2, fun H1 s1 => ⟨_, rfl, iteT ⟨_, rfl, a, xs, rfl, .inl (s1.seq h1), _, _, rfl, rfl, _, rfl, ?_⟩⟩⟩
      have hlen := h2.length
      refine ite2 (fun c1 => ?_) (fun c1 => ?_)
      · have c2 : xs.length ≤ 60 := by have := of_decide_eq_true c1; omega
        refine ⟨_, rfl, a, rfl, ⟨_, s1.seq h1⟩, fun D nD => ?_⟩
        have sD := same_upd (o := .lst []) nD
        refine lc_list (K := K) (a := a) (xs := xs) (fun i H' => Same H1 H' ∧ H' D = some (.lst (((ds.take i).map isLine).map V.bl))) ⟨sD, upd_same⟩ (fun i H' _ hh => (hh.1).seq (s1.seq h1)) ?_ ?_
        · rintro i x H' hx ⟨sm, hD⟩
          obtain ⟨d, hd1, hd2⟩ := h2.get hx
          refine ⟨rfl, ?_⟩
          unfold tYes
          dsimp only
          rw [if_pos rfl]
          refine ⟨_, rfl, x, d, rfl, (hd2.same s1).same sm, fun H2 s2 => ⟨_, s2 _ _ hD, ?_, fun b o h => ?_, ?_⟩⟩
          · rw [List.length_map, List.length_map]
            have c3 : (ds.take i).length ≤ 60 := by rw [List.length_take]; omega
            exact Nat.lt_of_le_of_lt c3 (by decide)
          · rw [upd_ne (ne_of_none h nD)]
            exact s2 _ _ (sm _ _ h)
          · rw [upd_same, List.take_add_one, hd1, List.map_append, List.map_append]
            rfl
        · rintro H' ⟨sm, hD⟩
          refine ⟨D, ds.map isLine, rfl, SqL.of (by rw [hD, hlen, List.take_length]), ?_⟩
          have e : (ds.map isLine).all id = isText (.list ds) := by
            unfold isText isSeq itemsOf
            rw [List.all_map, decide_eq_true (show ds.length ≤ 60 by omega)]
            rfl
          rw [e]
          exact z _ (s1.trans sm)
      · have e : isText (.list ds) = false := by
          have c2 : ¬ ds.length ≤ 60 := fun h => c1 (decide_eq_true (by omega))
          unfold isText isSeq itemsOf
          rw [decide_eq_false c2]
          rfl
        have zz := z _ s1
        rw [e] at zz
        exact zz
    | @tup a xs ds h1 h2 =>
      refine ⟨_, pss_one (ps_ret (pe_and (pe_call GL hr rfl mL FL.kp bL .nil pass0 (pa_cons (pv 0) pa_nil)) (pe_and (pe_cmpR op_le (pe_callB call_len_seq (by rfl) T.len PySem.boot_len (pa_cons (pv 0) pa_nil)) (pe_glob (v := .int 60) (by rfl) mM ⟨_, rfl⟩) (nomark _))
        (pe_one (pe_callB (cr_all rfl) (by rfl) (T.all "all" (by decide)) (by decide +kernel) (pa_cons (pe_lc (own := [("line", 1)]) (g := gName 1) (tt := tYes) (te := tCall (spJudge K isLine) [] E0 (tCons (tVar 1) tNil)) rfl scIsText.nd (pi_tup (pv 0))
          (blkOk_by (own := [("line", 1)]) (N := ["value", "line"]) (sc := defScope sIsText) (by decide +kernel)) (fun _ _ _ _ _ => pg_name (i := 1) scIsText.nd rfl (Or.inl rfl)) (fun _ _ _ _ _ => pts_nil)
          (fun _ _ _ _ _ => pe_call GI hr rfl mI FI.kp bI .nil pass0 (pa_cons (pv 1) pa_nil))) pa_nil)))))), ?_⟩
      refine ⟨_, rfl, _, _, rfl, .tup h1 h2, fun H1 s1 => ⟨_, rfl, iteT ⟨_, rfl, a, xs, rfl, .inr (XR.Same.tup s1 h1), _, _, rfl, rfl, _, rfl, ?_⟩⟩⟩
      have hlen := h2.length
      refine ite2 (fun c1 => ?_) (fun c1 => ?_)
      · have c2 : xs.length ≤ 60 := by have := of_decide_eq_true c1; omega
        refine ⟨_, rfl, a, rfl, ⟨_, XR.Same.tup s1 h1⟩, fun D nD => ?_⟩
        have sD := same_upd (o := .lst []) nD
        refine lc_tup (K := K) (a := a) (xs := xs) (fun i H' => Same H1 H' ∧ H' D = some (.lst (((ds.take i).map isLine).map V.bl))) ⟨sD, upd_same⟩ (fun i H' _ hh => XR.Same.tup hh.1 (XR.Same.tup s1 h1)) ?_ ?_
        · rintro i x H' hx ⟨sm, hD⟩
          obtain ⟨d, hd1, hd2⟩ := h2.get hx
          refine ⟨rfl, ?_⟩
          unfold tYes
          dsimp only
          rw [if_pos rfl]
          refine ⟨_, rfl, x, d, rfl, (hd2.same s1).same sm, fun H2 s2 => ⟨_, s2 _ _ hD, ?_, fun b o h => ?_, ?_⟩⟩
          · rw [List.length_map, List.length_map]
            have c3 : (ds.take i).length ≤ 60 := by rw [List.length_take]; omega
            exact Nat.lt_of_le_of_lt c3 (by decide)
          · rw [upd_ne (ne_of_none h nD)]
            exact s2 _ _ (sm _ _ h)
          · rw [upd_same, List.take_add_one, hd1, List.map_append, List.map_append]
            rfl
        · rintro H' ⟨sm, hD⟩
          refine ⟨D, ds.map isLine, rfl, SqL.of (by rw [hD, hlen, List.take_length]), ?_⟩
          have e : (ds.map isLine).all id = isText (.tuple ds) := by
            unfold isText isSeq itemsOf
            rw [List.all_map, decide_eq_true (show ds.length ≤ 60 by omega)]
            rfl
          rw [e]
          exact z _ (s1.trans sm)
      · have e : isText (.tuple ds) = false := by
          have c2 : ¬ ds.length ≤ 60 := fun h => c1 (decide_eq_true (by omega))
          unfold isText isSeq itemsOf
          rw [decide_eq_false c2]
          rfl
        have zz := z _ s1
        rw [e] at zz
        exact zz
    | non =>
      refine ⟨_, pss_one (ps_ret (pe_and (pe_call GL hr rfl mL FL.kp bL .nil pass0 (pa_cons (pv 0) pa_nil)) (pe_and (pe_cmpR op_le (pe_callB call_len_seq (by rfl) T.len PySem.boot_len (pa_cons (pv 0) pa_nil)) (pe_glob (v := .int 60) (by rfl) mM ⟨_, rfl⟩) (nomark _))
        (pe_one (pe_callB (cr_all rfl) (by rfl) (T.all "all" (by decide)) (by decide +kernel) (pa_cons (pe_lc (own := [("line", 1)]) (g := gName 1) (tt := tYes) (te := tCall (spJudge K isLine) [] E0 (tCons (tVar 1) tNil)) rfl scIsText.nd (pi_list (pv 0))
          (blkOk_by (own := [("line", 1)]) (N := ["value", "line"]) (sc := defScope sIsText) (by decide +kernel)) (fun _ _ _ _ _ => pg_name (i := 1) scIsText.nd rfl (Or.inl rfl)) (fun _ _ _ _ _ => pts_nil)
          (fun _ _ _ _ _ => pe_call GI hr rfl mI FI.kp bI .nil pass0 (pa_cons (pv 1) pa_nil))) pa_nil)))))), ?_⟩
      exact ⟨_, rfl, _, _, rfl, .non, fun H1 s1 => ⟨_, rfl, iteF (z _ s1)⟩⟩
    | bl b =>
      refine ⟨_, pss_one (ps_ret (pe_and (pe_call GL hr rfl mL FL.kp bL .nil pass0 (pa_cons (pv 0) pa_nil)) (pe_and (pe_cmpR op_le (pe_callB call_len_seq (by rfl) T.len PySem.boot_len (pa_cons (pv 0) pa_nil)) (pe_glob (v := .int 60) (by rfl) mM ⟨_, rfl⟩) (nomark _))
        (pe_one (pe_callB (cr_all rfl) (by rfl) (T.all "all" (by decide)) (by decide +kernel) (pa_cons (pe_lc (own := [("line", 1)]) (g := gName 1) (tt := tYes) (te := tCall (spJudge K isLine) [] E0 (tCons (tVar 1) tNil)) rfl scIsText.nd (pi_list (pv 0))
          (blkOk_by (own := [("line", 1)]) (N := ["value", "line"]) (sc := defScope sIsText) (by decide +kernel)) (fun _ _ _ _ _ => pg_name (i := 1) scIsText.nd rfl (Or.inl rfl)) (fun _ _ _ _ _ => pts_nil)
          (fun _ _ _ _ _ => pe_call GI hr rfl mI FI.kp bI .nil pass0 (pa_cons (pv 1) pa_nil))) pa_nil)))))), ?_⟩
      exact ⟨_, rfl, _, _, rfl, .bl b, fun H1 s1 => ⟨_, rfl, iteF (z _ s1)⟩⟩
    | int i =>
      refine ⟨_, pss_one (ps_ret (pe_and (pe_call GL hr rfl mL FL.kp bL .nil pass0 (pa_cons (pv 0) pa_nil)) (pe_and (pe_cmpR op_le (pe_callB call_len_seq (by rfl) T.len PySem.boot_len (pa_cons (pv 0) pa_nil)) (pe_glob (v := .int 60) (by rfl) mM ⟨_, rfl⟩) (nomark _))
        (pe_one (pe_callB (cr_all rfl) (by rfl) (T.all "all" (by decide)) (by decide +kernel) (pa_cons (pe_lc (own := [("line", 1)]) (g := gName 1) (tt := tYes) (te := tCall (spJudge K isLine) [] E0 (tCons (tVar 1) tNil)) rfl scIsText.nd (pi_list (pv 0))
          (blkOk_by (own := [("line", 1)]) (N := ["value", "line"]) (sc := defScope sIsText) (by decide +kernel)) (fun _ _ _ _ _ => pg_name (i := 1) scIsText.nd rfl (Or.inl rfl)) (fun _ _ _ _ _ => pts_nil)
          (fun _ _ _ _ _ => pe_call GI hr rfl mI FI.kp bI .nil pass0 (pa_cons (pv 1) pa_nil))) pa_nil)))))), ?_⟩
      exact ⟨_, rfl, _, _, rfl, .int i, fun H1 s1 => ⟨_, rfl, iteF (z _ s1)⟩⟩
    | str s =>
      refine ⟨_, pss_one (ps_ret (pe_and (pe_call GL hr rfl mL FL.kp bL .nil pass0 (pa_cons (pv 0) pa_nil)) (pe_and (pe_cmpR op_le (pe_callB call_len_seq (by rfl) T.len PySem.boot_len (pa_cons (pv 0) pa_nil)) (pe_glob (v := .int 60) (by rfl) mM ⟨_, rfl⟩) (nomark _))
        (pe_one (pe_callB (cr_all rfl) (by rfl) (T.all "all" (by decide)) (by decide +kernel) (pa_cons (pe_lc (own := [("line", 1)]) (g := gName 1) (tt := tYes) (te := tCall (spJudge K isLine) [] E0 (tCons (tVar 1) tNil)) rfl scIsText.nd (pi_list (pv 0))
          (blkOk_by (own := [("line", 1)]) (N := ["value", "line"]) (sc := defScope sIsText) (by decide +kernel)) (fun _ _ _ _ _ => pg_name (i := 1) scIsText.nd rfl (Or.inl rfl)) (fun _ _ _ _ _ => pts_nil)
          (fun _ _ _ _ _ => pe_call GI hr rfl mI FI.kp bI .nil pass0 (pa_cons (pv 1) pa_nil))) pa_nil)))))), ?_⟩
      exact ⟨_, rfl, _, _, rfl, .str s, fun H1 s1 => ⟨_, rfl, iteF (z _ s1)⟩⟩
    | dct h1 h2 h3 =>
      refine ⟨_, pss_one (ps_ret (pe_and (pe_call GL hr rfl mL FL.kp bL .nil pass0 (pa_cons (pv 0) pa_nil)) (pe_and (pe_cmpR op_le (pe_callB call_len_seq (by rfl) T.len PySem.boot_len (pa_cons (pv 0) pa_nil)) (pe_glob (v := .int 60) (by rfl) mM ⟨_, rfl⟩) (nomark _))
        (pe_one (pe_callB (cr_all rfl) (by rfl) (T.all "all" (by decide)) (by decide +kernel) (pa_cons (pe_lc (own := [("line", 1)]) (g := gName 1) (tt := tYes) (te := tCall (spJudge K isLine) [] E0 (tCons (tVar 1) tNil)) rfl scIsText.nd (pi_list (pv 0))
          (blkOk_by (own := [("line", 1)]) (N := ["value", "line"]) (sc := defScope sIsText) (by decide +kernel)) (fun _ _ _ _ _ => pg_name (i := 1) scIsText.nd rfl (Or.inl rfl)) (fun _ _ _ _ _ => pts_nil)
          (fun _ _ _ _ _ => pe_call GI hr rfl mI FI.kp bI .nil pass0 (pa_cons (pv 1) pa_nil))) pa_nil)))))), ?_⟩
      exact ⟨_, rfl, _, _, rfl, .dct h1 h2 h3, fun H1 s1 => ⟨_, rfl, iteF (z _ s1)⟩⟩
end
end K62
namespace XR
open PySem PySem.Spec L2
/-- a call that raises nothing of a def that may raise -/
theorem passF {X : Cx} (σ : St) : PassesAt (L2.CX X.prog X.w) X σ E0 := fun pins H s e s' I h => by
  obtain ⟨_, _, _, _, _, _, _, _, _, _, _, _, z⟩ := h
  exact z.elim
section
variable {X : Cx} {CX : CXT} {k : Nat} {f : Addr} {sp : Sp} {E : St → XK} {x : Str} {p pos : Pos} {e : Expr} {es : List Expr} {t : TA}
/-- the plain call of a def that is known by its promise for any arguments -/
theorem pe_callR (F : FnR X.prog X.w X.K X.mg X.base CX k f sp) (hr : Room k X.A) (hgl : Gl X x) (hm : X.mg x = some (.ref f)) (hk : PySem.W.keepIn X.K (.ref f) = true) (hx : ∀ σ, PassesAt CX X σ (E σ)) (ha : PA X (e :: es) t)
    (hdb : (x == ("__debug__" : Str)) = false := by decide) (he : starEach (e :: es) X.env = (false, eval e X.env) :: starEach es X.env := by rfl) (hpl : (backTo pos (starEach es X.env)).any (·.1) = false := by rfl) :
    PE X (.Call (.Name x p) (e :: es) [] pos) (fun σ H Q => t σ H fun vs H1 => sp vs H1 Q (E σ)) := by
  refine ⟨fun pins s σ H Q I h => ?_⟩
  refine wpAny_Call_Name_kw (ld_glob I hgl hm ?_ hdb)
  refine PySem.W.callWith_K (h₀ := X.base) I.ok.mod.kin hk (thn (ha.run pos pins s σ H _ I h) fun us s1 ⟨vs, H1, I1, r, q⟩ => ⟨I1.kIn, ?_⟩) he hpl
  refine wpAny_call (codeAny_mono (F X.A X.stack s1 H1 us vs Q (E σ) hr I1.env0 r q) fun r' s' hq => ?_)
  cases r' with
  | error e => exact hx σ pins H1 s1 e s' I1 hq
  | ok fl =>
    cases fl with
    | ret u => exact I1.after hq
    | next => exact False.elim hq
    | brk => exact False.elim hq
    | cont => exact False.elim hq
end
/-- what is known of a class of exceptions with n fields -/
structure XOk (P : Program) (K : PySem.W.Frag) (mg : Str → Option Value) (x : Str) (C : Addr) (n : Nat) (fv : List V → List (Str × V)) : Prop where
  mx : MkX K P C none n fv
  ne : ∀ vs : List V, vs.length = n → fv vs ≠ []
  kp : PySem.W.keepIn K (.ref C) = true
  bP : PySem.W.subIn K (.ref C) (.type "BaseException") = some true
  tP : PySem.W.typeIn K (.ref C) = some (.type "type")
  g : mg x = some (.ref C)
  rd : ClsR K C
  nf : ∀ vs : List V, ∀ q, q ∈ fv vs → PySem.W.findIn K (.ref C) q.1 = some none
def fvOne (f : Str) : List V → List (Str × V) := fun vs => [(f, vs.getD 0 .non)]
/-- a judge of texts: it raises with the first that is none -/
def spCheck (K : PySem.W.Frag) (C : Addr) : Sp := fun vs H Q E => ∃ ds : List PyData, DqAll K H vs ds ∧ vs.length ≤ 100 ∧ (ds.all isText = true → ∀ H', Same H H' → Q .non H') ∧
  (∀ i x d, vs[i]? = some x → ds[i]? = some d → isText d = false → (∀ d', d' ∈ ds.take i → isText d' = true) → ∀ H' dd, Same H H' → H dd = none → H' dd = some (.xd [("value", x)]) → E (.ref C) (some dd) H')
end XR
namespace K62
open PySem L2 XR
abbrev sCheck : Stmt := top 13
section
variable {P : Program} {w : World} {K : PySem.W.Frag} {mg : Str → Option Value} {base : Heap}
theorem scCheck : FnScope ["texts", "text"] ["texts"] (defScope sCheck) := ⟨rfl, rfl, rfl, by decide +kernel, rfl, by decide +kernel, by decide +kernel⟩
theorem ok_check {f fI CT : Addr} {fdI : FuncData} {oc kV doc pm cdv ct : Value} {an od : Option Addr} {osl : Array (Option Value)}
    (lk : List.lookup f K = some { cls := oc, dict := od, data := Data.func (PySem.W.fnOf "check_texts" "check_texts" (defArgs sCheck) (defBody sCheck) (defScope sCheck) .none kV doc pm an cdv ct), slots := osl }) (hc : PySem.W.codeIn K cdv "check_texts" = true)
    (hsup : mg "super" = none) (XT : XOk P K mg "InvalidText" CT 1 (fvOne "value"))
    (FI : Fun K "is_text" "is_text" sIsText fI fdI) (GI : FnOk P w K mg base CX0 2 fI fdI ["value"] (spJudge K isText)) (bI : Binds K fdI ["value"] []) (mI : mg "is_text" = some (.ref fI)) : FnR P w K mg base (L2.CX P w) 3 f (spCheck K CT) := by
  have R := StX.fn_star (CX := L2.CX P w) (P := P) (w := w) (K := K) (mg := mg) (base := base) (k := 2) (ps := []) (pv := "texts") (N := ["texts", "text"])
    (sp := fun vs H Q E => ∃ (p : Addr) (xs : List V) (ds : List PyData), vs = [.ref p] ∧ H p = some (.tup xs) ∧ DqAll K H xs ds ∧ (ds.all isText = true → ∀ H', Same H H' → Q .non H') ∧
      (∀ i x d, xs[i]? = some x → ds[i]? = some d → isText d = false → (∀ d', d' ∈ ds.take i → isText d' = true) → ∀ H' dd, Same H H' → H dd = none → H' dd = some (.xd [("value", x)]) → E (.ref CT) (some dd) H'))
    lk hc scCheck StX.cxUp (fun us rest hl => by
      cases us with
      | nil => cases rest with
        | nil => rfl
        | cons r rs => rfl
      | cons a b => cases hl) (fun A outer s H vs Q E hr h => ?_)
  · intro A outer s H us vs Q E hr he r h
    refine R A outer s H us vs Q E hr he r ?_
    obtain ⟨ds, hd, hl, h1, h2⟩ := h
    refine ⟨[], vs, rfl, rfl, Nat.le_trans hl (by decide), fun p hp => ⟨p, vs, ds, rfl, upd_same, hd.same (same_upd hp), fun e H' s' => h1 e H' ((same_upd hp).trans s'), fun i x d a b c e H' dd s' n k => h2 i x d a b c e H' dd ((same_upd hp).trans s') ?_ k⟩⟩
    by_cases e : dd = p
    · rw [e]; exact hp
    · rw [upd_ne e] at n; exact n
  · obtain ⟨p, xs, ds, rfl, hp, hd, h1, h2⟩ := h
    refine ⟨_, pss_one (ps_for PySem.PassesOwn.leaving rfl (pi_tup (pv 0)) (pg_name (i := 1) scCheck.nd rfl (.inl rfl)) (pss_one (ps_if (pt_not (pt_val (pe_call GI hr rfl mI FI.kp bI .nil pass0 (pa_cons (pv 1) pa_nil))))
      (pss_one (ps_raiseX rfl (takes_of rfl rfl rfl rfl) XT.mx XT.ne XT.kp hr hsup XT.bP XT.tP rfl XT.g (pa_cons (pv 1) pa_nil))) pss_nil))), ?_⟩
    refine ⟨_, rfl, p, rfl, ⟨_, .inl (.inl hp)⟩, ?_⟩
    refine for_tup (K := K) (a := p) (xs := xs) (fun i σ H' => Same H H' ∧ (∃ x1, σ = [some (V.ref p), x1]) ∧ (∀ d', d' ∈ ds.take i → isText d' = true)) ⟨fun _ _ e => e, ⟨_, rfl⟩, fun d' h => by simp at h⟩ (fun i σ H' _ hh => .inl (.inl (hh.1 _ _ hp))) ?_ ?_
    · rintro i x σ H' hx ⟨sm, ⟨x1, rfl⟩, ht⟩
      obtain ⟨d, hd1, hd2⟩ := hd.get hx
      refine ⟨_, rfl, x, d, rfl, hd2.same sm, fun H2 s2 => ⟨_, rfl, ?_⟩⟩
      cases e : isText d with
      | true =>
        refine iteF ⟨sm.trans s2, ⟨_, rfl⟩, fun d' hd' => ?_⟩
        rw [List.take_add_one, hd1] at hd'
        rcases List.mem_append.mp hd' with h | h
        · exact ht d' h
        · have : d' = d := by simpa using h
          rw [this]; exact e
      | false =>
        refine iteT ⟨_, rfl, rfl, fun dd ndd => ?_⟩
        have s3 := sm.trans s2
        refine h2 i x d hx hd1 e ht _ dd (s3.trans (same_upd ndd)) ?_ upd_same
        cases q : H dd with
        | none => rfl
        | some o => rw [s3 _ _ q] at ndd; cases ndd
    · rintro σ H' ⟨sm, ⟨x1, rfl⟩, ht⟩
      refine h1 ?_ H' sm
      rw [List.all_eq_true]
      intro d' hd'
      refine ht d' ?_
      rw [hd.length, List.take_length]
      exact hd'
end
end K62
namespace XR
open PySem L2
/-- a text, a list or a tuple -/
def TxA (K : PySem.W.Frag) (H : Hp) (x : V) (ss : List Str) : Prop := ∃ a, x = .ref a ∧ (SqL K H a (ss.map V.str) ∨ SqT K H a (ss.map V.str))
theorem TxA.same {K : PySem.W.Frag} {H H' : Hp} {x : V} {ss : List Str} (s : Same H H') (h : TxA K H x ss) : TxA K H' x ss := by
  obtain ⟨a, e, h | h⟩ := h
  · exact ⟨a, e, .inl (s.seq h)⟩
  · exact ⟨a, e, .inr (XR.Same.tup s h)⟩
theorem dqStrs {K : PySem.W.Frag} {H : Hp} : ∀ ss : List Str, DqAll K H (ss.map V.str) (ss.map PyData.str)
  | [] => .nil
  | s :: ss => .cons (.str s) (dqStrs ss)
theorem TxA.dq {K : PySem.W.Frag} {H : Hp} {x : V} {ss : List Str} (h : TxA K H x ss) : ∃ d, Dq K H x d ∧ itemsOf d = ss.map PyData.str ∧ isSeq d = true := by
  obtain ⟨a, rfl, h | h⟩ := h
  · exact ⟨.list (ss.map .str), .lst h (dqStrs ss), rfl, rfl⟩
  · exact ⟨.tuple (ss.map .str), .tup h (dqStrs ss), rfl, rfl⟩
theorem word_line : ∀ s, s ∈ words → isLine (.str s) = true := by decide +kernel
theorem text_ok {d : PyData} {ss : List Str} (h1 : itemsOf d = ss.map PyData.str) (h2 : isSeq d = true) (w : Wd ss) (l : ss.length ≤ 60) : isText d = true := by
  unfold isText
  rw [h1, h2, List.length_map, decide_eq_true l, List.all_map]
  simp only [Bool.true_and]
  rw [List.all_eq_true]
  exact fun s hs => word_line s (w s hs)
def isTup (n : Int) : PyData → Bool
  | .tuple ds => decide ((ds.length : Int) = n)
  | _ => false
def isSpot : PyData → Bool
  | .tuple [a, b] => isWhole a && isWhole b
  | _ => false
def pairOk (ss1 ss2 : List Str) : PyData → Bool
  | .tuple [.int i, .int j] => decide (1 ≤ i) && (decide (i ≤ ss1.length) && (decide (1 ≤ j) && (decide (j ≤ ss2.length) && decide (ss1[(i - 1).toNat]? = ss2[(j - 1).toNat]?))))
  | _ => false
def spPair (K : PySem.W.Frag) : Sp := fun vs H Q _ => ∃ (x1 x2 v : V) (ss1 ss2 : List Str) (d : PyData), vs = [x1, x2, v] ∧ TxA K H x1 ss1 ∧ TxA K H x2 ss2 ∧ Dq K H v d ∧ ∀ H', Same H H' → Q (.bl (pairOk ss1 ss2 d)) H'
def spTup (K : PySem.W.Frag) : Sp := fun vs H Q _ => ∃ (x : V) (d : PyData) (n : Int), vs = [x, .int n] ∧ Dq K H x d ∧ ∀ H', Same H H' → Q (.bl (isTup n d)) H'
end XR
namespace K62
open PySem L2 XR
abbrev sPair : Stmt := top 16
section
variable {P : Program} {w : World} {K : PySem.W.Frag} {mg : Str → Option Value} {base : Heap}
theorem scTup : FnScope ["value", "many"] ["value", "many"] (defScope sIsTuple) := ⟨rfl, rfl, rfl, by decide +kernel, rfl, by decide +kernel, by decide +kernel⟩
theorem ok_tup {f : Addr} {fd : FuncData} (F : Fun K "is_tuple" "is_tuple" sIsTuple f fd) (T : Blt mg) : FnOk P w K mg base CX0 1 f fd ["value", "many"] (spTup K) := by
  refine F.ok scTup (fun vs H Q E h => ?_) (fun cdv A outer s H vs Q E hr h => ?_)
  · obtain ⟨x, d, n, rfl, _⟩ := h
    rfl
  · obtain ⟨x, d, n, rfl, hd, z⟩ := h
    refine ⟨_, pss_one (ps_ret (pe_and (pe_callB call_isi (by rfl) T.isin (by decide +kernel) (pa_cons (pv 0) (pa_cons (pe_bltn (v := .ty "tuple") (u := .type "tuple") (by rfl) (T.all "tuple" (by decide)) (by decide +kernel) rfl) pa_nil)))
      (pe_one (pe_cmpR op_eq (pe_callB call_len_seq (by rfl) T.len PySem.boot_len (pa_cons (pv 0) pa_nil)) (pv 1) (nomark _))))), ?_⟩
    refine ⟨_, rfl, x, _, _, _, _, rfl, .ty "tuple", hd.ty, kit_ty (kit_tuple d), _, rfl, ?_⟩
    have zz := z H (fun _ _ e => e)
    cases hd with
    | @tup a xs ds h1 h2 =>
      refine iteT ⟨_, rfl, a, xs, rfl, .inr h1, _, rfl, rfl, ?_⟩
      have e : decide (V.int ((xs.length : Nat) : Int) = V.int n) = isTup n (.tuple ds) := by
        show _ = decide ((ds.length : Int) = n)
        rw [h2.length]
        by_cases q : ((ds.length : Nat) : Int) = n
        · rw [decide_eq_true q, q]; simp
        · rw [decide_eq_false q]; simp [q]
      rw [e]
      exact zz
    | non => exact iteF zz
    | bl b => exact iteF zz
    | int i => exact iteF zz
    | str s => exact iteF zz
    | lst h1 h2 => exact iteF zz
    | dct h1 h2 h3 => exact iteF zz
end
end K62
namespace XR
open PySem L2
theorem DqAll.two {K : PySem.W.Frag} {H : Hp} {xs : List V} {ds : List PyData} (h : DqAll K H xs ds) (e : ds.length = 2) : ∃ d1 d2 y1 y2, ds = [d1, d2] ∧ xs = [y1, y2] ∧ Dq K H y1 d1 ∧ Dq K H y2 d2 := by
  cases h with
  | nil => cases e
  | cons a h =>
    cases h with
    | nil => cases e
    | cons b h =>
      cases h with
      | nil => exact ⟨_, _, _, _, rfl, rfl, a, b⟩
      | cons c h => simp at e
end XR
namespace K62
open PySem L2 XR
section
variable {P : Program} {w : World} {K : PySem.W.Frag} {mg : Str → Option Value} {base : Heap}
theorem scSpot : FnScope ["value"] ["value"] (defScope sSpot) := ⟨rfl, rfl, rfl, by decide +kernel, rfl, by decide +kernel, by decide +kernel⟩
theorem ok_spot {f fT fW : Addr} {fd fdT fdW : FuncData} (F : Fun K "is_spot" "is_spot" sSpot f fd) (T : Blt mg) (FT : Fun K "is_tuple" "is_tuple" sIsTuple fT fdT) (bT : Binds K fdT ["value", "many"] []) (mT : mg "is_tuple" = some (.ref fT))
    (FW : Fun K "is_whole" "is_whole" sWhole fW fdW) (bW : Binds K fdW ["value"] []) (mW : mg "is_whole" = some (.ref fW)) : FnOk P w K mg base CX0 2 f fd ["value"] (spJudge K isSpot) := by
  have GT := ok_tup (P := P) (w := w) (base := base) FT T
  have GW := ok_whole (P := P) (w := w) (base := base) FW T
  refine F.ok scSpot (fun vs H Q E h => ?_) (fun cdv A outer s H vs Q E hr h => ?_)
  · obtain ⟨x, d, rfl, _⟩ := h
    rfl
  · obtain ⟨x, d, rfl, hd, z⟩ := h
    refine ⟨_, pss_one (ps_ret (pe_and (pe_call GT hr rfl mT FT.kp bT .nil pass0 (pa_cons (pv 0) (pa_cons pe_int pa_nil))) (pe_and (pe_call GW hr rfl mW FW.kp bW .nil pass0 (pa_cons (pe_ix ix_tup (pv 0) pe_int (fun _ _ => rfl)) pa_nil))
      (pe_one (pe_call GW hr rfl mW FW.kp bW .nil pass0 (pa_cons (pe_ix ix_tup (pv 0) pe_int (fun _ _ => rfl)) pa_nil)))))), ?_⟩
    refine ⟨_, rfl, x, d, 2, rfl, hd, fun H1 s1 => ⟨_, rfl, ?_⟩⟩
    have zz := z H1 s1
    have no : isTup 2 d = false → isSpot d = false := by
      intro h
      cases d with
      | tuple ds =>
        have h' : decide ((ds.length : Int) = 2) = false := h
        rcases ds with _ | ⟨d1, _ | ⟨d2, _ | ⟨d3, ds⟩⟩⟩
        · rfl
        · rfl
        · exact absurd rfl (of_decide_eq_false h')
        · rfl
      | _ => rfl
    cases e : isTup 2 d with
    | false =>
      rw [no e] at zz
      exact iteF zz
    | true =>
      cases hd with
      | @tup a xs ds h1 h2 =>
        have e2 : ds.length = 2 := by
          have : ((ds.length : Nat) : Int) = 2 := of_decide_eq_true e
          omega
        obtain ⟨d1, d2, y1, y2, rfl, rfl, k1, k2⟩ := h2.two e2
        refine iteT ⟨_, rfl, a, _, _, _, rfl, rfl, XR.Same.tup s1 h1, atI_nat (j := 0) rfl, y1, d1, rfl, k1.same s1, fun H2 s2 => ⟨_, rfl, ?_⟩⟩
        have zz2 := z H2 (s1.trans s2)
        cases e3 : isWhole d1 with
        | false =>
          have e4 : isSpot (.tuple [d1, d2]) = false := by show (isWhole d1 && isWhole d2) = false; rw [e3]; rfl
          rw [e4] at zz2
          exact iteF zz2
        | true =>
          refine iteT ⟨_, rfl, a, _, _, _, rfl, rfl, XR.Same.tup s2 (XR.Same.tup s1 h1), atI_nat (j := 1) rfl, y2, d2, rfl, (k2.same s1).same s2, fun H3 s3 => ?_⟩
          have e4 : isSpot (.tuple [d1, d2]) = isWhole d2 := by show (isWhole d1 && isWhole d2) = _; rw [e3]; rfl
          have zz3 := z H3 (s1.trans (s2.trans s3))
          rw [e4] at zz3
          exact zz3
      | non => cases e
      | bl b => cases e
      | int i => cases e
      | str s => cases e
      | lst h1 h2 => cases e
      | dct h1 h2 h3 => cases e
end
end K62
namespace XR
open PySem L2
theorem spot_is {K : PySem.W.Frag} {H : Hp} {v : V} {d : PyData} (h : Dq K H v d) (e : isSpot d = true) : ∃ (a : Addr) (i j : Int), v = .ref a ∧ d = .tuple [.int i, .int j] ∧ SqT K H a [.int i, .int j] := by
  cases h with
  | @tup a xs ds h1 h2 =>
    rcases ds with _ | ⟨d1, _ | ⟨d2, _ | ⟨d3, ds⟩⟩⟩
    · cases e
    · cases e
    · obtain ⟨d1', d2', y1, y2, e1, rfl, k1, k2⟩ := h2.two rfl
      injection e1 with e1 e3
      injection e3 with e3 _
      subst e1 e3
      have e4 : (isWhole d1 && isWhole d2) = true := e
      rw [Bool.and_eq_true] at e4
      cases k1 with
      | int i =>
        cases k2 with
        | int j => exact ⟨a, _, _, rfl, rfl, h1⟩
        | _ => exact absurd (show false = true from e4.2) Bool.false_ne_true
      | _ => exact absurd (show false = true from e4.1) Bool.false_ne_true
    · cases e
  | _ => cases e
theorem not_spot {ss1 ss2 : List Str} {d : PyData} (e : isSpot d = false) : pairOk ss1 ss2 d = false := by
  unfold pairOk
  split
  · cases e
  · rfl
/-- text[i] -/
theorem TxA.ix {K : PySem.W.Frag} {H : Hp} {x : V} {ss : List Str} {Q : VK} {i : Nat} {s : Str} (h : TxA K H x ss) (e : ss[i]? = some s) {z : Int} (hz : z = (i : Int)) (q : Q (.str s) H) : rIx K x (.int z) H Q := by
  obtain ⟨a, rfl, h | h⟩ := h
  · exact .inl ⟨a, _, z, .str s, rfl, rfl, h, by rw [hz]; exact atI_nat (by rw [List.getElem?_map, e]; rfl), q⟩
  · exact .inr (.inl ⟨a, _, z, .str s, rfl, rfl, h, by rw [hz]; exact atI_nat (by rw [List.getElem?_map, e]; rfl), q⟩)
/-- len(text) -/
theorem TxA.len {K : PySem.W.Frag} {H : Hp} {x : V} {ss : List Str} (h : TxA K H x ss) {Q : VK} (q : Q (.int (ss.length : Nat)) H) : ∃ p ys, [x] = [V.ref p] ∧ (SqL K H p ys ∨ SqT K H p ys) ∧ Q (.int (ys.length : Nat)) H := by
  obtain ⟨a, rfl, h⟩ := h
  exact ⟨a, ss.map V.str, rfl, h, by rw [List.length_map]; exact q⟩
end XR
namespace K62
open PySem L2 XR
section
variable {P : Program} {w : World} {K : PySem.W.Frag} {mg : Str → Option Value} {base : Heap}
theorem scPair : FnScope ["old", "new", "value", "i", "j"] ["old", "new", "value"] (defScope sPair) := ⟨rfl, rfl, rfl, by decide +kernel, rfl, by decide +kernel, by decide +kernel⟩
theorem ok_pair {f fS : Addr} {fd fdS : FuncData} (F : Fun K "is_pair" "is_pair" sPair f fd) (T : Blt mg) (FS : Fun K "is_spot" "is_spot" sSpot fS fdS) (GS : FnOk P w K mg base CX0 2 fS fdS ["value"] (spJudge K isSpot)) (bS : Binds K fdS ["value"] []) (mS : mg "is_spot" = some (.ref fS)) : FnOk P w K mg base CX0 3 f fd ["old", "new", "value"] (spPair K) := by
  refine F.ok scPair (fun vs H Q E h => ?_) (fun cdv A outer s H vs Q E hr h => ?_)
  · obtain ⟨x1, x2, v, ss1, ss2, d, rfl, _⟩ := h
    rfl
  · obtain ⟨x1, x2, v, ss1, ss2, d, rfl, t1, t2, hd, z⟩ := h
    refine ⟨_, pss_cons (ps_if (pt_not (pt_val (pe_call GS hr rfl mS FS.kp bS .nil pass0 (pa_cons (pv 2) pa_nil)))) (pss_one (ps_ret pe_bl)) pss_nil)
      (pss_cons (ps_asg (pv 2) (pg_tup rfl (pgs_cons (pg_name (i := 3) scPair.nd rfl (.inl rfl)) (pgs_cons (pg_name (i := 4) scPair.nd rfl (.inl rfl)) pgs_nil))))
      (pss_one (ps_ret (pe_and (pe_chain op_le op_le pe_int (pv 3) (pe_callB call_len_seq (by rfl) T.len PySem.boot_len (pa_cons (pv 0) pa_nil))) (pe_and (pe_chain op_le op_le pe_int (pv 4) (pe_callB call_len_seq (by rfl) T.len PySem.boot_len (pa_cons (pv 1) pa_nil)))
        (pe_one (pe_cmpR op_eq (pe_ix ix_seq (pv 0) (pe_op op_sub (pv 3) pe_int) (fun _ _ => rfl)) (pe_ix ix_seq (pv 1) (pe_op op_sub (pv 4) pe_int) (fun _ _ => rfl)) (nomark _)))))))), ?_⟩
    refine ⟨_, rfl, v, d, rfl, hd, fun H1 s1 => ⟨_, rfl, ?_⟩⟩
    have zz := z H1 s1
    cases e : isSpot d with
    | false =>
      rw [not_spot e] at zz
      exact iteT zz
    | true =>
      obtain ⟨a, i, j, rfl, rfl, hs⟩ := spot_is hd e
      have hs1 := XR.Same.tup s1 hs
      refine iteF ⟨_, rfl, a, _, rfl, hs1, rfl, _, _, rfl, _, _, rfl, rfl, ?_⟩
      have t1' := t1.same s1
      have t2' := t2.same s1
      obtain ⟨a1, rfl, ha1⟩ := id t1'
      obtain ⟨a2, rfl, ha2⟩ := id t2'
      have hz : pairOk ss1 ss2 (.tuple [.int i, .int j]) = (decide (1 ≤ i) && (decide (i ≤ ss1.length) && (decide (1 ≤ j) && (decide (j ≤ ss2.length) && decide (ss1[(i - 1).toNat]? = ss2[(j - 1).toNat]?))))) := rfl
      rw [hz] at zz
      refine ⟨_, rfl, _, _, rfl, rfl, _, rfl, ?_⟩
      by_cases c1 : (1 : Int) ≤ i
      · rw [decide_eq_true c1] at zz ⊢
        refine iteT ⟨_, rfl, a1, _, rfl, ha1, _, _, rfl, rfl, _, rfl, ?_⟩
        rw [List.length_map]
        by_cases c2 : i ≤ (ss1.length : Int)
        · rw [decide_eq_true c2] at zz ⊢
          refine iteT ⟨_, rfl, _, _, rfl, rfl, _, rfl, ?_⟩
          by_cases c3 : (1 : Int) ≤ j
          · rw [decide_eq_true c3] at zz ⊢
            refine iteT ⟨_, rfl, a2, _, rfl, ha2, _, _, rfl, rfl, _, rfl, ?_⟩
            rw [List.length_map]
            by_cases c4 : j ≤ (ss2.length : Int)
            · rw [decide_eq_true c4] at zz ⊢
              have l1 : (i - 1).toNat < ss1.length := by omega
              have l2 : (j - 1).toNat < ss2.length := by omega
              refine iteT ⟨_, rfl, _, rfl, _, _, rfl, rfl, TxA.ix t1' (List.getElem?_eq_getElem l1) (by omega) ⟨_, rfl, _, rfl, _, _, rfl, rfl, TxA.ix t2' (List.getElem?_eq_getElem l2) (by omega) ⟨rfl, ?_⟩⟩⟩
              have e5 : decide (V.str ss1[(i - 1).toNat] = V.str ss2[(j - 1).toNat]) = decide (ss1[(i - 1).toNat]? = ss2[(j - 1).toNat]?) := by
                rw [List.getElem?_eq_getElem l1, List.getElem?_eq_getElem l2]
                by_cases q : ss1[(i - 1).toNat] = ss2[(j - 1).toNat]
                · rw [q]; simp
                · rw [decide_eq_false (fun h => q (by injection h)), decide_eq_false (fun h => q (Option.some.inj h))]
              rw [e5]
              exact zz
            · rw [decide_eq_false c4] at zz ⊢
              exact iteF zz
          · rw [decide_eq_false c3] at zz ⊢
            exact iteF ⟨_, rfl, iteF zz⟩
        · rw [decide_eq_false c2] at zz ⊢
          exact iteF zz
      · rw [decide_eq_false c1] at zz ⊢
        exact iteF ⟨_, rfl, iteF zz⟩
end
end K62
namespace XR
open PySem L2
/-- a zip of two tuples -/
theorem walk_zipT {K : PySem.W.Frag} {a b : Addr} {xs ys : List V} {n : Nat} (hn : n = min xs.length ys.length) : Walk (RZ.ItzT K a b) n (fun H => SqT K H a xs ∧ SqT K H b ys) (YPair (fun i => xs[i]?) fun i => ys[i]?) := by
  refine ⟨fun i H hi ⟨h1, h2⟩ => ?_, fun H ⟨h1, h2⟩ => ⟨xs, ys, h1, h2, ?_⟩, fun i H x H' hi ⟨h1, h2⟩ h => ?_⟩
  · have l1 : i < xs.length := by omega
    have l2 : i < ys.length := by omega
    exact ⟨xs, ys, xs[i], ys[i], h1, h2, List.getElem?_eq_getElem l1, List.getElem?_eq_getElem l2⟩
  · omega
  · obtain ⟨T, x, y, e1, e2, e3, q1, q2⟩ := h
    exact ⟨T, x, y, e1, e2, e3, q1 xs h1, q2 ys h2⟩
/-- the items of a tuple are pairs of whole numbers -/
def Prs (K : PySem.W.Frag) (H : Hp) (xs : List V) (ps : List (Int × Int)) : Prop := xs.length = ps.length ∧ ∀ (i : Nat) (q : Int × Int), ps[i]? = some q → ∃ a : Addr, xs[i]? = some (V.ref a) ∧ SqT K H a [.int q.1, .int q.2]
theorem Prs.same {K : PySem.W.Frag} {H H' : Hp} {xs : List V} {ps : List (Int × Int)} (s : Same H H') (h : Prs K H xs ps) : Prs K H' xs ps :=
  ⟨h.1, fun i q hq => let ⟨a, h1, h2⟩ := h.2 i q hq; ⟨a, h1, XR.Same.tup s h2⟩⟩
def riseB (p q : Int × Int) : Bool := decide (p.1 < q.1) && decide (p.2 < q.2)
def rising (ps : List (Int × Int)) : Bool := (List.zipWith riseB ps (ps.drop 1)).all id
def spRise (K : PySem.W.Frag) : Sp := fun vs H Q _ => ∃ (t : Addr) (xs : List V) (ps : List (Int × Int)), vs = [.ref t] ∧ SqT K H t xs ∧ Prs K H xs ps ∧ ps.length ≤ 1000 ∧ ∀ H', Same H H' → Q (.bl (rising ps)) H'
theorem cut_one (xs : List V) : cutV xs (some 1) none = xs.drop 1 := by
  unfold cutV HT.sIx
  simp only [if_neg (show ¬ (1 : Int) < 0 by decide)]
  rcases xs with _ | ⟨x, xs⟩
  · rfl
  · have e : min (1 : Int).toNat (x :: xs).length = 1 := by
      show min 1 (xs.length + 1) = 1
      omega
    rw [e]
    show List.take (xs.length + 1 - 1) xs = xs
    rw [Nat.add_sub_cancel, List.take_length]
theorem tup_upd {K : PySem.W.Frag} {H : Hp} {a p : Addr} {xs ys zs : List V} (h : SqT K H a xs) (k : H p = some (.lst ys)) : SqT K (upd H p (.lst zs)) a xs := by
  rcases h with (h | ⟨o, h⟩) | h
  · exact .inl (.inl (by rw [upd_ne (fun e => by rw [e, k] at h; cases h)]; exact h))
  · exact .inl (.inr ⟨o, by rw [upd_ne (fun e => by rw [e, k] at h; cases h)]; exact h⟩)
  · exact .inr h
end XR
namespace K62
open PySem L2 XR
abbrev sRising : Stmt := top 17
section
variable {P : Program} {w : World} {K : PySem.W.Frag} {mg : Str → Option Value} {base : Heap}
theorem scRising : FnScope ["pairs", "i", "j", "k", "n"] ["pairs"] (defScope sRising) := ⟨rfl, rfl, rfl, by decide +kernel, rfl, by decide +kernel, by decide +kernel⟩
theorem ok_rising {f : Addr} {fd : FuncData} (F : Fun K "is_rising" "is_rising" sRising f fd) (T : Blt mg) : FnOk P w K mg base CX0 1 f fd ["pairs"] (spRise K) := by
  refine F.ok scRising (fun vs H Q E h => ?_) (fun cdv A outer s H vs Q E hr h => ?_)
  · obtain ⟨t, xs, ps, rfl, _⟩ := h
    rfl
  · obtain ⟨t, xs, ps, rfl, ht, hp, hl, z⟩ := h
    refine ⟨_, pss_one (ps_ret (pe_callB (cr_all rfl) (by rfl) (T.all "all" (by decide)) (by decide +kernel) (pa_cons (pe_lc (own := [("i", 1), ("j", 2), ("k", 3), ("n", 4)]) (g := gTup K 2 (gCons (gTup K 2 (gCons (gName 1) (gCons (gName 2) gNil))) (gCons (gTup K 2 (gCons (gName 3) (gCons (gName 4) gNil))) gNil))) (tt := tYes)
        (te := tAndV (tOp (rI0 fun i j => V.bl (decide (i < j))) (tVar 1) (tVar 3)) (tOp (rI0 fun i j => V.bl (decide (i < j))) (tVar 2) (tVar 4))) rfl scRising.nd
        (RZ.pi_zipA rfl (T.all "zip" (by decide)) (pa_cons (pv 0) (pa_cons (pe_slice sl_tupA (pv 0) (po_some pe_int) po_none) pa_nil)))
        (blkOk_by (own := [("i", 1), ("j", 2), ("k", 3), ("n", 4)]) (N := ["pairs", "i", "j", "k", "n"]) (sc := defScope sRising) (by decide +kernel))
        (fun _ _ _ _ _ => pg_tup rfl (pgs_cons (pg_tup rfl (pgs_cons (pg_name (i := 1) scRising.nd rfl (.inl rfl)) (pgs_cons (pg_name (i := 2) scRising.nd rfl (.inl rfl)) pgs_nil))) (pgs_cons (pg_tup rfl (pgs_cons (pg_name (i := 3) scRising.nd rfl (.inl rfl)) (pgs_cons (pg_name (i := 4) scRising.nd rfl (.inl rfl)) pgs_nil))) pgs_nil))) (fun _ _ _ _ _ => pts_nil)
        (fun _ _ _ _ _ => pe_and (pe_cmpR op_lt (pv 1) (pv 3) (nomark _)) (pe_one (pe_cmpR op_lt (pv 2) (pv 4) (nomark _))))) pa_nil))), ?_⟩
    refine ⟨_, rfl, _, rfl, 1, rfl, t, xs, rfl, ht, fun hw => ?_, fun hn p np => ?_⟩
    · have e0 : xs.drop 1 = xs := by
        have h0 : (if (1 : Int) < 0 then ((1 : Int) + (xs.length : Nat)).toNat else min (1 : Int).toNat xs.length) = 0 := hw.1
        rw [if_neg (by decide)] at h0
        have h1 : min 1 xs.length = 0 := h0
        have h2 : xs.length = 0 := by omega
        rw [List.eq_nil_of_length_eq_zero h2]
        rfl
      have hmin : (ps.drop 1).length = min xs.length (xs.drop 1).length := by rw [List.length_drop, List.length_drop, hp.1]; omega
      have s1 : Same H H := fun _ _ e => e
      have h1 := ht
      have hu : SqT K H t (xs.drop 1) := by rw [e0]; exact ht
      refine ⟨t, t, xs, xs.drop 1, rfl, .inr ⟨h1, hu, fun D nD => ?_⟩⟩
      have sD := same_upd (o := .lst []) nD
      refine lc_it (walk_zipT (n := (ps.drop 1).length) hmin) (fun i H' => Same H H' ∧ SqT K H' t xs ∧ SqT K H' t (xs.drop 1) ∧ H' D = some (.lst (((List.zipWith riseB ps (ps.drop 1)).take i).map V.bl))) ⟨s1.trans sD, XR.Same.tup sD h1, XR.Same.tup sD hu, upd_same⟩ (fun i H' _ hh => ⟨hh.2.1, hh.2.2.1⟩) ?_ ?_
      · rintro i x Ha Hb hi ⟨sm, h1', h2', hD⟩ ⟨T0, y1, y2, rfl, nT, rfl, e1, e2⟩
        rw [List.length_drop] at hi
        have i1 : i < ps.length := by omega
        have i2 : i + 1 < ps.length := by omega
        obtain ⟨a1, x1, k1⟩ := hp.2 i _ (List.getElem?_eq_getElem i1)
        obtain ⟨a2, x2, k2⟩ := hp.2 (i + 1) _ (List.getElem?_eq_getElem i2)
        have e2' : xs[1 + i]? = some y2 := by rw [← List.getElem?_drop]; exact e2
        rw [Nat.add_comm 1 i] at e2'
        obtain rfl : y1 = V.ref a1 := Option.some.inj (e1.symm.trans x1)
        obtain rfl : y2 = V.ref a2 := Option.some.inj (e2'.symm.trans x2)
        have sT := same_upd (o := .tup [V.ref a1, V.ref a2]) nT
        have sa := sm.trans sT
        refine ⟨T0, _, rfl, .inl (.inl upd_same), rfl, _, _, rfl, a1, _, rfl, XR.Same.tup sa k1, rfl, _, _, rfl, _, _, rfl, rfl, _, _, rfl, a2, _, rfl, XR.Same.tup sa k2, rfl, _, _, rfl, _, _, rfl, rfl, rfl, rfl, ?_⟩
        unfold tYes
        dsimp only
        rw [if_pos rfl]
        have hD' := sT _ _ hD
        have hz : (List.zipWith riseB ps (ps.drop 1))[i]? = some (riseB ps[i] ps[i + 1]) := by
          rw [List.getElem?_zipWith, List.getElem?_eq_getElem i1, List.getElem?_drop, Nat.add_comm 1 i, List.getElem?_eq_getElem i2]
        have fin : ∀ c : Bool, c = riseB ps[i] ps[i + 1] → ∃ acc, upd Ha T0 (.tup [V.ref a1, V.ref a2]) D = some (.lst acc) ∧ acc.length < sizeLine ∧ (Same H (upd (upd Ha T0 (.tup [V.ref a1, V.ref a2])) D (.lst (acc ++ [V.bl c]))) ∧ SqT K (upd (upd Ha T0 (.tup [V.ref a1, V.ref a2])) D (.lst (acc ++ [V.bl c]))) t xs ∧ SqT K (upd (upd Ha T0 (.tup [V.ref a1, V.ref a2])) D (.lst (acc ++ [V.bl c]))) t (xs.drop 1) ∧ upd (upd Ha T0 (.tup [V.ref a1, V.ref a2])) D (.lst (acc ++ [V.bl c])) D = some (.lst (((List.zipWith riseB ps (ps.drop 1)).take (i + 1)).map V.bl))) := fun c hc => by
          refine ⟨_, hD', ?_, fun b o h => ?_, XR.tup_upd (XR.Same.tup sT h1') hD', XR.tup_upd (XR.Same.tup sT h2') hD', ?_⟩
          · rw [List.length_map, List.length_take]
            exact Nat.lt_of_le_of_lt (Nat.min_le_left _ _) (Nat.lt_of_lt_of_le i1 (Nat.le_trans hl (by decide)))
          · have hb := s1 _ _ h
            rw [upd_ne (ne_of_none hb nD)]
            exact sa _ _ h
          · rw [upd_same, List.take_add_one, hz, List.map_append, hc]
            rfl
        refine ⟨_, rfl, _, rfl, _, _, rfl, rfl, _, rfl, ?_⟩
        by_cases c1 : ps[i].1 < ps[i + 1].1
        · rw [decide_eq_true c1]
          refine iteT ⟨_, rfl, _, rfl, _, _, rfl, rfl, fin _ ?_⟩
          unfold riseB
          rw [decide_eq_true c1]
          rfl
        · rw [decide_eq_false c1]
          refine iteF (fin _ ?_)
          unfold riseB
          rw [decide_eq_false c1]
          rfl
      · rintro H' ⟨sm, _, _, hD⟩
        refine ⟨D, List.zipWith riseB ps (ps.drop 1), rfl, SqL.of ?_, z _ sm⟩
        rw [hD, List.take_of_length_le]
        rw [List.length_zipWith]
        exact Nat.min_le_right _ _
    · have hmin : (ps.drop 1).length = min xs.length (xs.drop 1).length := by rw [List.length_drop, List.length_drop, hp.1]; omega
      rw [cut_one]
      have s1 := same_upd (o := .tup (xs.drop 1)) np
      have h1 := XR.Same.tup s1 ht
      have hu : SqT K (upd H p (.tup (xs.drop 1))) p (xs.drop 1) := .inl (.inl upd_same)
      generalize upd H p (.tup (xs.drop 1)) = H1 at s1 h1 hu ⊢
      refine ⟨t, p, xs, xs.drop 1, rfl, .inr ⟨h1, hu, fun D nD => ?_⟩⟩
      have sD := same_upd (o := .lst []) nD
      refine lc_it (walk_zipT (n := (ps.drop 1).length) hmin) (fun i H' => Same H H' ∧ SqT K H' t xs ∧ SqT K H' p (xs.drop 1) ∧ H' D = some (.lst (((List.zipWith riseB ps (ps.drop 1)).take i).map V.bl))) ⟨s1.trans sD, XR.Same.tup sD h1, XR.Same.tup sD hu, upd_same⟩ (fun i H' _ hh => ⟨hh.2.1, hh.2.2.1⟩) ?_ ?_
      · rintro i x Ha Hb hi ⟨sm, h1', h2', hD⟩ ⟨T0, y1, y2, rfl, nT, rfl, e1, e2⟩
        rw [List.length_drop] at hi
        have i1 : i < ps.length := by omega
        have i2 : i + 1 < ps.length := by omega
        obtain ⟨a1, x1, k1⟩ := hp.2 i _ (List.getElem?_eq_getElem i1)
        obtain ⟨a2, x2, k2⟩ := hp.2 (i + 1) _ (List.getElem?_eq_getElem i2)
        have e2' : xs[1 + i]? = some y2 := by rw [← List.getElem?_drop]; exact e2
        rw [Nat.add_comm 1 i] at e2'
        obtain rfl : y1 = V.ref a1 := Option.some.inj (e1.symm.trans x1)
        obtain rfl : y2 = V.ref a2 := Option.some.inj (e2'.symm.trans x2)
        have sT := same_upd (o := .tup [V.ref a1, V.ref a2]) nT
        have sa := sm.trans sT
        refine ⟨T0, _, rfl, .inl (.inl upd_same), rfl, _, _, rfl, a1, _, rfl, XR.Same.tup sa k1, rfl, _, _, rfl, _, _, rfl, rfl, _, _, rfl, a2, _, rfl, XR.Same.tup sa k2, rfl, _, _, rfl, _, _, rfl, rfl, rfl, rfl, ?_⟩
        unfold tYes
        dsimp only
        rw [if_pos rfl]
        have hD' := sT _ _ hD
        have hz : (List.zipWith riseB ps (ps.drop 1))[i]? = some (riseB ps[i] ps[i + 1]) := by
          rw [List.getElem?_zipWith, List.getElem?_eq_getElem i1, List.getElem?_drop, Nat.add_comm 1 i, List.getElem?_eq_getElem i2]
        have fin : ∀ c : Bool, c = riseB ps[i] ps[i + 1] → ∃ acc, upd Ha T0 (.tup [V.ref a1, V.ref a2]) D = some (.lst acc) ∧ acc.length < sizeLine ∧ (Same H (upd (upd Ha T0 (.tup [V.ref a1, V.ref a2])) D (.lst (acc ++ [V.bl c]))) ∧ SqT K (upd (upd Ha T0 (.tup [V.ref a1, V.ref a2])) D (.lst (acc ++ [V.bl c]))) t xs ∧ SqT K (upd (upd Ha T0 (.tup [V.ref a1, V.ref a2])) D (.lst (acc ++ [V.bl c]))) p (xs.drop 1) ∧ upd (upd Ha T0 (.tup [V.ref a1, V.ref a2])) D (.lst (acc ++ [V.bl c])) D = some (.lst (((List.zipWith riseB ps (ps.drop 1)).take (i + 1)).map V.bl))) := fun c hc => by
          refine ⟨_, hD', ?_, fun b o h => ?_, XR.tup_upd (XR.Same.tup sT h1') hD', XR.tup_upd (XR.Same.tup sT h2') hD', ?_⟩
          · rw [List.length_map, List.length_take]
            exact Nat.lt_of_le_of_lt (Nat.min_le_left _ _) (Nat.lt_of_lt_of_le i1 (Nat.le_trans hl (by decide)))
          · have hb := s1 _ _ h
            rw [upd_ne (ne_of_none hb nD)]
            exact sa _ _ h
          · rw [upd_same, List.take_add_one, hz, List.map_append, hc]
            rfl
        refine ⟨_, rfl, _, rfl, _, _, rfl, rfl, _, rfl, ?_⟩
        by_cases c1 : ps[i].1 < ps[i + 1].1
        · rw [decide_eq_true c1]
          refine iteT ⟨_, rfl, _, rfl, _, _, rfl, rfl, fin _ ?_⟩
          unfold riseB
          rw [decide_eq_true c1]
          rfl
        · rw [decide_eq_false c1]
          refine iteF (fin _ ?_)
          unfold riseB
          rw [decide_eq_false c1]
          rfl
      · rintro H' ⟨sm, _, _, hD⟩
        refine ⟨D, List.zipWith riseB ps (ps.drop 1), rfl, SqL.of ?_, z _ sm⟩
        rw [hD, List.take_of_length_le]
        rw [List.length_zipWith]
        exact Nat.min_le_right _ _
end
end K62
namespace XR
open PySem L2
def strOf : PyData → Str
  | .str s => s
  | _ => ""
def strsOf (d : PyData) : List Str := (itemsOf d).map strOf
def pairOf : PyData → Int × Int
  | .tuple [.int i, .int j] => (i, j)
  | _ => (0, 0)
def isDiffB (ss1 ss2 : List Str) : PyData → Bool
  | .tuple ds => ds.all (pairOk ss1 ss2) && rising (ds.map pairOf)
  | _ => false
theorem all_line : ∀ (ds : List PyData), ds.all isLine = true → ds = (ds.map strOf).map PyData.str
  | [], _ => rfl
  | d :: ds, h => by
    rw [List.all_cons, Bool.and_eq_true] at h
    have ih := all_line ds h.2
    have e : d = PyData.str (strOf d) := by
      cases d with
      | str s => rfl
      | _ => exact absurd (show false = true from h.1) Bool.false_ne_true
    show d :: ds = PyData.str (strOf d) :: ((ds.map strOf).map PyData.str)
    rw [← ih, ← e]
theorem dq_strs {K : PySem.W.Frag} {H : Hp} : ∀ {xs : List V} {ss : List Str}, DqAll K H xs (ss.map PyData.str) → xs = ss.map V.str
  | [], [], _ => rfl
  | x :: xs, s :: ss, .cons a b => by
    have e := dq_strs (ss := ss) b
    cases a
    rw [e]
    rfl
theorem text_is {K : PySem.W.Frag} {H : Hp} {x : V} {d : PyData} (h : Dq K H x d) (e : isText d = true) : TxA K H x (strsOf d) := by
  unfold isText at e
  rw [Bool.and_eq_true, Bool.and_eq_true] at e
  obtain ⟨e1, e2, e3⟩ := e
  cases h with
  | @lst a xs ds h1 h2 =>
    have k : ds = (ds.map strOf).map PyData.str := all_line ds e3
    rw [k] at h2
    have q := dq_strs h2
    rw [q] at h1
    exact ⟨a, rfl, .inl h1⟩
  | @tup a xs ds h1 h2 =>
    have k : ds = (ds.map strOf).map PyData.str := all_line ds e3
    rw [k] at h2
    have q := dq_strs h2
    rw [q] at h1
    exact ⟨a, rfl, .inr h1⟩
  | _ => exact absurd (show false = true from e1) Bool.false_ne_true
theorem pairOk_spot {ss1 ss2 : List Str} {d : PyData} (e : pairOk ss1 ss2 d = true) : isSpot d = true := by
  cases q : isSpot d with
  | true => rfl
  | false => rw [not_spot q] at e; cases e
theorem prs_of {K : PySem.W.Frag} {H : Hp} {xs : List V} {ds : List PyData} {ss1 ss2 : List Str} (h : DqAll K H xs ds) (e : ds.all (pairOk ss1 ss2) = true) : Prs K H xs (ds.map pairOf) := by
  refine ⟨by rw [List.length_map, h.length], fun i q hq => ?_⟩
  rw [List.getElem?_map] at hq
  obtain ⟨d, hd, rfl⟩ := Option.map_eq_some_iff.mp hq
  have hi : i < xs.length := by rw [h.length]; exact (List.getElem?_eq_some_iff.mp hd).1
  obtain ⟨d', hd', hdq⟩ := h.get (List.getElem?_eq_getElem hi)
  obtain rfl : d = d' := Option.some.inj (hd.symm.trans hd')
  have ed := (List.all_eq_true.mp e) d (List.mem_of_getElem? hd)
  obtain ⟨a, i', j', e1, rfl, hs⟩ := spot_is hdq (pairOk_spot ed)
  exact ⟨a, by rw [List.getElem?_eq_getElem hi, e1], hs⟩
/-- the way out of a judge of texts -/
def BadT (C : Addr) (vs : List V) (ds : List PyData) (H : Hp) (E : XK) : Prop :=
  ∀ (i : Nat) (x : V) (d : PyData), vs[i]? = some x → ds[i]? = some d → isText d = false → (∀ d', d' ∈ ds.take i → isText d' = true) → ∀ H' dd, Same H H' → H dd = none → H' dd = some (.xd [("value", x)]) → E (.ref C) (some dd) H'
theorem BadT.none {C : Addr} {vs : List V} {ds : List PyData} {H : Hp} {E : XK} (h : ds.all isText = true) : BadT C vs ds H E := fun i x d _ hd e _ => by
  have := (List.all_eq_true.mp h) d (List.mem_of_getElem? hd)
  rw [e] at this; cases this
theorem BadT.same {C : Addr} {vs : List V} {ds : List PyData} {H H1 : Hp} {E : XK} (s : Same H H1) (h : BadT C vs ds H E) : BadT C vs ds H1 E := fun i x d a b c e H' dd s' n k => by
  refine h i x d a b c e H' dd (s.trans s') ?_ k
  cases q : H dd with
  | none => rfl
  | some o => rw [s _ _ q] at n; cases n
def spIsDiff (K : PySem.W.Frag) (CT : Addr) : Sp := fun vs H Q E => ∃ (x1 x2 v : V) (d1 d2 dv : PyData), vs = [x1, x2, v] ∧ Dq K H x1 d1 ∧ Dq K H x2 d2 ∧ Dq K H v dv ∧ (itemsOf dv).length ≤ 1000 ∧
  (isText d1 = true → isText d2 = true → ∀ H', Same H H' → Q (.bl (isDiffB (strsOf d1) (strsOf d2) dv)) H') ∧ BadT CT [x1, x2] [d1, d2] H E
end XR
namespace K62
open PySem L2 XR
abbrev sIsDiff : Stmt := top 15
section
variable {P : Program} {w : World} {K : PySem.W.Frag} {mg : Str → Option Value} {base : Heap}
theorem scIsDiff : FnScope ["old", "new", "value", "pair"] ["old", "new", "value"] (defScope sIsDiff) := ⟨rfl, rfl, rfl, by decide +kernel, rfl, by decide +kernel, by decide +kernel⟩
theorem ok_isDiff {f fC fP fR CT : Addr} {fd fdP fdR : FuncData} (F : Fun K "is_diff" "is_diff" sIsDiff f fd) (T : Blt mg)
    (GC : FnR P w K mg base (L2.CX P w) 3 fC (spCheck K CT)) (kC : PySem.W.keepIn K (.ref fC) = true) (mC : mg "check_texts" = some (.ref fC))
    (FP : Fun K "is_pair" "is_pair" sPair fP fdP) (GP : FnOk P w K mg base CX0 3 fP fdP ["old", "new", "value"] (spPair K)) (bP : Binds K fdP ["old", "new", "value"] []) (mP : mg "is_pair" = some (.ref fP))
    (FR : Fun K "is_rising" "is_rising" sRising fR fdR) (bR : Binds K fdR ["pairs"] []) (mR : mg "is_rising" = some (.ref fR)) : FnOk P w K mg base (L2.CX P w) 4 f fd ["old", "new", "value"] (spIsDiff K CT) := by
  have GR := ok_rising (P := P) (w := w) (base := base) FR T
  refine F.okX scIsDiff (fun vs H Q E h => ?_) (fun cdv A outer s H vs Q E hr h => ?_)
  · obtain ⟨x1, x2, v, d1, d2, dv, rfl, _⟩ := h
    rfl
  · obtain ⟨x1, x2, v, d1, d2, dv, rfl, t1, t2, hv, lv, z, bad⟩ := h
    refine ⟨_, pss_cons (ps_expr (pe_callR GC hr rfl mC kC (fun σ => passAt (takes_of rfl rfl rfl rfl) σ) (pa_cons (pv 0) (pa_cons (pv 1) pa_nil))))
      (pss_cons (ps_if (pt_not (pt_val (pe_callB call_isi (by rfl) T.isin (by decide +kernel) (pa_cons (pv 2) (pa_cons (pe_bltn (v := .ty "tuple") (u := .type "tuple") (by rfl) (T.all "tuple" (by decide)) (by decide +kernel) rfl) pa_nil))))) (pss_one (ps_ret pe_bl)) pss_nil)
      (pss_one (ps_ret (pe_and (pe_callB (cr_all rfl) (by rfl) (T.all "all" (by decide)) (by decide +kernel) (pa_cons (pe_lc (own := [("pair", 3)]) (g := gName 3) (tt := tYes) (te := tCall (spPair K) [] E0 (tCons (tVar 0) (tCons (tVar 1) (tCons (tVar 3) tNil)))) rfl scIsDiff.nd (pi_tup (pv 2))
          (blkOk_by (own := [("pair", 3)]) (N := ["old", "new", "value", "pair"]) (sc := defScope sIsDiff) (by decide +kernel)) (fun _ _ _ _ _ => pg_name (i := 3) scIsDiff.nd rfl (Or.inl rfl)) (fun _ _ _ _ _ => pts_nil)
          (fun _ _ _ _ _ => pe_call GP hr rfl mP FP.kp bP .nil pass0 (pa_cons (pv 0) (pa_cons (pv 1) (pa_cons (pv 3) pa_nil))))) pa_nil))
        (pe_one (pe_call GR (hr.mono (by decide)) rfl mR FR.kp bR .nil pass0 (pa_cons (pv 2) pa_nil))))))), ?_⟩
    refine ⟨_, rfl, _, rfl, [d1, d2], .cons t1 (.cons t2 .nil), by show 2 ≤ 100; decide, fun ht H1 s1 => ?_, bad⟩
    have ht1 : isText d1 = true ∧ isText d2 = true := by
      have : (isText d1 && (isText d2 && true)) = true := ht
      simpa using this
    have zz := z ht1.1 ht1.2
    refine ⟨_, rfl, v, _, _, _, _, rfl, .ty "tuple", (hv.same s1).ty, kit_ty (kit_tuple dv), _, rfl, ?_⟩
    have zz1 := zz H1 s1
    cases hv with
    | @tup a xs ds h1 h2 =>
      have tx1 := (text_is t1 ht1.1).same s1
      have tx2 := (text_is t2 ht1.2).same s1
      have h1' := XR.Same.tup s1 h1
      have lds : ds.length ≤ 1000 := lv
      refine iteF ⟨_, rfl, a, rfl, ⟨_, h1'⟩, fun D nD => ?_⟩
      have sD := same_upd (o := .lst []) nD
      refine lc_tup (K := K) (a := a) (xs := xs) (fun i H' => Same H1 H' ∧ H' D = some (.lst (((ds.take i).map (pairOk (strsOf d1) (strsOf d2))).map V.bl))) ⟨sD, upd_same⟩ (fun i H' _ hh => XR.Same.tup hh.1 h1') ?_ ?_
      · rintro i x H' hx ⟨sm, hD⟩
        obtain ⟨d, hd1, hd2⟩ := h2.get hx
        refine ⟨rfl, ?_⟩
        unfold tYes
        dsimp only
        rw [if_pos rfl]
        refine ⟨_, rfl, _, rfl, _, rfl, x1, x2, x, _, _, d, rfl, tx1.same sm, tx2.same sm, (hd2.same s1).same sm, fun H2 s2 => ⟨_, s2 _ _ hD, ?_, fun b o h => ?_, ?_⟩⟩
        · rw [List.length_map, List.length_map]
          have c3 : (ds.take i).length ≤ 1000 := by rw [List.length_take]; omega
          exact Nat.lt_of_le_of_lt c3 (by decide)
        · rw [upd_ne (ne_of_none h nD)]
          exact s2 _ _ (sm _ _ h)
        · rw [upd_same, List.take_add_one, hd1, List.map_append, List.map_append]
          rfl
      · rintro H' ⟨sm, hD⟩
        have s1' := s1.trans sm
        have zz2 := zz H' s1'
        refine ⟨D, ds.map (pairOk (strsOf d1) (strsOf d2)), rfl, SqL.of (by rw [hD, h2.length, List.take_length]), _, rfl, ?_⟩
        have e : (ds.map (pairOk (strsOf d1) (strsOf d2))).all id = ds.all (pairOk (strsOf d1) (strsOf d2)) := by rw [List.all_map]; rfl
        have ez : isDiffB (strsOf d1) (strsOf d2) (.tuple ds) = (ds.all (pairOk (strsOf d1) (strsOf d2)) && rising (ds.map pairOf)) := rfl
        rw [ez] at zz2
        rw [e]
        cases ea : ds.all (pairOk (strsOf d1) (strsOf d2)) with
        | false =>
          rw [ea] at zz2
          exact iteF zz2
        | true =>
          refine iteT ⟨_, rfl, a, xs, ds.map pairOf, rfl, XR.Same.tup sm h1', (prs_of h2 ea).same s1', by rw [List.length_map]; exact lds, fun H2 s2 => ?_⟩
          have zz3 := zz H2 (s1'.trans s2)
          rw [ez, ea] at zz3
          exact zz3
    | non => exact iteT zz1
    | bl b => exact iteT zz1
    | int i => exact iteT zz1
    | str s => exact iteT zz1
    | lst h1 h2 => exact iteT zz1
    | dct h1 h2 h3 => exact iteT zz1
end
end K62
namespace XR
open PySem L2
def tupD (q : Nat × Nat) : PyData := .tuple [.int (q.1 : Int), .int (q.2 : Int)]
def dfD (ps : List (Nat × Nat)) : PyData := .tuple (ps.map tupD)
theorem pair_ok {ss1 ss2 : List Str} {ps : List (Nat × Nat)} (h : IsDf ss1 ss2 ps) {q : Nat × Nat} (hq : q ∈ ps) : pairOk ss1 ss2 (tupD q) = true := by
  obtain ⟨a1, a2, b1, b2, s, e1, e2⟩ := h.1 q hq
  show (decide (1 ≤ (q.1 : Int)) && (decide ((q.1 : Int) ≤ ss1.length) && (decide (1 ≤ (q.2 : Int)) && (decide ((q.2 : Int) ≤ ss2.length) && decide (ss1[((q.1 : Int) - 1).toNat]? = ss2[((q.2 : Int) - 1).toNat]?))))) = true
  have z1 : ((q.1 : Int) - 1).toNat = q.1 - 1 := by omega
  have z2 : ((q.2 : Int) - 1).toNat = q.2 - 1 := by omega
  rw [z1, z2, e1, e2, decide_eq_true (show (1 : Int) ≤ (q.1 : Int) by omega), decide_eq_true (show (q.1 : Int) ≤ (ss1.length : Int) by omega), decide_eq_true (show (1 : Int) ≤ (q.2 : Int) by omega), decide_eq_true (show (q.2 : Int) ≤ (ss2.length : Int) by omega)]
  simp
theorem rise_ok : ∀ {ps : List (Nat × Nat)}, ps.Pairwise (fun x y => x.1 < y.1 ∧ x.2 < y.2) → rising ((ps.map tupD).map pairOf) = true
  | [], _ => rfl
  | [_], _ => rfl
  | p :: q :: ps, h => by
    have h2 := rise_ok (List.pairwise_cons.mp h).2
    have h1 := (List.pairwise_cons.mp h).1 q (List.mem_cons_self ..)
    have e : rising (((p :: q :: ps).map tupD).map pairOf) = (riseB (p.1, p.2) (q.1, q.2) && rising (((q :: ps).map tupD).map pairOf)) := rfl
    rw [e, h2]
    unfold riseB
    rw [decide_eq_true (show ((p.1 : Int), (p.2 : Int)).1 < ((q.1 : Int), (q.2 : Int)).1 by show (p.1 : Int) < q.1; omega), decide_eq_true (show ((p.1 : Int), (p.2 : Int)).2 < ((q.1 : Int), (q.2 : Int)).2 by show (p.2 : Int) < q.2; omega)]
    rfl
theorem df_ok {ss1 ss2 : List Str} {ps : List (Nat × Nat)} (h : IsDf ss1 ss2 ps) : isDiffB ss1 ss2 (dfD ps) = true := by
  show ((ps.map tupD).all (pairOk ss1 ss2) && rising ((ps.map tupD).map pairOf)) = true
  rw [rise_ok h.2, Bool.and_true, List.all_eq_true]
  intro d hd
  obtain ⟨q, hq, rfl⟩ := List.mem_map.mp hd
  exact pair_ok h hq
theorem df_len {ss1 ss2 : List Str} {ps : List (Nat × Nat)} (h : IsDf ss1 ss2 ps) : ps.length ≤ ss1.length := by
  have key : ∀ (ps : List (Nat × Nat)) (lo : Nat), ps.Pairwise (fun x y => x.1 < y.1 ∧ x.2 < y.2) → (∀ q, q ∈ ps → lo < q.1 ∧ q.1 ≤ ss1.length) → ps.length + lo ≤ ss1.length ∨ ps = [] := by
    intro ps
    induction ps with
    | nil => intro lo _ _; exact .inr rfl
    | cons p ps ih =>
      intro lo hp hq
      have hp2 := List.pairwise_cons.mp hp
      have q0 := hq p (List.mem_cons_self ..)
      rcases ih p.1 hp2.2 (fun q hqm => ⟨(hp2.1 q hqm).1, (hq q (List.mem_cons_of_mem _ hqm)).2⟩) with h | h
      · left; rw [List.length_cons]; omega
      · left; rw [h, List.length_cons, List.length_nil]; omega
  rcases key ps 0 h.2 (fun q hq => ⟨by have := (h.1 q hq).1; omega, (h.1 q hq).2.1⟩) with h | h
  · omega
  · rw [h]; exact Nat.zero_le _
/-- a diff as a value -/
def DfV (K : PySem.W.Frag) (H : Hp) (v : V) (ps : List (Nat × Nat)) : Prop := Dq K H v (dfD ps)
theorem DfAt.v {K : PySem.W.Frag} {H : Hp} {t : Addr} {ps : List (Nat × Nat)} (h : DfAt H t ps) : DfV K H (.ref t) ps := by
  obtain ⟨rs, h1, h2, h3⟩ := h
  have key : ∀ (rs : List Addr) (ps : List (Nat × Nat)), rs.length = ps.length → (∀ (i : Nat) (q : Nat × Nat), ps[i]? = some q → ∃ r : Addr, rs[i]? = some r ∧ H r = some (tupV q)) → DqAll K H (refs rs) (ps.map tupD) := by
    intro rs
    induction rs with
    | nil =>
      intro ps hl _
      cases ps with
      | nil => exact .nil
      | cons p ps => simp at hl
    | cons r rs ih =>
      intro ps hl hq
      cases ps with
      | nil => simp at hl
      | cons p ps =>
        obtain ⟨r', e1, e2⟩ := hq 0 p rfl
        obtain rfl : r = r' := Option.some.inj e1
        exact .cons (.tup (.inl (.inl e2)) (.cons (.int _) (.cons (.int _) .nil))) (ih ps (by simpa using hl) fun i q h => hq (i + 1) q h)
  exact .tup (.inl (.inl h1)) (key rs ps h2 h3)
theorem DfV.same {K : PySem.W.Frag} {H H' : Hp} {v : V} {ps : List (Nat × Nat)} (s : Same H H') (h : DfV K H v ps) : DfV K H' v ps := Dq.same s h
def spCheckD (K : PySem.W.Frag) (CT CD : Addr) : Sp := fun vs H Q E => ∃ (x1 x2 v : V) (d1 d2 dv : PyData), vs = [x1, x2, v] ∧ Dq K H x1 d1 ∧ Dq K H x2 d2 ∧ Dq K H v dv ∧ (itemsOf dv).length ≤ 1000 ∧
  (isText d1 = true → isText d2 = true → isDiffB (strsOf d1) (strsOf d2) dv = true → ∀ H', Same H H' → Q .non H') ∧ BadT CT [x1, x2] [d1, d2] H E ∧
  (isText d1 = true → isText d2 = true → isDiffB (strsOf d1) (strsOf d2) dv = false → ∀ H' dd, Same H H' → H dd = none → H' dd = some (.xd [("value", v)]) → E (.ref CD) (some dd) H')
end XR
namespace K62
open PySem L2 XR
abbrev sCheckD : Stmt := top 18
section
variable {P : Program} {w : World} {K : PySem.W.Frag} {mg : Str → Option Value} {base : Heap}
theorem scCheckD : FnScope ["old", "new", "diff"] ["old", "new", "diff"] (defScope sCheckD) := ⟨rfl, rfl, rfl, by decide +kernel, rfl, by decide +kernel, by decide +kernel⟩
theorem ok_checkD {f fI CT CD : Addr} {fd fdI : FuncData} (F : Fun K "check_diff" "check_diff" sCheckD f fd) (hsup : mg "super" = none) (XD : XOk P K mg "InvalidDiff" CD 1 (fvOne "value"))
    (FI : Fun K "is_diff" "is_diff" sIsDiff fI fdI) (GI : FnOk P w K mg base (L2.CX P w) 4 fI fdI ["old", "new", "value"] (spIsDiff K CT)) (bI : Binds K fdI ["old", "new", "value"] []) (mI : mg "is_diff" = some (.ref fI)) : FnOk P w K mg base (L2.CX P w) 5 f fd ["old", "new", "diff"] (spCheckD K CT CD) := by
  refine F.okX scCheckD (fun vs H Q E h => ?_) (fun cdv A outer s H vs Q E hr h => ?_)
  · obtain ⟨x1, x2, v, d1, d2, dv, rfl, _⟩ := h
    rfl
  · obtain ⟨x1, x2, v, d1, d2, dv, rfl, t1, t2, hv, lv, z, bad, zd⟩ := h
    refine ⟨_, pss_one (ps_if (pt_not (pt_val (pe_callS GI hr rfl mI FI.kp bI (fun σ => passAt (takes_of rfl rfl rfl rfl) σ) (pa_cons (pv 0) (pa_cons (pv 1) (pa_cons (pv 2) pa_nil))))))
      (pss_one (ps_raiseX rfl (takes_of rfl rfl rfl rfl) XD.mx XD.ne XD.kp (hr.mono (by decide)) hsup XD.bP XD.tP rfl XD.g (pa_cons (pv 2) pa_nil))) pss_nil), ?_⟩
    refine ⟨_, rfl, _, rfl, _, rfl, x1, x2, v, d1, d2, dv, rfl, t1, t2, hv, lv, fun e1 e2 H1 s1 => ⟨_, rfl, ?_⟩, bad⟩
    cases e3 : isDiffB (strsOf d1) (strsOf d2) dv with
    | true => exact iteF (z e1 e2 e3 H1 s1)
    | false =>
      refine iteT ⟨_, rfl, rfl, fun dd ndd => ?_⟩
      refine zd e1 e2 e3 _ dd (s1.trans (same_upd ndd)) ?_ upd_same
      cases q : H dd with
      | none => rfl
      | some o => rw [s1 _ _ q] at ndd; cases ndd
end
end K62
namespace XR
open PySem L2
/-- a text as a value -/
def TxV (K : PySem.W.Frag) (H : Hp) (x : V) (ss : List Str) : Prop := ∃ d, Dq K H x d ∧ isText d = true ∧ strsOf d = ss
theorem TxV.same {K : PySem.W.Frag} {H H' : Hp} {x : V} {ss : List Str} (s : Same H H') (h : TxV K H x ss) : TxV K H' x ss :=
  let ⟨d, a, b, c⟩ := h; ⟨d, a.same s, b, c⟩
theorem TxV.a {K : PySem.W.Frag} {H : Hp} {x : V} {ss : List Str} (h : TxV K H x ss) : TxA K H x ss := by
  obtain ⟨d, a, b, rfl⟩ := h
  exact text_is a b
theorem TxV.len {K : PySem.W.Frag} {H : Hp} {x : V} {ss : List Str} (h : TxV K H x ss) : ss.length ≤ 60 := by
  obtain ⟨d, a, b, rfl⟩ := h
  unfold isText at b
  rw [Bool.and_eq_true, Bool.and_eq_true] at b
  unfold strsOf
  rw [List.length_map]
  exact of_decide_eq_true b.2.1
theorem strs_back (ss : List Str) : (ss.map PyData.str).map strOf = ss := by
  rw [List.map_map]
  exact (List.map_congr_left fun s _ => rfl).trans (List.map_id _)
theorem lst_text {K : PySem.W.Frag} {H : Hp} {p : Addr} {ss : List Str} (h : SqL K H p (ss.map V.str)) (w : Wd ss) (l : ss.length ≤ 60) : TxV K H (.ref p) ss :=
  ⟨.list (ss.map .str), .lst h (dqStrs ss), text_ok rfl rfl w l, strs_back ss⟩
theorem tup_text {K : PySem.W.Frag} {H : Hp} {p : Addr} {ss : List Str} (h : SqT K H p (ss.map V.str)) (w : Wd ss) (l : ss.length ≤ 60) : TxV K H (.ref p) ss :=
  ⟨.tuple (ss.map .str), .tup h (dqStrs ss), text_ok rfl rfl w l, strs_back ss⟩
/-- where the pairs of a diff stand -/
theorem DfV.items {K : PySem.W.Frag} {H : Hp} {v : V} {ps : List (Nat × Nat)} (h : DfV K H v ps) : ∃ (t : Addr) (xs : List V), v = .ref t ∧ SqT K H t xs ∧ xs.length = ps.length ∧ ∀ (i : Nat) (x : V), xs[i]? = some x → ∃ (q : Nat × Nat) (r : Addr), ps[i]? = some q ∧ x = .ref r ∧ SqT K H r [.int (q.1 : Int), .int (q.2 : Int)] := by
  unfold DfV dfD at h
  cases h with
  | @tup a xs ds h1 h2 =>
    refine ⟨a, xs, rfl, h1, by rw [h2.length, List.length_map], fun i x hx => ?_⟩
    obtain ⟨d, hd, hq⟩ := h2.get hx
    rw [List.getElem?_map] at hd
    obtain ⟨q, e1, rfl⟩ := Option.map_eq_some_iff.mp hd
    unfold tupD at hq
    cases hq with
    | @tup r ys es k1 k2 =>
      obtain ⟨d1, d2, y1, y2, e3, rfl, m1, m2⟩ := k2.two rfl
      injection e3 with e3 e4
      injection e4 with e4 _
      subst e3 e4
      cases m1
      cases m2
      exact ⟨q, r, e1, rfl, k1⟩
/-- one more pair, made new and appended -/
theorem psStep {H : Hp} {D r : Addr} {rs : List Addr} {ps : List (Nat × Nat)} {q : Nat × Nat} (hD : H D = some (.lst (refs rs))) (h : PsAt H rs ps) (nr : H r = none) :
    upd H r (tupV q) D = some (.lst (refs rs)) ∧ PsAt (upd (upd H r (tupV q)) D (.lst (refs rs ++ [V.ref r]))) (rs ++ [r]) (ps ++ [q]) ∧ upd (upd H r (tupV q)) D (.lst (refs rs ++ [V.ref r])) D = some (.lst (refs (rs ++ [r]))) := by
  have s := same_upd (o := tupV q) nr
  have hD' := s _ _ hD
  refine ⟨hD', ((h.same s).snoc upd_same).updL hD', ?_⟩
  rw [upd_same]
  unfold refs
  rw [List.map_append]
  rfl
def swp (q : Nat × Nat) : Nat × Nat := (q.2, q.1)
/-- a diff turned about -/
def spAbout (K : PySem.W.Frag) : Sp := fun vs H Q _ => ∃ (x1 x2 v : V) (ss1 ss2 : List Str) (ps : List (Nat × Nat)), vs = [x1, x2, v] ∧ TxV K H x1 ss1 ∧ TxV K H x2 ss2 ∧ DfV K H v ps ∧ IsDf ss1 ss2 ps ∧
  ∀ t H', Same H H' → H t = none → DfAt H' t (ps.map swp) → Q (.ref t) H'
end XR
namespace K62
open PySem L2 XR
section
variable {P : Program} {w : World} {K : PySem.W.Frag} {mg : Str → Option Value} {base : Heap}
/-- check_diff, its facts -/
structure Chk (P : Program) (w : World) (K : PySem.W.Frag) (mg : Str → Option Value) (base : Heap) (fC CT CD : Addr) (fdC : FuncData) : Prop where
  F : Fun K "check_diff" "check_diff" sCheckD fC fdC
  G : FnOk P w K mg base (L2.CX P w) 5 fC fdC ["old", "new", "diff"] (spCheckD K CT CD)
  b : Binds K fdC ["old", "new", "diff"] []
  m : mg "check_diff" = some (.ref fC)
/-- the check of what is a diff raises nothing -/
theorem chk_ok {K : PySem.W.Frag} {CT CD : Addr} {H : Hp} {x1 x2 v : V} {ss1 ss2 : List Str} {ps : List (Nat × Nat)} {Q : VK} (t1 : TxV K H x1 ss1) (t2 : TxV K H x2 ss2) (hv : DfV K H v ps) (h : IsDf ss1 ss2 ps) (z : ∀ H', Same H H' → Q .non H') : spCheckD K CT CD [x1, x2, v] H Q E0 := by
  have l1 := t1.len
  obtain ⟨d1, a1, b1, rfl⟩ := t1
  obtain ⟨d2, a2, b2, rfl⟩ := t2
  have hl := df_len h
  refine ⟨x1, x2, v, d1, d2, dfD ps, rfl, a1, a2, hv, ?_, fun _ _ _ => z, BadT.none (by simp [b1, b2]), fun _ _ e => ?_⟩
  · show (ps.map tupD).length ≤ 1000
    rw [List.length_map]
    omega
  · rw [df_ok h] at e; cases e
end
end K62
namespace XR
open PySem L2
/-- the reading of a dict's comprehension -/
theorem dc_it {J : It} {n : Nat} {G : Hp → Prop} {Y : Nat → Hp → V → Hp → Prop} (w : Walk J n G Y) {g : TG} {tt : TT} {tk tv : TE} {vs : List Nat} {σ : St} {H1 : Hp} {D : Addr} {Qd : Hp → Prop} (Pv : Nat → Hp → Prop)
    (h0 : Pv 0 (upd H1 D (.dK []))) (hG : ∀ i H, i ≤ n → Pv i H → G H)
    (hs : ∀ i x H H', i < n → Pv i H → Y i H x H' → g x (wipe σ vs) H' fun σ2 H2 => wipe σ2 vs = wipe σ vs ∧ tt σ2 H2 fun b H3 => if b = true then tk σ2 H3 fun y H4 => tv σ2 H4 fun z H5 => ∃ kvs k, y = kV k ∧ H5 D = some (.dK kvs) ∧ kvs.length < sizeLine ∧ Pv (i + 1) (upd H5 D (.dK (putK kvs k z))) else Pv (i + 1) H3)
    (hd : ∀ H, Pv n H → Qd H) :
    ∃ W : Nat → Nat → Hp → Prop, (∃ m, W 0 m (upd H1 D (.dK []))) ∧ ∀ i m H, W i m H → (J.stop i H ∧ Qd H) ∨ (J.go i H ∧ ∃ Nx : Hp → Prop, (∀ H', Nx H' → ∃ m', m' < m ∧ W (i + 1) m' H') ∧ ∀ x H', J.yld i H x H' → g x (wipe σ vs) H' fun σ2 H2 => wipe σ2 vs = wipe σ vs ∧ tt σ2 H2 fun b H3 => if b = true then tk σ2 H3 fun y H4 => tv σ2 H4 fun z H5 => ∃ kvs k, y = kV k ∧ H5 D = some (.dK kvs) ∧ kvs.length < sizeLine ∧ Nx (upd H5 D (.dK (putK kvs k z))) else Nx H3) := by
  refine ⟨fun i m H => m = n - i ∧ i ≤ n ∧ Pv i H, ⟨n, rfl, Nat.zero_le _, h0⟩, ?_⟩
  rintro i m H ⟨rfl, hi, hp⟩
  by_cases e : i = n
  · subst e
    exact .inl ⟨w.stops H (hG _ _ (Nat.le_refl _) hp), hd H hp⟩
  · have hlt : i < n := by omega
    exact .inr ⟨w.goes i H hlt (hG _ _ hi hp), Pv (i + 1), fun H' h => ⟨n - (i + 1), by omega, rfl, by omega, h⟩, fun x H' hy => hs i x H H' hlt hp (w.yields i H x H' hlt (hG _ _ hi hp) hy)⟩
def mapK (qs : List (Nat × Nat)) : List (Key × V) := qs.map fun q => (Sum.inl (q.1 : Int), V.int (q.2 : Int))
def far (qs : List (Nat × Nat)) (j : Nat) : Option Nat := (qs.find? fun q => decide (q.1 = j)).map (·.2)
theorem valV_map : ∀ (qs : List (Nat × Nat)) (j : Nat), valV (mapK qs) (Sum.inl (j : Int)) = (far qs j).map fun k => V.int (k : Int)
  | [], j => rfl
  | q :: qs, j => by
    have ih := valV_map qs j
    unfold valV mapK far at ih ⊢
    rw [List.map_cons, List.find?_cons, List.find?_cons]
    by_cases e : q.1 = j
    · rw [e]; simp
    · have e2 : decide ((Sum.inl (q.1 : Int) : Key) = Sum.inl (j : Int)) = false := decide_eq_false fun h => e (by injection h with h; omega)
      rw [e2, decide_eq_false e]
      exact ih
theorem put_new {qs : List (Nat × Nat)} {q : Nat × Nat} (h : ∀ p, p ∈ qs → p.1 ≠ q.1) : putK (mapK qs) (Sum.inl (q.1 : Int)) (V.int (q.2 : Int)) = mapK (qs ++ [q]) := by
  have e : (mapK qs).any (fun kv => decide (kv.1 = Sum.inl (q.1 : Int))) = false := by
    rw [List.any_eq_false]
    intro kv hkv
    obtain ⟨p, hp, rfl⟩ := List.mem_map.mp hkv
    have := h p hp
    intro z
    have z2 := of_decide_eq_true z
    injection z2 with z2
    omega
  unfold putK
  rw [e]
  simp [mapK]
/-- two diffs joined -/
def joinD (ps qs : List (Nat × Nat)) : List (Nat × Nat) := ps.filterMap fun p => (far qs p.2).map fun k => (p.1, k)
theorem far_mem {qs : List (Nat × Nat)} {j k : Nat} (h : far qs j = some k) : (j, k) ∈ qs := by
  unfold far at h
  obtain ⟨q, h1, h2⟩ := Option.map_eq_some_iff.mp h
  have a := List.find?_some h1
  have b := List.mem_of_find?_eq_some h1
  have a2 : q.1 = j := of_decide_eq_true a
  have : q = (j, k) := by rw [← a2, ← h2]
  rw [← this]; exact b
theorem pair_lt {qs : List (Nat × Nat)} (h : qs.Pairwise fun x y => x.1 < y.1 ∧ x.2 < y.2) {p q : Nat × Nat} (hp : p ∈ qs) (hq : q ∈ qs) (lt : p.1 < q.1) : p.2 < q.2 := by
  induction qs with
  | nil => cases hp
  | cons a qs ih =>
    have h2 := List.pairwise_cons.mp h
    rcases List.mem_cons.mp hp with rfl | hp'
    · rcases List.mem_cons.mp hq with rfl | hq'
      · omega
      · exact (h2.1 q hq').2
    · rcases List.mem_cons.mp hq with rfl | hq'
      · have := (h2.1 p hp').1; omega
      · exact ih h2.2 hp' hq'
theorem join_mem {ps qs : List (Nat × Nat)} {x : Nat × Nat} (h : x ∈ joinD ps qs) : ∃ j, (x.1, j) ∈ ps ∧ (j, x.2) ∈ qs := by
  unfold joinD at h
  obtain ⟨p, hp, e⟩ := List.mem_filterMap.mp h
  obtain ⟨k, hk, rfl⟩ := Option.map_eq_some_iff.mp e
  exact ⟨p.2, hp, far_mem hk⟩
theorem join_df {ss1 ss2 ss3 : List Str} {ps qs : List (Nat × Nat)} (h1 : IsDf ss1 ss2 ps) (h2 : IsDf ss2 ss3 qs) : IsDf ss1 ss3 (joinD ps qs) := by
  refine ⟨fun x hx => ?_, ?_⟩
  · obtain ⟨j, hp, hq⟩ := join_mem hx
    obtain ⟨a1, a2, b1, b2, s, e1, e2⟩ := h1.1 _ hp
    obtain ⟨c1, c2, d1, d2, s', e3, e4⟩ := h2.1 _ hq
    have es : s = s' := Option.some.inj (e2.symm.trans e3)
    exact ⟨a1, a2, d1, d2, s, e1, by rw [es]; exact e4⟩
  · have key : ∀ (l : List (Nat × Nat)), l.Pairwise (fun x y => x.1 < y.1 ∧ x.2 < y.2) → (joinD l qs).Pairwise fun x y => x.1 < y.1 ∧ x.2 < y.2 := by
      intro l
      induction l with
      | nil => intro _; exact .nil
      | cons p l ih =>
        intro hl
        have hl2 := List.pairwise_cons.mp hl
        have i2 := ih hl2.2
        cases e : far qs p.2 with
        | none =>
          have e2 : joinD (p :: l) qs = joinD l qs := by unfold joinD; rw [List.filterMap_cons, e]; rfl
          rw [e2]; exact i2
        | some k =>
          have e2 : joinD (p :: l) qs = (p.1, k) :: joinD l qs := by unfold joinD; rw [List.filterMap_cons, e]; rfl
          rw [e2, List.pairwise_cons]
          refine ⟨fun y hy => ?_, i2⟩
          obtain ⟨j, hy1, hy2⟩ := join_mem hy
          have lt := hl2.1 _ hy1
          exact ⟨lt.1, pair_lt (p := (p.2, k)) (q := (j, y.2)) h2.2 (far_mem e) hy2 lt.2⟩
    exact key ps h1.2
end XR
namespace XR
open PySem L2
/-- the way out of a judge of diffs -/
def BadD (C : Addr) (v : V) (H : Hp) (E : XK) : Prop := ∀ H' dd, Same H H' → H dd = none → H' dd = some (.xd [("value", v)]) → E (.ref C) (some dd) H'
theorem BadD.same {C : Addr} {v : V} {H H1 : Hp} {E : XK} (s : Same H H1) (h : BadD C v H E) : BadD C v H1 E := fun H' dd s' n k => by
  refine h H' dd (s.trans s') ?_ k
  cases q : H dd with
  | none => rfl
  | some o => rw [s _ _ q] at n; cases n
def spJoined (K : PySem.W.Frag) (CT CD : Addr) : Sp := fun vs H Q E => ∃ (x1 x2 x3 v1 v2 : V), vs = [x1, x2, x3, v1, v2] ∧
  ((∃ (ss1 ss2 ss3 : List Str) (ps qs : List (Nat × Nat)), TxV K H x1 ss1 ∧ TxV K H x2 ss2 ∧ TxV K H x3 ss3 ∧ DfV K H v1 ps ∧ IsDf ss1 ss2 ps ∧ DfV K H v2 qs ∧ IsDf ss2 ss3 qs ∧ ∀ t H', Same H H' → H t = none → DfAt H' t (joinD ps qs) → Q (.ref t) H') ∨
   (∃ d1 d2 d3 : PyData, Dq K H x1 d1 ∧ Dq K H x2 d2 ∧ Dq K H x3 d3 ∧ ([d1, d2, d3] : List PyData).all isText = false ∧ BadT CT [x1, x2, x3] [d1, d2, d3] H E) ∨
   (∃ (ss1 ss2 ss3 : List Str) (dv : PyData), TxV K H x1 ss1 ∧ TxV K H x2 ss2 ∧ TxV K H x3 ss3 ∧ Dq K H v1 dv ∧ (itemsOf dv).length ≤ 1000 ∧ isDiffB ss1 ss2 dv = false ∧ BadD CD v1 H E) ∨
   (∃ (ss1 ss2 ss3 : List Str) (ps : List (Nat × Nat)) (dv : PyData), TxV K H x1 ss1 ∧ TxV K H x2 ss2 ∧ TxV K H x3 ss3 ∧ DfV K H v1 ps ∧ IsDf ss1 ss2 ps ∧ Dq K H v2 dv ∧ (itemsOf dv).length ≤ 1000 ∧ isDiffB ss2 ss3 dv = false ∧ BadD CD v2 H E))
theorem join_step {ps qs : List (Nat × Nat)} {i : Nat} {q : Nat × Nat} (hq : ps[i]? = some q) : joinD (ps.take (i + 1)) qs = joinD (ps.take i) qs ++ ((far qs q.2).map fun k => (q.1, k)).toList := by
  rw [List.take_add_one, hq]
  unfold joinD
  rw [List.filterMap_append]
  have e0 : List.filterMap (fun p : Nat × Nat => (far qs p.2).map fun k => (p.1, k)) (some q).toList = ((far qs q.2).map fun k => (q.1, k)).toList := by
    cases e : far qs q.2 with
    | none => simp [e]
    | some k => simp [e]
  rw [e0]
/-- the check of texts that are some -/
theorem chkT_ok {K : PySem.W.Frag} {CT : Addr} {H : Hp} {x1 x2 x3 : V} {ss1 ss2 ss3 : List Str} {Q : VK} {E : XK} (t1 : TxV K H x1 ss1) (t2 : TxV K H x2 ss2) (t3 : TxV K H x3 ss3) (z : ∀ H', Same H H' → Q .non H') : spCheck K CT [x1, x2, x3] H Q E := by
  obtain ⟨d1, a1, b1, _⟩ := t1
  obtain ⟨d2, a2, b2, _⟩ := t2
  obtain ⟨d3, a3, b3, _⟩ := t3
  exact ⟨[d1, d2, d3], .cons a1 (.cons a2 (.cons a3 .nil)), by show 3 ≤ 100; decide, fun _ => z, BadT.none (by simp [b1, b2, b3])⟩
theorem chkD_ok {K : PySem.W.Frag} {CT CD : Addr} {H : Hp} {x1 x2 v : V} {ss1 ss2 : List Str} {ps : List (Nat × Nat)} {Q : VK} {E : XK} (t1 : TxV K H x1 ss1) (t2 : TxV K H x2 ss2) (hv : DfV K H v ps) (h : IsDf ss1 ss2 ps) (z : ∀ H', Same H H' → Q .non H') : spCheckD K CT CD [x1, x2, v] H Q E := by
  have l1 := t1.len
  obtain ⟨d1, a1, b1, rfl⟩ := t1
  obtain ⟨d2, a2, b2, rfl⟩ := t2
  have hl := df_len h
  refine ⟨x1, x2, v, d1, d2, dfD ps, rfl, a1, a2, hv, ?_, fun _ _ _ => z, BadT.none (by simp [b1, b2]), fun _ _ e => ?_⟩
  · show (ps.map tupD).length ≤ 1000
    rw [List.length_map]
    omega
  · rw [df_ok h] at e; cases e
theorem chkD_bad {K : PySem.W.Frag} {CT CD : Addr} {H : Hp} {x1 x2 v : V} {ss1 ss2 : List Str} {dv : PyData} {Q : VK} {E : XK} (t1 : TxV K H x1 ss1) (t2 : TxV K H x2 ss2) (hv : Dq K H v dv) (hl : (itemsOf dv).length ≤ 1000) (e : isDiffB ss1 ss2 dv = false) (z : BadD CD v H E) : spCheckD K CT CD [x1, x2, v] H Q E := by
  obtain ⟨d1, a1, b1, rfl⟩ := t1
  obtain ⟨d2, a2, b2, rfl⟩ := t2
  refine ⟨x1, x2, v, d1, d2, dv, rfl, a1, a2, hv, hl, fun _ _ e2 => ?_, BadT.none (by simp [b1, b2]), fun _ _ _ => z⟩
  rw [e] at e2; cases e2
end XR
namespace K62
open PySem L2 XR
section
variable {P : Program} {w : World} {K : PySem.W.Frag} {mg : Str → Option Value} {base : Heap}
end
end K62
namespace XR
open PySem PySem.Spec L2 PyProof.Rows
/-- name = {k: v for ..}, the name a local of the def -/
theorem ps_setDc {X : Cx} {i : Nat} {y : Str} {py : Pos} {kx vx tg iter : Expr} {ifs : List Expr} {scope : Scope} {own : List (Str × Nat)} {pos spos : Pos} {wi : TI} {g : TG} {tt : TT} {tk tv : TE}
    (c0 : X.calm = true) (n0 : X.N.Nodup) (yi : X.N[i]? = some y) (yl : X.env.scope.names.lookup y = some .local)
    (sw : swapsWith (.DictComp kx vx [⟨tg, iter, ifs, 0⟩] scope pos) (some (.Name y py)) spos.line X.env = pure true) (wk : PI X tg iter wi) (bl : BlkOk X.N X.env.scope scope own)
    (pg : ∀ (t : Shared) (J : Hp) (B : Addr) (l : List (Str × Addr)) (f : List Addr), PG (X.blk t J scope (compEnvC scope l B X.env) f) tg g)
    (pt : ∀ (t : Shared) (J : Hp) (B : Addr) (l : List (Str × Addr)) (f : List Addr), PTs (X.blk t J scope (compEnvC scope l B X.env) f) ifs tt)
    (pk : ∀ (t : Shared) (J : Hp) (B : Addr) (l : List (Str × Addr)) (f : List Addr), PE (X.blk t J scope (compEnvC scope l B X.env) f) kx tk)
    (pw : ∀ (t : Shared) (J : Hp) (B : Addr) (l : List (Str × Addr)) (f : List Addr), PE (X.blk t J scope (compEnvC scope l B X.env) f) vx tv)
    (fs : ∀ u, foldedSetIterable iter X.env u = pure u := by intro _; rfl) :
    PS X (.Assign [.Name y py] (.DictComp kx vx [⟨tg, iter, ifs, 0⟩] scope pos) spos) (tAsg (tDc wi g tt tk tv (own.map (·.2))) (gName i)) := by
  constructor
  intro pins t σ J D I r
  rw [exec_Assign_Name_used _ _ _ _ sw]
  apply wpAny_bind
  apply wpAny_standAt
  apply wpAny_bind
  have r2 : tDc wi g tt tk tv (own.map (·.2)) σ J (fun x J1 => gName i x σ J1 D.nx) := r
  show wpAny _ X.A (comprehension (.DictComp kx vx [⟨tg, iter, ifs, 0⟩] scope pos) scope X.env (firstIterPos [⟨tg, iter, ifs, 0⟩] pos) newDict false (eval iter X.env) (some (assign (.Name y py) X.env)) >>= fun _ => pure ()) _ _ t
  apply wpAny_bind
  refine thn (dc_core (Qf := fun _ t2 => SP X pins D .next t2) c0 n0 I wk bl pg pt pk pw fs r2 ?_) fun _ t2 e => wpAny_pure (wpAny_pure e)
  intro L B t2 m J2 I2 q nb fp
  obtain ⟨w0, w1, w2, w3, w4, w5⟩ := fp
  show wpAny _ _ (assign (.Name y py) X.env (.ref L)) _ _ _
  refine wpAny_assign_Name (store_ok2 (v := V.ref L) I2 n0 yi (.inl yl) rfl ?_ (.inr yl))
  intro t3 I3 hh
  obtain ⟨b0, sb, hb⟩ := hh
  have ne : B ≠ b0 := by
    cases hb with
    | inl z => rw [z]; exact w1
    | inr z => intro e; exact w4 y b0 z e.symm
  refine ⟨m, nb.sameBut sb ne, fun h4 sb4 => ⟨_, J2, I3.turned (t' := t3.toks) (fun b o hbn e => (sb4.2 b hbn).trans e) w0 w1 w3 w4 w5, q⟩⟩
theorem sw_dc {kx vx : Expr} {gs : List Comprehension} {scope : Scope} {pos py : Pos} {y : Str} {l : Nat} {env : Env} (k0 : env.scope.kind = .function) (k1 : env.scope.names.lookup y = some .local) (k2 : (py.line == pos.line) = true)
    (k3 : (scope.names.any fun (n, k) => n == y && (k == .local || k == .cell)) = false) : swapsWith (.DictComp kx vx gs scope pos) (some (.Name y py)) l env = pure true := by
  have e1 : env.blockKind = .function := by unfold Env.blockKind; rw [k0]; rfl
  have e2 : env.kindOf y = some .local := k1
  unfold swapsWith
  simp only [e1, e2, k3, Expr.pos, k2]
  rfl
end XR
namespace XR
open PySem L2
def spWithin (K : PySem.W.Frag) : Sp := fun vs H Q _ => ∃ i lo hi : Int, vs = [.int i, .int lo, .int hi] ∧ ∀ H', Same H H' → Q (.bl (decide (lo ≤ i) && decide (i ≤ hi))) H'
def farV (ps : List (Nat × Nat)) (i : Nat) : V := match far ps i with
  | some k => .int (k : Int)
  | none => .non
def spPartner (K : PySem.W.Frag) : Sp := fun vs H Q _ => ∃ (x1 x2 v : V) (ss1 ss2 : List Str) (ps : List (Nat × Nat)) (i : Nat), vs = [x1, x2, v, .int (i : Int)] ∧ TxV K H x1 ss1 ∧ TxV K H x2 ss2 ∧ DfV K H v ps ∧ IsDf ss1 ss2 ps ∧ 1 ≤ i ∧ i ≤ ss1.length ∧
  ∀ H', Same H H' → Q (farV ps i) H'
/-- the keys of a diff are unlike -/
theorem df_dis {ss1 ss2 : List Str} {ps : List (Nat × Nat)} (h : IsDf ss1 ss2 ps) : ∀ (i : Nat) (q : Nat × Nat), ps[i]? = some q → ∀ p, p ∈ ps.take i → p.1 ≠ q.1 := fun i q hq p hp => by
  obtain ⟨k, hk⟩ := List.getElem?_of_mem hp
  rw [List.getElem?_take] at hk
  by_cases c : k < i
  · rw [if_pos c] at hk
    have l2 := (List.getElem?_eq_some_iff.mp hq).1
    have l1 := (List.getElem?_eq_some_iff.mp hk).1
    have e1 := (List.getElem?_eq_some_iff.mp hk).2
    have e2 := (List.getElem?_eq_some_iff.mp hq).2
    have := (List.pairwise_iff_getElem.mp h.2) k i l1 l2 c
    rw [e1, e2] at this
    omega
  · rw [if_neg c] at hk; cases hk
end XR
namespace K62
open PySem L2 XR
section
variable {P : Program} {w : World} {K : PySem.W.Frag} {mg : Str → Option Value} {base : Heap}
end
end K62
namespace XR
open PySem PySem.Spec PyProof.Rows HT
section
variable {prog : Program} {w : World} {A : Around} {E : Value → Shared → Prop} {s : Shared}
theorem fmCongr {α β : Type} {f g : α → Option β} : ∀ {l : List α}, (∀ x, x ∈ l → f x = g x) → l.filterMap f = l.filterMap g
  | [], _ => rfl
  | x :: l, h => by
    rw [List.filterMap_cons, List.filterMap_cons, h x (List.mem_cons_self ..), fmCongr fun y hy => h y (List.mem_cons_of_mem _ hy)]
theorem revPick (its : List Value) : ((List.range its.length).filterMap fun (m : Nat) => its.toArray[(((its.length : Int) - 1) + (m : Int) * (-1)).toNat]?).toArray = its.reverse.toArray := by
  congr 1
  have e : ∀ m, m ∈ List.range its.length → its.toArray[(((its.length : Int) - 1) + (m : Int) * (-1)).toNat]? = its.reverse[m]? := fun m hm => by
    have hm' := List.mem_range.mp hm
    rw [List.getElem?_reverse hm', show (((its.length : Int) - 1) + (m : Int) * (-1)).toNat = its.length - 1 - m by omega]
    simp
  rw [fmCongr e]
  have key : ∀ (l : List Value) (n : Nat), n ≤ l.length → (List.range n).filterMap (fun m => l[m]?) = l.take n := by
    intro l n
    induction n with
    | zero => intro _; simp
    | succ n ih =>
      intro hn
      rw [List.range_succ, List.filterMap_append, ih (by omega), List.take_add_one]
      simp [List.getElem?_eq_getElem (show n < l.length by omega)]
  rw [key its.reverse its.length (by simp), List.take_of_length_le (by simp)]
theorem getRevT {t sl : Addr} {its : List Value} {vl vu vs : Value} {Q : Value → Shared → Prop} (ht : IsTup s.heap t its.toArray) (hs : s.heap.IsSliceOf sl vl vu vs) (pl : IsPart vl none) (pu : IsPart vu none) (ps : IsPart vs (some (-1))) (hz : its.length ≤ sizeLine)
    (h : Q (.ref s.heap.objs.size) { s with heap := s.heap.push { cls := .type "tuple", data := .seq its.reverse.toArray } }) : wpAny (model prog w) A (getItem (.ref t) (.ref sl)) Q E s := by
  obtain ⟨os, a1, a2, a3⟩ := id hs
  have ty : s.TypeIs (.ref sl) "slice" := ⟨os, a1, a2⟩
  have fits : sizeOk (.seq its.reverse.toArray) := by
    show its.reverse.toArray.size ≤ sizeLine
    rw [List.size_toArray, List.length_reverse]; exact hz
  have cut : ∀ (A' : Around) (E' : Value → Shared → Prop), wpAny (model prog w) A' (Builtin.Slice.sliceApplied (.ref sl) (pure ((its.toArray.size : Nat) : Int))) (fun r s' => r = (((its.length : Int) - 1), -1, its.length) ∧ s' = s) E' s := by
    intro A' E'
    unfold Builtin.Slice.sliceApplied Builtin.Slice.sliceFields
    refine wpAny_bind (wpAny_bind (wpAny_field a1 a3 (x := vl) rfl (wpAny_bind (wpAny_field a1 a3 (x := vu) rfl (wpAny_bind (wpAny_field a1 a3 (x := vs) rfl (wpAny_pure ?_)))))))
    refine wpAny_bind (slicePart_ ps ?_)
    show wpAny _ _ (if ((-1 : Int) == 0) = true then _ else _) _ _ s
    rw [if_neg (by decide)]
    refine wpAny_bind (slicePart_ pl (wpAny_bind (slicePart_ pu (wpAny_bind (wpAny_pure (wpAny_pure ⟨?_, rfl⟩))))))
    have hp : Builtin.Slice.slicePlaces (((its.toArray.size : Nat) : Int) - 1) (-1) (-1) = its.length := by
      unfold Builtin.Slice.slicePlaces
      rw [if_neg (by decide), List.size_toArray]
      by_cases q : its.length = 0
      · rw [q]; decide
      · rw [if_pos (by omega)]
        have e1 : ((its.length : Int) - 1 - -1 - 1) / (- -1) = (its.length : Int) - 1 := by
          show ((its.length : Int) - 1 - -1 - 1) / 1 = _
          rw [Int.ediv_one]; omega
        rw [e1]; omega
    show ((((its.toArray.size : Nat) : Int) - 1), (-1 : Int), Builtin.Slice.slicePlaces (((its.toArray.size : Nat) : Int) - 1) (-1) (-1)) = _
    rw [hp, List.size_toArray]
  unfold getItem
  try with_reducible refine wpAny_holding ?_
  first | refine wpAny_bind (wpAny_pure ?_) | skip
  refine wpAny_bind (wpAny_sequenceKey ht.typeIs (by decide) ?_)
  refine wpAny_bind (wpAny_callSpecial?_slot (name := Str.ofString "__getitem__") ht.typeIs PyProof.Rows.slot_tuple_getitem (wpAny_call_entry PyProof.Rows.slot_tuple_getitem ht.typeIs entry_tuple_getitem ?_ (args_tuple_getitem _ _)))
  show wpAny _ _ (Builtin.Tuple.tupleItemsOf (.ref t) >>= _) _ _ s
  refine wpAny_bind (tupleItemsOf_ ht ?_)
  refine wpAny_bind (wpAny_typeOf ty ?_)
  rw [if_pos (by decide)]
  refine wpAny_bind (wpAny_mono (cut _ _) (fun r s' hr => ?_) fun _ _ e => e)
  obtain ⟨rfl, rfl⟩ := hr
  have no : ¬ ((((its.length : Int) - 1) == 0 && (-1 : Int) == 1 && its.length == its.toArray.size) = true) := by
    rw [show ((-1 : Int) == 1) = false from rfl, Bool.and_false, Bool.false_and]
    exact Bool.false_ne_true
  show wpAny _ _ (if (((its.length : Int) - 1) == 0 && (-1 : Int) == 1 && its.length == its.toArray.size) = true then _ else _) _ _ s'
  rw [if_neg no, revPick]
  first
    | exact wpAny_bind (m := Builtin.Tuple.tupleExact _) (wpAny_newObj_type (wpAny_pure ⟨_, rfl, wpAny_pure h⟩) fits)
    | exact wpAny_bind (m := Builtin.Tuple.tupleExact _) (wpAny_newObj_type (wpAny_bind (wpAny_pure (wpAny_pure ⟨_, rfl, wpAny_pure h⟩))) fits)
    | exact wpAny_bind (wpAny_bind (m := Builtin.Tuple.tupleExact _) (wpAny_newObj_type (wpAny_pure (wpAny_pure ⟨_, rfl, wpAny_pure h⟩)) fits))
    | exact wpAny_bind (wpAny_bind (m := Builtin.Tuple.tupleExact _) (wpAny_newObj_type (wpAny_pure ⟨_, rfl, wpAny_pure h⟩) fits))
end
/-- t[::-1], t a tuple -/
def tRevT (K : PySem.W.Frag) (te : L2.TE) : L2.TE := fun σ H Q => te σ H fun x H1 => ∃ a xs, x = .ref a ∧ L2.SqT K H1 a xs ∧ ∀ p, H1 p = none → Q (.ref p) (L2.upd H1 p (.tup xs.reverse))
open L2 in
theorem pe_revT {X : Cx} {e : Expr} {te : TE} {k : Nat} {p1 p2 p3 pos : Pos} (he : PE X e te) : PE X (.Subscript e (.Slice none none (some (.UnaryOp .USub (.Constant (.int 1) k p1) p2)) p3) pos) (tRevT X.K te) := by
  constructor
  intro pins s σ H Q I h
  refine Subscript_ (thn (he.run pins s σ H _ I h) fun v t1 hh => ?_)
  obtain ⟨x, J1, I1, r1, a, xs, rfl, hx, q⟩ := hh
  cases r1
  have back : PO X (some (.UnaryOp .USub (.Constant (.int 1) k p1) p2)) (tPart (tUn (rU fun i => .int (-i)) (tC (.int 1)))) := po_some (pe_un un_neg pe_int)
  refine wpAny_Slice (thn (po_none.run pins t1 σ J1 (fun o J => o = none ∧ J = J1) I1 ⟨rfl, rfl⟩) fun vl t2 g2 => ?_)
  obtain ⟨l, J2, I2, pl, rfl, rfl⟩ := g2
  refine thn (po_none.run pins t2 σ J2 (fun o J => o = none ∧ J = J2) I2 ⟨rfl, rfl⟩) fun vu t3 g3 => ?_
  obtain ⟨u, J3, I3, pu, rfl, rfl⟩ := g3
  refine thn (back.run pins t3 σ J3 (fun o J => o = some (-1) ∧ J = J3) I3 ⟨1, rfl, -1, rfl, rfl, rfl⟩) fun vs t4 g4 => ?_
  obtain ⟨o, J4, I4, ps, rfl, rfl⟩ := g4
  have I5 : Inv X pins σ J4 { t4 with heap := t4.heap.push { cls := .type "slice", data := .fields #[vl, vu, vs] } } := I4.kept (t' := t4.toks) fun b ob q => Heap.get?_push_of_some _ q
  obtain ⟨its, r, ht, hz⟩ := I5.tuple hx
  have hlen := r.length
  show wpAny (model X.prog X.w) X.A (subscriptTail e (.Slice none none (some (.UnaryOp .USub (.Constant (.int 1) k p1) p2)) p3) (.ref a) (.ref t4.heap.objs.size)) (EP X pins σ Q) X.xe { t4 with heap := t4.heap.push { cls := .type "slice", data := .fields #[vl, vu, vs] } }
  refine tail_any (ops := [.ref a, .ref t4.heap.objs.size]) ht.typeIs PyProof.Rows.slot_tuple_getitem.lookup ?_ (by with_unfolding_all rfl)
  refine getRevT ht (Heap.IsSliceOf.new _ vl vu vs) pl pu ps (by omega) ?_
  refine ⟨.ref _, _, I5.laid (t' := t4.toks) (o := .tup xs.reverse) (fun b ob q => Heap.get?_push_of_some _ q) (Nat.le_refl _) ?_, rfl, q _ (I5.hok.fresh (Nat.le_refl _))⟩
  exact ⟨by rw [List.length_reverse]; exact hz, _, r.reverse, IsTup.new _ _⟩
end XR
namespace XR
open PySem L2
def over (m n : Nat) (q : Nat × Nat) : Nat × Nat := (m + 1 - q.1, n + 1 - q.2)
def rLenS (K : PySem.W.Frag) : List V → Hp → VK → Prop := fun xs H Q => ∃ (p : Addr) (ys : List V), xs = [V.ref p] ∧ (SqL K H p ys ∨ SqT K H p ys) ∧ Q (V.int (ys.length : Nat)) H
/-- a diff turned over -/
def spOver (K : PySem.W.Frag) : Sp := fun vs H Q _ => ∃ (x1 x2 v : V) (ss1 ss2 : List Str) (ps : List (Nat × Nat)), vs = [x1, x2, v] ∧ TxV K H x1 ss1 ∧ TxV K H x2 ss2 ∧ DfV K H v ps ∧ IsDf ss1 ss2 ps ∧
  ∀ t H', Same H H' → H t = none → DfAt H' t (ps.reverse.map (over ss1.length ss2.length)) → Q (.ref t) H'
end XR
namespace K62
open PySem L2 XR
section
variable {P : Program} {w : World} {K : PySem.W.Frag} {mg : Str → Option Value} {base : Heap}
end
end K62
/-! Tuples whose own object is known (no instance dict), as dict(t) wants them. -/
namespace XR
open PySem PySem.Spec L2 PyProof.Rows
section
variable {X : Cx}
/-- tuple(xs) of a list, its object told -/
def rTupX (K : PySem.W.Frag) : List V → Hp → VK → Prop := fun xs H Q => ∃ (p : Addr) (ys : List V), xs = [.ref p] ∧ SqL K H p ys ∧ ∀ (l : Addr) (o : Obj), H l = none → o.cls = .type "tuple" → o.dict = none → Q (.ref l) (upd H l (.frz o (.tup ys)))
theorem call_tupleX : CallR X (.type "tuple") (rTupX X.K) := by
  intro pins s σ H xs us Q I r h
  obtain ⟨p, ys, rfl, hq, q⟩ := h
  obtain ⟨u, rfl, rx⟩ := vals1 r
  cases rx
  obtain ⟨its, r', pl, hz⟩ := I.list hq
  have hlen := r'.length
  refine call_tuple_list pl.isList (fun h' kp => ?_) (by simp only [List.size_toArray]; omega)
  have J : Inv X pins σ H { s with heap := h' } := I.kept (t' := s.toks) kp
  have atl : (h'.push { cls := .type "tuple", data := .seq its.toArray }).get? h'.objs.size = some { cls := .type "tuple", data := .seq its.toArray } := Heap.get?_push_size _ rfl
  have fin := J.laid (t' := s.toks) (h' := h'.push { cls := .type "tuple", data := .seq its.toArray }) (o := .frz { cls := .type "tuple", data := .seq its.toArray } (.tup ys)) (fun b o e => Heap.get?_push_of_some _ e) (Nat.le_refl _) ⟨atl, hz, its, r', IsTup.new _ _⟩
  exact ⟨.ref h'.objs.size, _, fin, rfl, q _ _ (J.hok.fresh (Nat.le_refl _)) rfl rfl⟩
/-- dict(t), t a tuple of pairs whose object is known -/
def rDictT (K : PySem.W.Frag) : List V → Hp → VK → Prop := fun xs H Q => ∃ (a : Addr) (o : Obj) (rs : List Addr) (kvs : List (Key × V)), xs = [.ref a] ∧ H a = some (.frz o (.tup (rs.map V.ref))) ∧ o.cls = .type "tuple" ∧ o.dict = none ∧ Paired (fun p kv => SqT K H p [kV kv.1, kv.2]) rs kvs ∧
  ∀ p, H p = none → Q (.ref p) (upd H p (.dK (mergeK [] kvs)))
theorem call_dictT (hc0 : X.calm = true) : CallR X (.type "dict") (rDictT X.K) := by
  intro pins s σ H xs us Q I r h
  obtain ⟨a, o, rs, kvs, rfl, hq, hcl, hdn, hp, q⟩ := h
  obtain ⟨u, rfl, rx⟩ := vals1 r
  cases rx
  obtain ⟨ho, hz, its, rv, o2, ho2, hc2, n2, hd2⟩ := (show ObjOk X.prog X.w H s.heap a (.frz o (.tup (rs.map V.ref))) from I.hok a _ hq)
  obtain rfl : o = o2 := Option.some.inj (ho.symm.trans ho2)
  have ei := refs_at rv
  subst ei
  rw [List.length_map] at hz
  obtain ⟨prs, rel, hl, hpr⟩ := pairs_of I hp
  -- the keys, as they stand
  have keys : ∃ ks : List Value, ks.length = prs.length ∧ ∀ (j : Nat) (p : Key × Value), prs[j]? = some p → ∃ (b : Addr) (kv : Value), ks[j]? = some kv ∧ rs[j]? = some b ∧ IsTup s.heap b #[kv, p.2] ∧ keyIs p.1 kv = true := by
    have gen : ∀ (l : List (Key × Value)) (m : Nat), (∀ (j : Nat) (p : Key × Value), l[j]? = some p → ∃ (b : Addr) (u : Value), rs[m + j]? = some b ∧ IsTup s.heap b #[u, p.2] ∧ keyIs p.1 u = true) →
        ∃ ks : List Value, ks.length = l.length ∧ ∀ (j : Nat) (p : Key × Value), l[j]? = some p → ∃ (b : Addr) (kv : Value), ks[j]? = some kv ∧ rs[m + j]? = some b ∧ IsTup s.heap b #[kv, p.2] ∧ keyIs p.1 kv = true := by
      intro l
      induction l with
      | nil => intro m _; exact ⟨[], rfl, fun j p e => by simp at e⟩
      | cons x l ih =>
        intro m hh
        obtain ⟨b, u, e1, e2, e3⟩ := hh 0 x rfl
        obtain ⟨ks, k1, k2⟩ := ih (m + 1) fun j p e => by
          obtain ⟨b, u, g1, g2, g3⟩ := hh (j + 1) p (by simpa using e)
          exact ⟨b, u, by rw [show m + 1 + j = m + (j + 1) by omega]; exact g1, g2, g3⟩
        refine ⟨u :: ks, by rw [List.length_cons, List.length_cons, k1], fun j p e => ?_⟩
        cases j with
        | zero =>
          obtain rfl : x = p := Option.some.inj e
          exact ⟨b, u, rfl, e1, e2, e3⟩
        | succ j =>
          obtain ⟨b', kv, g0, g1, g2, g3⟩ := k2 j p (by simpa using e)
          exact ⟨b', kv, by simpa using g0, by rw [show m + (j + 1) = m + 1 + j by omega]; exact g1, g2, g3⟩
    obtain ⟨ks, k1, k2⟩ := gen prs 0 fun j p e => by
      obtain ⟨b, u, g1, g2, g3⟩ := hpr j p e
      exact ⟨b, u, by rw [Nat.zero_add]; exact g1, g2, g3⟩
    exact ⟨ks, k1, fun j p e => by
      obtain ⟨b, kv, g0, g1, g2, g3⟩ := k2 j p e
      exact ⟨b, kv, g0, by rw [Nat.zero_add] at g1; exact g1, g2, g3⟩⟩
  obtain ⟨ks, hk1, hk2⟩ := keys
  have zl : (ks.zip (prs.map (·.2))).length = prs.length := by rw [List.length_zip, hk1, List.length_map, Nat.min_self]
  have zat : ∀ (j : Nat) (k v : Value), (ks.zip (prs.map (·.2)))[j]? = some (k, v) → ∃ (p : Key × Value) (b : Addr), prs[j]? = some p ∧ p.2 = v ∧ rs[j]? = some b ∧ IsTup s.heap b #[k, v] ∧ keyIs p.1 k = true := fun j k v e => by
    obtain ⟨e1, e2⟩ := List.getElem?_zip_eq_some.mp e
    rw [List.getElem?_map] at e2
    obtain ⟨p, ep, rfl⟩ := Option.map_eq_some_iff.mp e2
    obtain ⟨b, kv, g0, g1, g2, g3⟩ := hk2 j p ep
    obtain rfl : kv = k := Option.some.inj (g0.symm.trans e1)
    exact ⟨p, b, ep, rfl, g1, g2, g3⟩
  refine PySem.call_dict_pairs (knd := mixKind X.prog X.w) (kvs := prs) (PairArg.tuple a (rs.map Value.ref).toArray (fun j => rs.getD j 0) (ks.zip (prs.map (·.2)))) (I.ok.hd hc0)
    ⟨⟨o, n2, ho, hcl, hdn, hd2⟩, by rw [List.size_toArray, List.length_map, zl, hl], fun j k v e => ?_⟩ ⟨zl.symm, fun j k v e => ?_⟩ (by rw [zl, hl]; exact hz) fun h' tk hd' kp => ?_
  · obtain ⟨p, b, _, _, g1, g2, _⟩ := zat j k v e
    refine ⟨by simp [g1], .inl ?_⟩
    have eb : rs.getD j 0 = b := by rw [List.getD_eq_getElem?_getD, g1]; rfl
    show s.heap.IsTuple (rs.getD j 0) #[k, v]
    rw [eb]
    exact g2
  · obtain ⟨p, b, g0, rfl, _, _, g3⟩ := zat j k v e
    exact ⟨p.1, g0, g3⟩
  · have hm : (s.heap.objs.size == sysModules) = false := beq_eq_false_iff_ne.mpr (Nat.ne_of_gt I.big)
    have hlen : (mergeK [] kvs).length ≤ sizeLine := by
      have := length_mergeK kvs []
      rw [List.length_nil, Nat.zero_add, rel.length, hl] at this
      exact Nat.le_trans this hz
    have fin := I.laid (t' := tk) (h' := h') (o := .dK (mergeK [] kvs)) (fun b ob e => kp b ob (by simp) e) (Nat.le_refl _) ⟨hlen, hm, merged [] prs, KV.merge rel .nil, hd'⟩
    exact ⟨.ref s.heap.objs.size, _, fin, rfl, q _ (I.hok.fresh (Nat.le_refl _))⟩
end
/-- the diff at t, its object known -/
def DfX (H : Hp) (t : Addr) (ps : List (Nat × Nat)) : Prop := ∃ (o : Obj) (rs : List Addr), H t = some (.frz o (.tup (refs rs))) ∧ o.cls = .type "tuple" ∧ o.dict = none ∧ PsAt H rs ps
theorem DfX.same {H H' : Hp} {t : Addr} {ps : List (Nat × Nat)} (s : Same H H') (h : DfX H t ps) : DfX H' t ps :=
  let ⟨o, rs, h1, h2, h3, h4⟩ := h; ⟨o, rs, s _ _ h1, h2, h3, h4.same s⟩
end XR
namespace XR
open PySem L2
/-- a drawn diff, new, its object known -/
def spDiffX : Sp := fun vs H Q _ => ∃ (a p1 p2 : Addr) (ss1 ss2 : List Str), vs = [.ref a, .ref p1, .ref p2] ∧ PotAt H a ∧ H p1 = some (.lst (ss1.map V.str)) ∧ H p2 = some (.lst (ss2.map V.str)) ∧ ss1.length ≤ 60 ∧ ss2.length ≤ 60 ∧
  ∀ (t : Addr) (ps : List (Nat × Nat)) H', PotAt H' a → But a H H' → H t = none → DfX H' t ps → IsDf ss1 ss2 ps → Q (.ref t) H'
theorem DfX.v {K : PySem.W.Frag} {H : Hp} {t : Addr} {ps : List (Nat × Nat)} (h : DfX H t ps) : DfV K H (.ref t) ps := by
  obtain ⟨o, rs, h1, _, _, h2, h3⟩ := h
  have key : ∀ (rs : List Addr) (ps : List (Nat × Nat)), rs.length = ps.length → (∀ (i : Nat) (q : Nat × Nat), ps[i]? = some q → ∃ r : Addr, rs[i]? = some r ∧ H r = some (tupV q)) → DqAll K H (refs rs) (ps.map tupD) := by
    intro rs
    induction rs with
    | nil =>
      intro ps hl _
      cases ps with
      | nil => exact .nil
      | cons p ps => simp at hl
    | cons r rs ih =>
      intro ps hl hq
      cases ps with
      | nil => simp at hl
      | cons p ps =>
        obtain ⟨r', e1, e2⟩ := hq 0 p rfl
        obtain rfl : r = r' := Option.some.inj e1
        exact .cons (.tup (.inl (.inl e2)) (.cons (.int _) (.cons (.int _) .nil))) (ih ps (by simpa using hl) fun i q h => hq (i + 1) q h)
  exact .tup (.inl (.inr ⟨o, h1⟩)) (key rs ps h2 h3)
end XR
namespace K62
open PySem L2 XR
section
variable {P : Program} {w : World} {K : PySem.W.Frag} {mg : Str → Option Value} {base : Heap}
end
end K62
namespace XR
open PySem L2
/-- lines kept, gone, come -/
def keptL (ps : List (Nat × Nat)) : List Nat := ps.map (·.1)
def outL (m : Nat) (ks : List Nat) : List Nat := ((List.range m).map (· + 1)).filter fun i => !decide (i ∈ ks)
def goneL (m : Nat) (ps : List (Nat × Nat)) : List Nat := outL m (ps.map (·.1))
def comeL (n : Nat) (ps : List (Nat × Nat)) : List Nat := outL n (ps.map (·.2))
def intsV (l : List Nat) : List V := l.map fun i : Nat => V.int (i : Int)
theorem outL_succ (k : Nat) (ks : List Nat) : outL (k + 1) ks = if k + 1 ∈ ks then outL k ks else outL k ks ++ [k + 1] := by
  unfold outL
  rw [List.range_succ, List.map_append, List.filter_append]
  by_cases h : k + 1 ∈ ks <;> simp [List.filter_cons, h]
theorem outL_len (m : Nat) (ks : List Nat) : (outL m ks).length ≤ m := by
  unfold outL
  have := List.length_filter_le (fun i => !decide (i ∈ ks)) ((List.range m).map (· + 1))
  rw [List.length_map, List.length_range] at this
  exact this
theorem intsV_flat (l : List Nat) : (intsV l).all flatV = true := List.all_eq_true.mpr fun x hx => by
  obtain ⟨i, _, rfl⟩ := List.mem_map.mp hx
  rfl
theorem inV_ints {l : List Nat} {i : Nat} : inV (.int (i : Int)) (intsV l) = decide (i ∈ l) := by
  unfold inV intsV
  rw [List.any_map]
  induction l with
  | nil => rfl
  | cons a l ih =>
    rw [List.any_cons, ih]
    have e : (eqV (V.int (a : Int)) (V.int (i : Int))) = decide (i = a) := by
      show ((a : Int) == (i : Int)) = decide (i = a)
      by_cases h : i = a
      · subst h; simp
      · rw [decide_eq_false h]; exact beq_eq_false_iff_ne.mpr (by omega)
    show (eqV (V.int (a : Int)) (V.int (i : Int)) || decide (i ∈ l)) = _
    rw [e]
    by_cases h : i = a
    · simp [h]
    · simp [h]
/-- what is told of two texts and a diff as a new list of numbers -/
def spNums (K : PySem.W.Frag) (f : Nat → Nat → List (Nat × Nat) → List Nat) : Sp := fun vs H Q _ => ∃ (x1 x2 v : V) (ss1 ss2 : List Str) (ps : List (Nat × Nat)), vs = [x1, x2, v] ∧ TxV K H x1 ss1 ∧ TxV K H x2 ss2 ∧ DfV K H v ps ∧ IsDf ss1 ss2 ps ∧
  ∀ l H', Same H H' → H l = none → H' l = some (.lst (intsV (f ss1.length ss2.length ps))) → Q (.ref l) H'
theorem none_before {H H1 : Hp} {d : Addr} (s : Same H H1) (n : H1 d = none) : H d = none := by
  cases q : H d with
  | none => rfl
  | some o => rw [s _ _ q] at n; cases n
end XR
namespace K62
open PySem L2 XR
section
variable {P : Program} {w : World} {K : PySem.W.Frag} {mg : Str → Option Value} {base : Heap}
end
end K62
namespace XR
open PySem L2
/-- the gaps: ahead of the first pair, between pairs, behind the last one -/
def gapsFrom (m n : Nat) : Nat × Nat → List (Nat × Nat) → List (Nat × Nat × Nat × Nat)
  | (a, c), [] => [(a, m, c, n)]
  | (a, c), (i, j) :: ps => (a, i - 1, c, j - 1) :: gapsFrom m n (i, j) ps
def gapsL (m n : Nat) (ps : List (Nat × Nat)) : List (Nat × Nat × Nat × Nat) := gapsFrom m n (0, 0) ps
def blocksL (m n : Nat) (ps : List (Nat × Nat)) : List (Nat × Nat × Nat × Nat) := (gapsL m n ps).filter fun b => decide (b.1 < b.2.1) || decide (b.2.2.1 < b.2.2.2)
theorem gaps_len (m n : Nat) : ∀ (ps : List (Nat × Nat)) (s : Nat × Nat), (gapsFrom m n s ps).length = ps.length + 1
  | [], _ => rfl
  | (i, j) :: ps, (a, c) => by
    show (gapsFrom m n (i, j) ps).length + 1 = _
    rw [gaps_len m n ps]; rfl
theorem gaps_at (m n : Nat) : ∀ (ps : List (Nat × Nat)) (s : Nat × Nat) (k : Nat) (b e : Nat × Nat), (s :: ps)[k]? = some b → (ps ++ [(m + 1, n + 1)])[k]? = some e → (gapsFrom m n s ps)[k]? = some (b.1, e.1 - 1, b.2, e.2 - 1)
  | [], s, 0, b, e, h1, h2 => by
    cases Option.some.inj h1
    cases Option.some.inj h2
    rfl
  | [], s, k + 1, b, e, h1, h2 => by simp at h1
  | (i, j) :: ps, s, 0, b, e, h1, h2 => by
    cases Option.some.inj h1
    cases Option.some.inj h2
    rfl
  | (i, j) :: ps, s, k + 1, b, e, h1, h2 => gaps_at m n ps (i, j) k b e h1 h2
def fourD (b : Nat × Nat × Nat × Nat) : PyData := .tuple [.int (b.1 : Int), .int (b.2.1 : Int), .int (b.2.2.1 : Int), .int (b.2.2.2 : Int)]
def fourV (b : Nat × Nat × Nat × Nat) : HO := .tup [.int (b.1 : Int), .int (b.2.1 : Int), .int (b.2.2.1 : Int), .int (b.2.2.2 : Int)]
/-- where blocks stand -/
def BsAt (H : Hp) (rs : List Addr) (bs : List (Nat × Nat × Nat × Nat)) : Prop := rs.length = bs.length ∧ ∀ (i : Nat) (b : Nat × Nat × Nat × Nat), bs[i]? = some b → ∃ r : Addr, rs[i]? = some r ∧ H r = some (fourV b)
end XR
namespace K62
open PySem L2 XR
abbrev sGaps : Stmt := top 19
abbrev sBlocks : Stmt := top 20
section
variable {P : Program} {w : World} {K : PySem.W.Frag} {mg : Str → Option Value} {base : Heap}
end
end K62
namespace XR
open PySem L2
/-- a list of pairs of numbers, where they stand -/
def NPs (K : PySem.W.Frag) (H : Hp) (xs : List V) (ps : List (Nat × Nat)) : Prop := xs.length = ps.length ∧ ∀ (i : Nat) (q : Nat × Nat), ps[i]? = some q → ∃ r : Addr, xs[i]? = some (V.ref r) ∧ SqT K H r [.int (q.1 : Int), .int (q.2 : Int)]
theorem NPs.same {K : PySem.W.Frag} {H H' : Hp} {xs : List V} {ps : List (Nat × Nat)} (s : Same H H') (h : NPs K H xs ps) : NPs K H' xs ps :=
  ⟨h.1, fun i q hq => let ⟨r, a, b⟩ := h.2 i q hq; ⟨r, a, XR.Same.tup s b⟩⟩
theorem NPs.append {K : PySem.W.Frag} {H : Hp} {xs ys : List V} {ps qs : List (Nat × Nat)} (h : NPs K H xs ps) (k : NPs K H ys qs) : NPs K H (xs ++ ys) (ps ++ qs) := by
  refine ⟨by rw [List.length_append, List.length_append, h.1, k.1], fun i q hq => ?_⟩
  rw [List.getElem?_append] at hq ⊢
  rw [h.1]
  by_cases c : i < ps.length
  · rw [if_pos c] at hq ⊢; exact h.2 i q hq
  · rw [if_neg c] at hq ⊢; exact k.2 _ q hq
theorem NPs.one {K : PySem.W.Frag} {H : Hp} {r : Addr} {q : Nat × Nat} (h : SqT K H r [.int (q.1 : Int), .int (q.2 : Int)]) : NPs K H [V.ref r] [q] := ⟨rfl, fun i p hp => by
  cases i with
  | zero => cases Option.some.inj hp; exact ⟨r, rfl, h⟩
  | succ i => simp at hp⟩
theorem wipe_aux {i : Nat} {v : Option V} : ∀ (vs : List Nat) (σ : St), (wipe (σ.set i v) vs).set i none = (wipe σ vs).set i none
  | [], σ => by show (σ.set i v).set i none = σ.set i none; rw [List.set_set]
  | w :: ws, σ => by
    have ih := wipe_aux (i := i) (v := v) ws σ
    show ((wipe (σ.set i v) ws).set w none).set i none = ((wipe σ ws).set w none).set i none
    by_cases e : w = i
    · subst e
      rw [List.set_set, List.set_set]
      exact ih
    · rw [List.set_comm none none e, ih, List.set_comm none none (Ne.symm e)]
theorem wipe_set {i : Nat} {v : Option V} : ∀ {vs : List Nat} {σ : St}, i ∈ vs → wipe (σ.set i v) vs = wipe σ vs
  | [], σ, h => nomatch h
  | w :: ws, σ, h => by
    show (wipe (σ.set i v) ws).set w none = (wipe σ ws).set w none
    rcases List.mem_cons.mp h with e | h
    · subst e
      exact wipe_aux ws σ
    · rw [wipe_set h]
theorem wipe_sub {vs : List Nat} {σ : St} : ∀ {ws : List Nat}, (∀ i ∈ ws, i ∈ vs) → wipe (wipe σ ws) vs = wipe σ vs
  | [], _ => rfl
  | w :: ws, h => by
    show wipe ((wipe σ ws).set w none) vs = _
    rw [wipe_set (h w (List.mem_cons_self ..)), wipe_sub fun i hi => h i (List.mem_cons_of_mem _ hi)]
/-- behind a comprehension's turn with four names all is as it was -/
theorem wipe4 {σ : St} {a b c d : Nat} {w x y z : Option V} : wipe (((((wipe σ [a, b, c, d]).set a w).set b x).set c y).set d z) [a, b, c, d] = wipe σ [a, b, c, d] := by
  rw [wipe_set (by simp), wipe_set (by simp), wipe_set (by simp), wipe_set (by simp), wipe_sub fun _ h => h]
/-- what is told of two texts and a diff as a new list of blocks -/
def spFours (K : PySem.W.Frag) (f : Nat → Nat → List (Nat × Nat) → List (Nat × Nat × Nat × Nat)) : Sp := fun vs H Q _ => ∃ (x1 x2 v : V) (ss1 ss2 : List Str) (ps : List (Nat × Nat)), vs = [x1, x2, v] ∧ TxV K H x1 ss1 ∧ TxV K H x2 ss2 ∧ DfV K H v ps ∧ IsDf ss1 ss2 ps ∧
  ∀ l rs H', Same H H' → H l = none → H' l = some (.lst (refs rs)) → BsAt H' rs (f ss1.length ss2.length ps) → Q (.ref l) H'
theorem BsAt.same {H H' : Hp} {rs : List Addr} {bs : List (Nat × Nat × Nat × Nat)} (s : Same H H') (h : BsAt H rs bs) : BsAt H' rs bs :=
  ⟨h.1, fun i b hb => let ⟨r, x, y⟩ := h.2 i b hb; ⟨r, x, s _ _ y⟩⟩
theorem BsAt.nil {H : Hp} : BsAt H [] [] := ⟨rfl, fun i q h => by simp at h⟩
theorem BsAt.snoc {H : Hp} {rs : List Addr} {bs : List (Nat × Nat × Nat × Nat)} {r : Addr} {b : Nat × Nat × Nat × Nat} (h : BsAt H rs bs) (k : H r = some (fourV b)) : BsAt H (rs ++ [r]) (bs ++ [b]) := by
  refine ⟨by rw [List.length_append, List.length_append, h.1]; rfl, fun i q hq => ?_⟩
  rw [List.getElem?_append] at hq ⊢
  rw [h.1]
  by_cases c : i < bs.length
  · rw [if_pos c] at hq ⊢; exact h.2 i q hq
  · rw [if_neg c] at hq ⊢
    have e : i - bs.length = 0 := by
      cases e : i - bs.length with
      | zero => rfl
      | succ n => rw [e] at hq; simp at hq
    rw [e] at hq ⊢
    cases Option.some.inj hq
    exact ⟨r, rfl, k⟩
theorem BsAt.updL {H : Hp} {p : Addr} {xs ys : List V} {rs : List Addr} {bs : List (Nat × Nat × Nat × Nat)} (h : BsAt H rs bs) (k : H p = some (.lst xs)) : BsAt (upd H p (.lst ys)) rs bs :=
  ⟨h.1, fun i b hb => let ⟨r, x, y⟩ := h.2 i b hb; ⟨r, x, by rw [upd_ne (fun e => by rw [e, k] at y; cases y)]; exact y⟩⟩
/-- one more block, made new and appended -/
theorem bsStep {H : Hp} {D r : Addr} {rs : List Addr} {bs : List (Nat × Nat × Nat × Nat)} {b : Nat × Nat × Nat × Nat} (hD : H D = some (.lst (refs rs))) (h : BsAt H rs bs) (nr : H r = none) :
    upd H r (fourV b) D = some (.lst (refs rs)) ∧ BsAt (upd (upd H r (fourV b)) D (.lst (refs rs ++ [V.ref r]))) (rs ++ [r]) (bs ++ [b]) ∧ upd (upd H r (fourV b)) D (.lst (refs rs ++ [V.ref r])) D = some (.lst (refs (rs ++ [r]))) := by
  have s := same_upd (o := fourV b) nr
  have hD' := s _ _ hD
  refine ⟨hD', ((h.same s).snoc upd_same).updL hD', ?_⟩
  rw [upd_same]
  unfold refs
  rw [List.map_append]
  rfl
theorem IsDf.pos {ss1 ss2 : List Str} {ps : List (Nat × Nat)} (h : IsDf ss1 ss2 ps) {q : Nat × Nat} (hq : q ∈ ps) : 1 ≤ q.1 ∧ q.1 ≤ ss1.length ∧ 1 ≤ q.2 ∧ q.2 ≤ ss2.length := by
  obtain ⟨a, b, c, d, _⟩ := h.1 q hq
  exact ⟨a, b, c, d⟩
end XR
namespace K62
open PySem L2 XR
section
variable {P : Program} {w : World} {K : PySem.W.Frag} {mg : Str → Option Value} {base : Heap}
theorem scGaps : FnScope ["old", "new", "diff", "starts", "stops", "a", "c", "i", "j"] ["old", "new", "diff"] (defScope sGaps) := ⟨rfl, rfl, rfl, by decide +kernel, rfl, by decide +kernel, by decide +kernel⟩
theorem ok_gaps {f : Addr} {fd : FuncData} (F : Fun K "gaps_of" "gaps_of" sGaps f fd) (T : Blt mg) : FnOk P w K mg base CX0 1 f fd ["old", "new", "diff"] (spFours K gapsL) := by
  refine F.ok scGaps (fun vs H Q E h => ?_) (fun cdv A outer s H vs Q E hr h => ?_)
  · obtain ⟨x1, x2, v, ss1, ss2, ps, rfl, _⟩ := h
    rfl
  · obtain ⟨x1, x2, v, ss1, ss2, ps, rfl, t1, t2, hv, hd, z⟩ := h
    refine ⟨_, pss_cons (ps_set (i := 3) scGaps.nd rfl (.inl rfl) (pe_lst (pa_cons (pe_tup (pa_cons pe_int (pa_cons pe_int pa_nil))) (StX.pa_star (pv 2) pa_nil))))
      (pss_cons (ps_set (i := 4) scGaps.nd rfl (.inl rfl) (pe_lst (StX.pa_star (pv 2) (pa_cons (pe_tup (pa_cons (pe_op op_add (pe_callB call_len_seq (by rfl) T.len PySem.boot_len (pa_cons (pv 0) pa_nil)) pe_int) (pa_cons (pe_op op_add (pe_callB call_len_seq (by rfl) T.len PySem.boot_len (pa_cons (pv 1) pa_nil)) pe_int) pa_nil))) pa_nil))))
      (pss_one (ps_ret (pe_lc (own := [("a", 5), ("c", 6), ("i", 7), ("j", 8)]) (g := gTup K 2 (gCons (gTup K 2 (gCons (gName 5) (gCons (gName 6) gNil))) (gCons (gTup K 2 (gCons (gName 7) (gCons (gName 8) gNil))) gNil))) (tt := tYes)
        (te := tTup (tCons (tVar 5) (tCons (tOp (rI0 fun i j => V.int (i - j)) (tVar 7) (tC (V.int 1))) (tCons (tVar 6) (tCons (tOp (rI0 fun i j => V.int (i - j)) (tVar 8) (tC (V.int 1))) tNil))))) rfl scGaps.nd
        (pi_zip rfl (T.all "zip" (by decide)) (pa_cons (pv 3) (pa_cons (pv 4) pa_nil)))
        (blkOk_by (own := [("a", 5), ("c", 6), ("i", 7), ("j", 8)]) (N := ["old", "new", "diff", "starts", "stops", "a", "c", "i", "j"]) (sc := defScope sGaps) (by decide +kernel))
        (fun _ _ _ _ _ => pg_tup rfl (pgs_cons (pg_tup rfl (pgs_cons (pg_name (i := 5) scGaps.nd rfl (.inl rfl)) (pgs_cons (pg_name (i := 6) scGaps.nd rfl (.inl rfl)) pgs_nil))) (pgs_cons (pg_tup rfl (pgs_cons (pg_name (i := 7) scGaps.nd rfl (.inl rfl)) (pgs_cons (pg_name (i := 8) scGaps.nd rfl (.inl rfl)) pgs_nil))) pgs_nil))) (fun _ _ _ _ _ => pts_nil)
        (fun _ _ _ _ _ => pe_tup (pa_cons (pv 5) (pa_cons (pe_op op_sub (pv 7) pe_int) (pa_cons (pv 6) (pa_cons (pe_op op_sub (pv 8) pe_int) pa_nil))))))))), ?_⟩
    have l60 := t1.len
    have dl := df_len hd
    obtain ⟨t, xs, rfl, ht, hl, hx⟩ := hv.items
    have np : NPs K H xs ps := ⟨hl, fun i q hq => by
      have hi : i < xs.length := by rw [hl]; exact (List.getElem?_eq_some_iff.mp hq).1
      obtain ⟨q', r, e1, e2, e3⟩ := hx i _ (List.getElem?_eq_getElem hi)
      rw [hq] at e1
      cases e1
      exact ⟨r, by rw [List.getElem?_eq_getElem hi, e2], e3⟩⟩
    have xl : xs.length ≤ 60 := by omega
    refine ⟨ll20 (by show 2 ≤ 20; decide), fun t0 n0 => ?_⟩
    have s0 := same_upd (o := .tup [V.int 0, V.int 0]) n0
    refine ⟨_, rfl, t, xs, rfl, .inl (XR.Same.tup s0 ht), ?_, fun A0 nA => ?_⟩
    · show (V.ref t0 :: (xs ++ [])).length ≤ sizeLine
      rw [List.append_nil, List.length_cons]
      exact Nat.le_trans (show xs.length + 1 ≤ 61 by omega) (by decide)
    have sA := s0.trans (same_upd (o := .lst (V.ref t0 :: (xs ++ []))) nA)
    have hA := upd_same (H := upd H t0 (.tup [V.int 0, V.int 0])) (a := A0) (o := .lst (V.ref t0 :: (xs ++ [])))
    have ht0 : upd (upd H t0 (.tup [V.int 0, V.int 0])) A0 (.lst (V.ref t0 :: (xs ++ []))) t0 = some (.tup [V.int 0, V.int 0]) := same_upd nA _ _ upd_same
    have npA : NPs K (upd (upd H t0 (.tup [V.int 0, V.int 0])) A0 (.lst (V.ref t0 :: (xs ++ [])))) (V.ref t0 :: (xs ++ [])) ((0, 0) :: ps) := by
      have := (NPs.one (K := K) (q := (0, 0)) (.inl (.inl ht0))).append (np.same sA)
      rw [List.append_nil] at this ⊢
      exact this
    rw [List.append_nil] at sA hA ht0 npA ⊢
    generalize upd (upd H t0 (.tup [V.int 0, V.int 0])) A0 (.lst (V.ref t0 :: xs)) = H1 at sA hA ht0 npA ⊢
    obtain ⟨a1, rfl, h1⟩ := (t1.same sA).a
    obtain ⟨a2, rfl, h2⟩ := (t2.same sA).a
    refine ⟨_, rfl, t, xs, rfl, .inl (XR.Same.tup sA ht), ?_⟩
    refine ⟨_, rfl, a1, _, rfl, h1, _, _, rfl, rfl, _, rfl, a2, _, rfl, h2, _, _, rfl, rfl, ll20 (by show 2 ≤ 20; decide), fun t3 n3 => ?_⟩
    rw [List.length_map, List.length_map]
    have s3 := same_upd (o := .tup [V.int ((ss1.length : Nat) + 1), V.int ((ss2.length : Nat) + 1)]) n3
    refine ⟨?_, fun B0 nB => ?_⟩
    · show (xs ++ [V.ref t3]).length ≤ sizeLine
      rw [List.length_append]
      exact Nat.le_trans (show xs.length + 1 ≤ 61 by omega) (by decide)
    have sB := s3.trans (same_upd (o := .lst (xs ++ [V.ref t3])) nB)
    have hB := upd_same (H := upd H1 t3 (.tup [V.int ((ss1.length : Nat) + 1), V.int ((ss2.length : Nat) + 1)])) (a := B0) (o := .lst (xs ++ [V.ref t3]))
    have ht3 : upd (upd H1 t3 (.tup [V.int ((ss1.length : Nat) + 1), V.int ((ss2.length : Nat) + 1)])) B0 (.lst (xs ++ [V.ref t3])) t3 = some (.tup [V.int ((ss1.length : Nat) + 1), V.int ((ss2.length : Nat) + 1)]) := same_upd nB _ _ upd_same
    have npB := ((np.same sA).same sB).append (NPs.one (K := K) (q := (ss1.length + 1, ss2.length + 1)) (.inl (.inl ht3)))
    have npA' := npA.same sB
    have hA' := sB _ _ hA
    have sAB := sA.trans sB
    generalize upd (upd H1 t3 (.tup [V.int ((ss1.length : Nat) + 1), V.int ((ss2.length : Nat) + 1)])) B0 (.lst (xs ++ [V.ref t3])) = H2 at hB npB npA' hA' sAB ⊢
    refine ⟨_, rfl, _, rfl, A0, B0, _, _, rfl, SqL.of hA', SqL.of hB, fun D nD => ?_⟩
    have sD := same_upd (o := .lst []) nD
    have lenA := npA'.1
    have lenB := npB.1
    have lA : ((0, 0) :: ps : List (Nat × Nat)).length = ps.length + 1 := rfl
    have lB : (ps ++ [(ss1.length + 1, ss2.length + 1)] : List (Nat × Nat)).length = ps.length + 1 := by rw [List.length_append]; rfl
    refine lc_it (walk_zip (n := ps.length + 1) (by rw [lenA, lenB, lA, lB, Nat.min_self])) (fun i H' => Same H2 H' ∧ ∃ rs, H' D = some (.lst (refs rs)) ∧ BsAt H' rs ((gapsL ss1.length ss2.length ps).take i)) ⟨sD, [], upd_same, .nil⟩ (fun i H' _ hh => ⟨SqL.of (hh.1 _ _ hA'), SqL.of (hh.1 _ _ hB)⟩) ?_ ?_
    · rintro i x Ha Hb hi ⟨sm, rs, hD, hk⟩ ⟨T0, y1, y2, rfl, nT, rfl, e1, e2⟩
      obtain ⟨b, hb⟩ : ∃ b, ((0, 0) :: ps : List (Nat × Nat))[i]? = some b := ⟨_, List.getElem?_eq_getElem (by omega)⟩
      obtain ⟨e, he⟩ : ∃ e, (ps ++ [(ss1.length + 1, ss2.length + 1)] : List (Nat × Nat))[i]? = some e := ⟨_, List.getElem?_eq_getElem (by omega)⟩
      obtain ⟨r1, f1, g1⟩ := npA'.2 i b hb
      obtain ⟨r2, f2, g2⟩ := npB.2 i e he
      obtain rfl : y1 = V.ref r1 := Option.some.inj (e1.symm.trans f1)
      obtain rfl : y2 = V.ref r2 := Option.some.inj (e2.symm.trans f2)
      have hgap := gaps_at ss1.length ss2.length ps (0, 0) i b e hb he
      have e1p : 1 ≤ e.1 ∧ 1 ≤ e.2 := by
        rcases List.mem_append.mp (List.mem_of_getElem? he) with h | h
        · have := hd.pos h; omega
        · rw [List.mem_singleton.mp h]; exact ⟨by simp, by simp⟩
      have sT := same_upd (o := .tup [V.ref r1, V.ref r2]) nT
      have sa := sm.trans sT
      refine ⟨T0, _, rfl, .inl (.inl upd_same), rfl, _, _, rfl, r1, _, rfl, XR.Same.tup sa g1, rfl, _, _, rfl, _, _, rfl, rfl, _, _, rfl, r2, _, rfl, XR.Same.tup sa g2, rfl, _, _, rfl, _, _, rfl, rfl, rfl, wipe4, ?_⟩
      unfold tYes
      dsimp only
      rw [if_pos rfl]
      refine ⟨_, rfl, _, rfl, _, _, rfl, rfl, _, rfl, _, rfl, _, _, rfl, rfl, ll20 (by show 4 ≤ 20; decide), fun u nu => ?_⟩
      obtain ⟨k1, k2, k3⟩ := bsStep (b := (b.1, e.1 - 1, b.2, e.2 - 1)) (sT _ _ hD) (hk.same sT) nu
      have en : HO.tup [V.int (b.1 : Int), V.int ((e.1 : Int) - 1), V.int (b.2 : Int), V.int ((e.2 : Int) - 1)] = fourV (b.1, e.1 - 1, b.2, e.2 - 1) := by
        show _ = HO.tup [V.int (b.1 : Int), V.int ((e.1 - 1 : Nat) : Int), V.int (b.2 : Int), V.int ((e.2 - 1 : Nat) : Int)]
        rw [show ((e.1 : Int) - 1) = ((e.1 - 1 : Nat) : Int) by omega, show ((e.2 : Int) - 1) = ((e.2 - 1 : Nat) : Int) by omega]
      rw [en]
      refine ⟨_, k1, ?_, fun b' o' h => ?_, rs ++ [u], k3, ?_⟩
      · unfold refs
        rw [List.length_map, hk.1, List.length_take]
        exact Nat.lt_of_le_of_lt (show min i _ ≤ 61 by omega) (by decide)
      · rw [upd_ne (ne_of_none h nD)]
        exact same_upd nu _ _ (sa _ _ h)
      · rw [List.take_add_one]
        unfold gapsL at hgap ⊢
        rw [hgap]
        exact k2
    · rintro H' ⟨sm, rs, hD, hk⟩
      rw [List.take_of_length_le (by unfold gapsL; rw [gaps_len]; exact Nat.le_refl _)] at hk
      exact z D rs H' (sAB.trans sm) (none_before sAB nD) hD hk
end
end K62
namespace XR
open PySem L2
def blkB (b : Nat × Nat × Nat × Nat) : Bool := decide (b.1 < b.2.1) || decide (b.2.2.1 < b.2.2.2)
theorem blocks_filter (m n : Nat) (ps : List (Nat × Nat)) : blocksL m n ps = (gapsL m n ps).filter blkB := rfl
end XR
namespace K62
open PySem L2 XR
section
variable {P : Program} {w : World} {K : PySem.W.Frag} {mg : Str → Option Value} {base : Heap}
theorem scBlocks : FnScope ["old", "new", "diff", "a", "b", "c", "d"] ["old", "new", "diff"] (defScope sBlocks) := ⟨rfl, rfl, rfl, by decide +kernel, rfl, by decide +kernel, by decide +kernel⟩
theorem ok_blocks {f fC CT CD fG : Addr} {fd fdC fdG : FuncData} (F : Fun K "blocks_of" "blocks_of" sBlocks f fd) (C : Chk P w K mg base fC CT CD fdC)
    (FG : Fun K "gaps_of" "gaps_of" sGaps fG fdG) (GG : FnOk P w K mg base CX0 1 fG fdG ["old", "new", "diff"] (spFours K gapsL)) (bG : Binds K fdG ["old", "new", "diff"] []) (mG : mg "gaps_of" = some (.ref fG)) : FnOk P w K mg base CX0 6 f fd ["old", "new", "diff"] (spFours K blocksL) := by
  refine F.ok scBlocks (fun vs H Q E h => ?_) (fun cdv A outer s H vs Q E hr h => ?_)
  · obtain ⟨x1, x2, v, ss1, ss2, ps, rfl, _⟩ := h
    rfl
  · obtain ⟨x1, x2, v, ss1, ss2, ps, rfl, t1, t2, hv, hd, z⟩ := h
    refine ⟨_, pss_cons (ps_expr (pe_callS C.G hr rfl C.m C.F.kp C.b (fun σ => passF σ) (pa_cons (pv 0) (pa_cons (pv 1) (pa_cons (pv 2) pa_nil)))))
      (pss_one (ps_ret (pe_lc (own := [("a", 3), ("b", 4), ("c", 5), ("d", 6)]) (g := gTup K 4 (gCons (gName 3) (gCons (gName 4) (gCons (gName 5) (gCons (gName 6) gNil))))) (tt := tOr (tTest (tOp (rI0 fun i j => V.bl (decide (i < j))) (tVar 3) (tVar 4))) (tTest (tOp (rI0 fun i j => V.bl (decide (i < j))) (tVar 5) (tVar 6))))
        (te := tTup (tCons (tVar 3) (tCons (tVar 4) (tCons (tVar 5) (tCons (tVar 6) tNil))))) rfl scBlocks.nd
        (pi_list (pe_call GG (hr.mono (by decide)) rfl mG FG.kp bG .nil pass0 (pa_cons (pv 0) (pa_cons (pv 1) (pa_cons (pv 2) pa_nil)))))
        (blkOk_by (own := [("a", 3), ("b", 4), ("c", 5), ("d", 6)]) (N := ["old", "new", "diff", "a", "b", "c", "d"]) (sc := defScope sBlocks) (by decide +kernel))
        (fun _ _ _ _ _ => pg_tup rfl (pgs_cons (pg_name (i := 3) scBlocks.nd rfl (.inl rfl)) (pgs_cons (pg_name (i := 4) scBlocks.nd rfl (.inl rfl)) (pgs_cons (pg_name (i := 5) scBlocks.nd rfl (.inl rfl)) (pgs_cons (pg_name (i := 6) scBlocks.nd rfl (.inl rfl)) pgs_nil)))))
        (fun _ _ _ _ _ => pts_one (PW.pt (pw_or (pt_cmpR op_lt (pv 3) (pv 4) (nomark _)) (pw_or1 (pt_cmpR op_lt (pv 5) (pv 6) (nomark _))))))
        (fun _ _ _ _ _ => pe_tup (pa_cons (pv 3) (pa_cons (pv 4) (pa_cons (pv 5) (pa_cons (pv 6) pa_nil)))))))), ?_⟩
    have l60 := t1.len
    have dl := df_len hd
    refine ⟨_, rfl, _, rfl, _, rfl, ?_⟩
    dsimp only [tNil]
    refine chk_ok t1 t2 hv hd fun H1 s1 => ?_
    refine ⟨_, rfl, _, rfl, _, rfl, x1, x2, v, ss1, ss2, ps, rfl, t1.same s1, t2.same s1, hv.same s1, hd, fun l rs H2 s2 nl hl hb => ?_⟩
    have s12 := s1.trans s2
    have glen : (gapsL ss1.length ss2.length ps).length = ps.length + 1 := gaps_len _ _ _ _
    refine ⟨l, rfl, ⟨_, SqL.of hl⟩, fun D nD => ?_⟩
    have sD := same_upd (o := .lst []) nD
    refine lc_list (K := K) (a := l) (xs := refs rs) (fun i H' => Same H2 H' ∧ ∃ qs, H' D = some (.lst (refs qs)) ∧ BsAt H' qs (((gapsL ss1.length ss2.length ps).take i).filter blkB)) ⟨sD, [], upd_same, .nil⟩ (fun i H' _ hh => SqL.of (hh.1 _ _ hl)) ?_ ?_
    · rintro i x H' hx ⟨sm, qs, hD, hk⟩
      obtain ⟨r0, er0, rfl⟩ : ∃ r, rs[i]? = some r ∧ x = V.ref r := by
        unfold refs at hx
        rw [List.getElem?_map] at hx
        obtain ⟨r, e1, e2⟩ := Option.map_eq_some_iff.mp hx
        exact ⟨r, e1, e2.symm⟩
      have hi : i < (gapsL ss1.length ss2.length ps).length := by rw [← hb.1]; exact (List.getElem?_eq_some_iff.mp er0).1
      obtain ⟨b, hb1⟩ : ∃ b, (gapsL ss1.length ss2.length ps)[i]? = some b := ⟨_, List.getElem?_eq_getElem hi⟩
      obtain ⟨r1, er1, hr1⟩ := hb.2 i b hb1
      rw [er0] at er1
      cases er1
      have hr2 : SqT K H' r0 _ := .inl (.inl (sm _ _ hr1))
      have tk : ((gapsL ss1.length ss2.length ps).take (i + 1)).filter blkB = ((gapsL ss1.length ss2.length ps).take i).filter blkB ++ (if blkB b = true then [b] else []) := by
        rw [List.take_add_one, hb1, List.filter_append]
        congr 1
        show List.filter blkB [b] = _
        rw [List.filter_cons]
        rfl
      have klen : qs.length ≤ 61 := by
        rw [hk.1]
        have := List.length_filter_le blkB ((gapsL ss1.length ss2.length ps).take i)
        rw [List.length_take] at this
        omega
      have mk : blkB b = true → ∀ u, H' u = none → ∃ acc, upd H' u (.tup [V.int (b.1 : Int), V.int (b.2.1 : Int), V.int (b.2.2.1 : Int), V.int (b.2.2.2 : Int)]) D = some (.lst acc) ∧ acc.length < sizeLine ∧ Same H2 (upd (upd H' u (.tup [V.int (b.1 : Int), V.int (b.2.1 : Int), V.int (b.2.2.1 : Int), V.int (b.2.2.2 : Int)])) D (.lst (acc ++ [V.ref u]))) ∧ ∃ qs, upd (upd H' u (.tup [V.int (b.1 : Int), V.int (b.2.1 : Int), V.int (b.2.2.1 : Int), V.int (b.2.2.2 : Int)])) D (.lst (acc ++ [V.ref u])) D = some (.lst (refs qs)) ∧ BsAt (upd (upd H' u (.tup [V.int (b.1 : Int), V.int (b.2.1 : Int), V.int (b.2.2.1 : Int), V.int (b.2.2.2 : Int)])) D (.lst (acc ++ [V.ref u]))) qs (((gapsL ss1.length ss2.length ps).take (i + 1)).filter blkB) := fun eb u nu => by
        obtain ⟨k1, k2, k3⟩ := bsStep (b := b) hD hk nu
        refine ⟨_, k1, ?_, fun b' o' h => ?_, qs ++ [u], k3, ?_⟩
        · unfold refs
          rw [List.length_map]
          exact Nat.lt_of_le_of_lt klen (by decide)
        · rw [upd_ne (ne_of_none h nD)]
          exact same_upd nu _ _ (sm _ _ h)
        · rw [tk, if_pos eb]
          exact k2
      refine ⟨r0, _, rfl, hr2, rfl, _, _, rfl, _, _, rfl, _, _, rfl, _, _, rfl, rfl, wipe4, ?_⟩
      refine ⟨_, rfl, _, rfl, _, _, rfl, rfl, _, rfl, ?_⟩
      by_cases c1 : b.1 < b.2.1
      · rw [decide_eq_true (show (b.1 : Int) < (b.2.1 : Int) by omega)]
        refine iteT (iteT ⟨_, rfl, _, rfl, _, rfl, _, rfl, ll20 (by show 4 ≤ 20; decide), fun u nu => mk ?_ u nu⟩)
        unfold blkB; rw [decide_eq_true c1]; rfl
      · rw [decide_eq_false (show ¬ (b.1 : Int) < (b.2.1 : Int) by omega)]
        refine iteF ⟨_, rfl, _, rfl, _, _, rfl, rfl, _, rfl, ?_⟩
        by_cases c2 : b.2.2.1 < b.2.2.2
        · rw [decide_eq_true (show (b.2.2.1 : Int) < (b.2.2.2 : Int) by omega)]
          refine iteT ⟨_, rfl, _, rfl, _, rfl, _, rfl, ll20 (by show 4 ≤ 20; decide), fun u nu => mk ?_ u nu⟩
          unfold blkB; rw [decide_eq_true c2, Bool.or_true]
        · rw [decide_eq_false (show ¬ (b.2.2.1 : Int) < (b.2.2.2 : Int) by omega)]
          refine iteF ⟨sm, qs, hD, ?_⟩
          rw [tk, if_neg (by unfold blkB; rw [decide_eq_false c1, decide_eq_false c2]; decide), List.append_nil]
          exact hk
    · rintro H' ⟨sm, qs, hD, hk⟩
      have e1 : (refs rs).length = (gapsL ss1.length ss2.length ps).length := by unfold refs; rw [List.length_map, hb.1]
      rw [e1, List.take_length] at hk
      exact z D qs H' (s12.trans sm) (none_before s12 nD) hD hk
end
end K62
/-! Diffs turned about and over are diffs (taken from k16_L3, k16_L4). -/
namespace XR
open PySem L2
abbrev Ris (ps : List (Nat × Nat)) : Prop := ps.Pairwise fun x y => x.1 < y.1 ∧ x.2 < y.2
theorem swp_ris {ps : List (Nat × Nat)} (h : Ris ps) : Ris (ps.map swp) := List.pairwise_map.mpr (List.Pairwise.imp (fun {a b} hab => ⟨hab.2, hab.1⟩) h)
theorem swp_df {ss1 ss2 : List Str} {ps : List (Nat × Nat)} (h : IsDf ss1 ss2 ps) : IsDf ss2 ss1 (ps.map swp) := by
  refine ⟨fun q hq => ?_, swp_ris h.2⟩
  obtain ⟨p, hp, rfl⟩ := List.mem_map.mp hq
  obtain ⟨a, b, c, d, s, e1, e2⟩ := h.1 p hp
  exact ⟨c, d, a, b, s, e2, e1⟩
def Bd (m n : Nat) (ps : List (Nat × Nat)) : Prop := ∀ q, q ∈ ps → 1 ≤ q.1 ∧ q.1 ≤ m ∧ 1 ≤ q.2 ∧ q.2 ≤ n
theorem IsDf.bd {ss1 ss2 : List Str} {ps : List (Nat × Nat)} (h : IsDf ss1 ss2 ps) : Bd ss1.length ss2.length ps := fun q hq => ⟨(h.1 q hq).1, (h.1 q hq).2.1, (h.1 q hq).2.2.1, (h.1 q hq).2.2.2.1⟩
theorem over_ris {m n : Nat} {ps : List (Nat × Nat)} (h : Ris ps) (b : Bd m n ps) : Ris (ps.reverse.map (over m n)) := by
  refine List.pairwise_map.mpr (List.pairwise_reverse.mpr ?_)
  induction ps with
  | nil => exact .nil
  | cons p ps ih =>
    have h2 := List.pairwise_cons.mp h
    refine List.pairwise_cons.mpr ⟨fun q hq => ?_, ih h2.2 fun q hq => b q (List.mem_cons_of_mem _ hq)⟩
    have l := h2.1 q hq
    have b1 := b p (List.mem_cons_self ..)
    have b2 := b q (List.mem_cons_of_mem _ hq)
    exact ⟨by show m + 1 - q.1 < m + 1 - p.1; omega, by show n + 1 - q.2 < n + 1 - p.2; omega⟩
theorem over_df {ss1 ss2 : List Str} {ps : List (Nat × Nat)} (h : IsDf ss1 ss2 ps) : IsDf ss1.reverse ss2.reverse (ps.reverse.map (over ss1.length ss2.length)) := by
  refine ⟨fun q hq => ?_, over_ris h.2 h.bd⟩
  obtain ⟨p, hp, rfl⟩ := List.mem_map.mp hq
  obtain ⟨a, b, c, d, s, e1, e2⟩ := h.1 p (List.mem_reverse.mp hp)
  unfold over
  dsimp only
  rw [List.length_reverse, List.length_reverse]
  refine ⟨by omega, by omega, by omega, by omega, s, ?_, ?_⟩
  · rw [List.getElem?_reverse (by omega), show ss1.length - 1 - (ss1.length + 1 - p.1 - 1) = p.1 - 1 by omega]; exact e1
  · rw [List.getElem?_reverse (by omega), show ss2.length - 1 - (ss2.length + 1 - p.2 - 1) = p.2 - 1 by omega]; exact e2
end XR
namespace XR
open PySem L2
theorem tup_lay : ∀ ps : List (Nat × Nat), PyData.canLayAll0 (ps.map tupD) = true ∧ PyData.depthAll (ps.map tupD) ≤ 3
  | [] => ⟨by simp [PyData.canLayAll0], by simp [PyData.depthAll]⟩
  | p :: ps => by
    obtain ⟨h1, h2⟩ := tup_lay ps
    refine ⟨by simp [PyData.canLayAll0, PyData.canLay0, tupD, h1], ?_⟩
    simp [PyData.depthAll, PyData.depth, tupD]
    omega
theorem df_lay (ps : List (Nat × Nat)) : (dfD ps).canLay0 = true ∧ SeqAt.shaped (dfD ps) = true := by
  obtain ⟨h1, h2⟩ := tup_lay ps
  have a : (dfD ps).canLay0 = true := by unfold dfD; simp only [PyData.canLay0, h1]
  refine ⟨a, ?_⟩
  unfold SeqAt.shaped
  rw [a, Bool.true_and, decide_eq_true_eq]
  have e : (dfD ps).depth = PyData.depthAll (ps.map tupD) + 1 := by unfold dfD; simp only [PyData.depth]
  omega
theorem DfV.dp {K : PySem.W.Frag} {H : Hp} {v : V} {ps : List (Nat × Nat)} (h : DfV K H v ps) : Dp K H v (dfD ps) := by
  have key : ∀ (xs : List V) (l : List (Nat × Nat)), DqAll K H xs (l.map tupD) → DpAll K H xs (l.map tupD) := by
    intro xs l
    induction l generalizing xs with
    | nil =>
      intro h
      cases h
      exact .nil
    | cons p l ih =>
      intro h
      cases h with
      | cons a b =>
        refine .cons ?_ (ih _ b)
        unfold tupD at a ⊢
        cases a with
        | tup k1 k2 =>
          obtain ⟨d1, d2, y1, y2, e3, rfl, m1, m2⟩ := k2.two rfl
          injection e3 with e3 e4
          injection e4 with e4 _
          subst e3 e4
          cases m1
          cases m2
          exact .tup k1 (.cons (.int _) (.cons (.int _) .nil))
  unfold DfV dfD at h
  cases h with
  | tup h1 h2 => exact .tup h1 (key _ _ h2)
/-- a list of words that stands -/
def LsAt (H : Hp) (x : V) (ss : List Str) : Prop := ∃ a, x = .ref a ∧ H a = some (.lst (ss.map V.str)) ∧ Wd ss ∧ ss.length ≤ 60
theorem LsAt.same {H H' : Hp} {x : V} {ss : List Str} (s : Same H H') (h : LsAt H x ss) : LsAt H' x ss := let ⟨a, e, h1, h2⟩ := h; ⟨a, e, s _ _ h1, h2⟩
theorem LsAt.t {K : PySem.W.Frag} {H : Hp} {x : V} {ss : List Str} (h : LsAt H x ss) : TxV K H x ss := by
  obtain ⟨a, rfl, h1, h2, h3⟩ := h
  exact lst_text (SqL.of h1) h2 h3
def spTR (K : PySem.W.Frag) : Sp := fun vs H Q _ => ∃ (x1 x2 x3 v1 v2 : V) (ss1 ss2 ss3 : List Str) (ps qs : List (Nat × Nat)), vs = [x1, x2, x3, v1, v2] ∧ LsAt H x1 ss1 ∧ LsAt H x2 ss2 ∧ LsAt H x3 ss3 ∧ DfV K H v1 ps ∧ IsDf ss1 ss2 ps ∧ DfV K H v2 qs ∧ IsDf ss2 ss3 qs ∧
  ∀ H', Same H H' → Q (.bl true) H'
end XR
/-! How long the repr of texts and diffs is. -/
namespace XR
open PySem L2
theorem sepFrom_le (B : Nat) : ∀ (ts : List Str) (k : Nat) (acc : Str), (∀ t ∈ ts, t.length ≤ B) → (textFrom k acc ts).length ≤ acc.length + ts.length * (B + 2)
  | [], k, acc, _ => by
    show acc.length ≤ acc.length + 0 * (B + 2)
    omega
  | t :: r, k, acc, h => by
    have ih := sepFrom_le B r (k + 1) (acc ++ (if k > 0 then ", " else "" : String) ++ t) fun x hx => h x (List.mem_cons_of_mem _ hx)
    have e : (acc ++ (if k > 0 then ", " else "" : String) ++ t).length ≤ acc.length + 2 + t.length := by
      rw [strLen_append, strLen_append]
      have q : (Str.ofString (if k > 0 then ", " else "")).length ≤ 2 := by
        by_cases hk : k > 0
        · rw [if_pos hk]; decide
        · rw [if_neg hk]; decide
      omega
    have ht := h t (List.mem_cons_self ..)
    show (textFrom (k + 1) _ r).length ≤ _
    rw [List.length_cons, Nat.succ_mul]
    omega
theorem shownAll_in {ds : List PyData} {t : Str} (h : t ∈ PyData.shownAll ds) : ∃ d ∈ ds, t = d.shown := by
  induction ds with
  | nil => simp [PyData.shownAll] at h
  | cons d ds ih =>
    simp only [PyData.shownAll, List.mem_cons] at h
    rcases h with rfl | h
    · exact ⟨d, List.mem_cons_self .., rfl⟩
    · obtain ⟨e, h1, h2⟩ := ih h
      exact ⟨e, List.mem_cons_of_mem _ h1, h2⟩
theorem shownAll_len : ∀ ds : List PyData, (PyData.shownAll ds).length = ds.length
  | [] => by simp [PyData.shownAll]
  | d :: ds => by simp [PyData.shownAll, shownAll_len ds]
theorem joined_le (B : Nat) : ∀ (ts : List Str), (∀ t ∈ ts, t.length ≤ B) → (Str.join ", " ts).length ≤ ts.length * (B + 2)
  | [], _ => by
    show (0 : Nat) ≤ _
    exact Nat.zero_le _
  | [x], h => by
    have := h x (List.mem_cons_self ..)
    show x.length ≤ _
    rw [List.length_cons, List.length_nil]
    omega
  | x :: y :: r, h => by
    have ih := joined_le B (y :: r) fun t ht => h t (List.mem_cons_of_mem _ ht)
    have hx := h x (List.mem_cons_self ..)
    have e2 : (Str.ofString ", ").length = 2 := by decide
    show (x ++ Str.ofString ", " ++ Str.join ", " (y :: r)).length ≤ _
    rw [strLen_append, strLen_append, e2]
    rw [List.length_cons, Nat.succ_mul]
    omega
/-- what can be shown, in at most n signs and k levels -/
structure Shw (n k : Nat) (d : PyData) : Prop where
  ok : d.showable = true
  len : d.shown.length ≤ n
  dep : d.depth ≤ k
theorem showAll_of : ∀ {ds : List PyData}, (∀ d ∈ ds, d.showable = true) → PyData.showableAll ds = true
  | [], _ => by simp [PyData.showableAll]
  | d :: ds, h => by
    simp only [PyData.showableAll, Bool.and_eq_true]
    exact ⟨h d (List.mem_cons_self ..), showAll_of fun x hx => h x (List.mem_cons_of_mem _ hx)⟩
theorem depAll_of {k : Nat} : ∀ {ds : List PyData}, (∀ d ∈ ds, d.depth ≤ k) → PyData.depthAll ds ≤ k
  | [], _ => by simp [PyData.depthAll]
  | d :: ds, h => by
    simp only [PyData.depthAll]
    exact Nat.max_le.mpr ⟨h d (List.mem_cons_self ..), depAll_of fun x hx => h x (List.mem_cons_of_mem _ hx)⟩
theorem Shw.list {n k m : Nat} {ds : List PyData} (h : ∀ d ∈ ds, Shw n k d) (l : ds.length ≤ m) : Shw (2 + m * (n + 2)) (k + 1) (.list ds) := by
  refine ⟨?_, ?_, ?_⟩
  · simp only [PyData.showable]
    exact showAll_of fun d hd => (h d hd).ok
  · simp only [PyData.shown]
    have e := sepFrom_le n (PyData.shownAll ds) 0 "[" fun t ht => by
      obtain ⟨d, hd, rfl⟩ := shownAll_in ht
      exact (h d hd).len
    have q : (listText (PyData.shownAll ds)).length = (textFrom 0 "[" (PyData.shownAll ds)).length + 1 := by
      show (textFrom 0 "[" (PyData.shownAll ds) ++ "]").length = _
      rw [strLen_append]; rfl
    have q2 : (Str.ofString "[").length = 1 := by decide
    rw [shownAll_len] at e
    have := Nat.mul_le_mul_right (n + 2) l
    omega
  · simp only [PyData.depth]
    have := depAll_of fun d hd => (h d hd).dep
    omega
theorem Shw.tuple {n k m : Nat} {ds : List PyData} (h : ∀ d ∈ ds, Shw n k d) (l : ds.length ≤ m) : Shw (3 + m * (n + 2)) (k + 1) (.tuple ds) := by
  refine ⟨?_, ?_, ?_⟩
  · simp only [PyData.showable]
    exact showAll_of fun d hd => (h d hd).ok
  · simp only [PyData.shown]
    have e := joined_le n (PyData.shownAll ds) fun t ht => by
      obtain ⟨d, hd, rfl⟩ := shownAll_in ht
      exact (h d hd).len
    have q1 : (Str.ofString "(").length = 1 := by decide
    have q2 : (Str.ofString (if (PyData.shownAll ds).length == 1 then ",)" else ")")).length ≤ 2 := by
      by_cases hk : ((PyData.shownAll ds).length == 1) = true
      · rw [if_pos hk]; decide
      · rw [if_neg hk]; decide
    unfold tupleText
    rw [strLen_append, strLen_append, q1]
    rw [shownAll_len] at e
    have := Nat.mul_le_mul_right (n + 2) l
    omega
  · simp only [PyData.depth]
    have := depAll_of fun d hd => (h d hd).dep
    omega
theorem Shw.le {n k n' k' : Nat} {d : PyData} (h : Shw n k d) (a : n ≤ n') (b : k ≤ k') : Shw n' k' d := ⟨h.ok, Nat.le_trans h.len a, Nat.le_trans h.dep b⟩
theorem shw_words : ∀ s ∈ words, (PyData.str s).showable = true ∧ (PyData.str s).shown.length ≤ 8 ∧ (PyData.str s).depth ≤ 1 := by decide +kernel
theorem shw_nums : ∀ i : Fin 61, (PyData.int ((i : Nat) : Int)).showable = true ∧ (PyData.int ((i : Nat) : Int)).shown.length ≤ 2 ∧ (PyData.int ((i : Nat) : Int)).depth ≤ 1 := by decide +kernel
theorem shw_num {i : Nat} (h : i ≤ 60) : Shw 2 1 (.int (i : Int)) := let ⟨a, b, c⟩ := shw_nums ⟨i, by omega⟩; ⟨a, b, c⟩
def lsD (ss : List Str) : PyData := .list (ss.map .str)
theorem shw_ls {ss : List Str} (w : Wd ss) (l : ss.length ≤ 60) : Shw 602 2 (lsD ss) := by
  refine Shw.list (n := 8) (k := 1) (m := 60) (fun d hd => ?_) (by rw [List.length_map]; exact l)
  obtain ⟨s, hs, rfl⟩ := List.mem_map.mp hd
  obtain ⟨a, b, c⟩ := shw_words s (w s hs)
  exact ⟨a, b, c⟩
theorem shw_tup {q : Nat × Nat} (h1 : q.1 ≤ 60) (h2 : q.2 ≤ 60) : Shw 11 2 (tupD q) := by
  refine Shw.tuple (n := 2) (k := 1) (m := 2) (fun d hd => ?_) (Nat.le_refl 2)
  simp only [List.mem_cons, List.not_mem_nil, or_false] at hd
  rcases hd with rfl | rfl
  · exact shw_num h1
  · exact shw_num h2
theorem shw_df {ss1 ss2 : List Str} {ps : List (Nat × Nat)} (h : IsDf ss1 ss2 ps) (l1 : ss1.length ≤ 60) (l2 : ss2.length ≤ 60) : Shw 783 3 (dfD ps) := by
  refine Shw.tuple (n := 11) (k := 2) (m := 60) (fun d hd => ?_) (by rw [List.length_map]; have := df_len h; omega)
  obtain ⟨q, hq, rfl⟩ := List.mem_map.mp hd
  obtain ⟨a, b, c, d, _⟩ := h.1 q hq
  exact shw_tup (by omega) (by omega)
theorem line_ge : 8000 ≤ sizeLine := by decide
end XR
/-! Calls by names alone; try with several clauses 'except C as n' of one name. -/
namespace XR
open PySem PySem.Spec L2
section
variable {X : Cx} {CX : CXT} {k : Nat} {f : Addr} {fd : FuncData} {ps ks : List Str} {sp : Sp} {E : St → XK} {x : Str} {p pos : Pos} {kws : List Keyword} {tk : TA} {g : List Value → List Value → List Value} {gV : List V → List V → List V}
/-- f(k = v, ..), nothing by its place -/
theorem pe_callKw (F : FnOk X.prog X.w X.K X.mg X.base CX k f fd ps sp) (hr : Room k X.A) (hgl : Gl X x) (hm : X.mg x = some (.ref f)) (hk : PySem.W.keepIn X.K (.ref f) = true) (kb : KBinds X.K fd ps ks g gV) (hx : ∀ σ, PassesAt CX X σ (E σ)) (hkw : PK X kws tk)
    (ok1 : (backToKw pos (keywordEach kws X.env)).all (·.1.isSome) = true := by rfl) (ok2 : (backToKw pos (keywordEach kws X.env)).filterMap (·.1) = ks := by rfl) (ok3 : (x == ("__debug__" : Str)) = false := by decide)
    (ok4 : ((backTo pos (starEach [] X.env)).any (·.1) || (backToKw pos (keywordEach kws X.env)).any (·.1.isNone)) = false := by rfl) :
    PE X (.Call (.Name x p) [] kws pos) (fun σ H Q => tk σ H fun zs H1 => sp (gV [] zs) H1 Q (E σ)) := by
  refine ⟨fun pins s σ H Q I h => wpAny_Call_Name_kw (ld_glob I hgl hm ?_ ok3)⟩
  refine PySem.W.callWith_KW0 (h₀ := X.base) I.ok.mod.kin hk ok1 (thn (hkw.run pos pins s σ H _ I h) fun ws t ⟨zs, H2, J, rz, q⟩ => ⟨J.kIn, ?_⟩) ok4
  rw [ok2]
  have r2 : Vals (gV [] zs) (g [] ws) := kb.rel .nil rz
  have hl : (g [] ws).length = ps.length := r2.length.symm.trans (F.len _ _ _ _ q)
  refine wpAny_call (codeAny_mono (F.run X.A X.stack t H2 ⟨[], ks.zip ws⟩ (g [] ws) (gV [] zs) Q (E σ) hr J.env0 (kb.to t [] ws J.kIn hl) r2 q) fun r t' hq => ?_)
  match r, hq with
  | .error e, hq => exact hx σ pins H2 t e t' J hq
  | .ok (.ret u), hq => exact J.after hq
  | .ok .next, hq => exact hq.elim
  | .ok .brk, hq => exact hq.elim
  | .ok .cont, hq => exact hq.elim
end
def turn4 {α : Type} : List α → List α → List α
  | [], [a, b, c, d] => [d, c, b, a]
  | _, _ => []
def turn5 {α : Type} : List α → List α → List α
  | [], [a, b, c, d, e] => [e, d, c, b, a]
  | _, _ => []
theorem turn4_rel {vs : List V} {us : List Value} {zs : List V} {ws : List Value} (r : Vals vs us) (t : Vals zs ws) : Vals (turn4 vs zs) (turn4 us ws) := by
  cases r with
  | cons _ _ => exact .nil
  | nil =>
    cases t with
    | nil => exact .nil
    | cons a t => cases t with
      | nil => exact .nil
      | cons b t => cases t with
        | nil => exact .nil
        | cons c t => cases t with
          | nil => exact .nil
          | cons d t => cases t with
            | nil => exact .cons d (.cons c (.cons b (.cons a .nil)))
            | cons e t => exact .nil
theorem turn5_rel {vs : List V} {us : List Value} {zs : List V} {ws : List Value} (r : Vals vs us) (t : Vals zs ws) : Vals (turn5 vs zs) (turn5 us ws) := by
  cases r with
  | cons _ _ => exact .nil
  | nil =>
    cases t with
    | nil => exact .nil
    | cons a t => cases t with
      | nil => exact .nil
      | cons b t => cases t with
        | nil => exact .nil
        | cons c t => cases t with
          | nil => exact .nil
          | cons d t => cases t with
            | nil => exact .nil
            | cons e t => cases t with
              | nil => exact .cons e (.cons d (.cons c (.cons b (.cons a .nil))))
              | cons f t => exact .nil
theorem turn4_len {us ws : List Value} (h : (turn4 us ws).length = 4) : ∃ a b c d, us = [] ∧ ws = [a, b, c, d] := by
  unfold turn4 at h
  split at h
  · exact ⟨_, _, _, _, rfl, rfl⟩
  · cases h
theorem turn5_len {us ws : List Value} (h : (turn5 us ws).length = 5) : ∃ a b c d e, us = [] ∧ ws = [a, b, c, d, e] := by
  unfold turn5 at h
  split at h
  · exact ⟨_, _, _, _, _, rfl, rfl⟩
  · cases h
section
variable {K : PySem.W.Frag} {x qual : Str} {st : Stmt} {f : Addr} {fd : FuncData} {p1 p2 p3 p4 p5 : Str}
theorem kb4 (F : Fun K x qual st f fd) (h : ∀ (kV doc pm : Value) (an : Option Addr) (cdv ct a b c d : Value), bindArgs (PySem.W.fnOf x qual (defArgs st) (defBody st) (defScope st) .none kV doc pm an cdv ct) ⟨[], [(p4, a), (p3, b), (p2, c), (p1, d)]⟩ = pure [(p1, d), (p2, c), (p3, b), (p4, a)]) :
    KBinds K fd [p1, p2, p3, p4] [p4, p3, p2, p1] turn4 turn4 := by
  obtain ⟨oc, od, kV, doc, pm, an, cdv, ct, osl, rfl, lk, hcd⟩ := F.ex
  refine ⟨fun s us ws _ hl => ?_, turn4_rel⟩
  obtain ⟨a, b, c, d, rfl, rfl⟩ := turn4_len hl
  exact .of_eq (h kV doc pm an cdv ct a b c d)
theorem kb5 (F : Fun K x qual st f fd) (h : ∀ (kV doc pm : Value) (an : Option Addr) (cdv ct a b c d e : Value), bindArgs (PySem.W.fnOf x qual (defArgs st) (defBody st) (defScope st) .none kV doc pm an cdv ct) ⟨[], [(p5, a), (p4, b), (p3, c), (p2, d), (p1, e)]⟩ = pure [(p1, e), (p2, d), (p3, c), (p4, b), (p5, a)]) :
    KBinds K fd [p1, p2, p3, p4, p5] [p5, p4, p3, p2, p1] turn5 turn5 := by
  obtain ⟨oc, od, kV, doc, pm, an, cdv, ct, osl, rfl, lk, hcd⟩ := F.ex
  refine ⟨fun s us ws _ hl => ?_, turn5_rel⟩
  obtain ⟨a, b, c, d, e, rfl, rfl⟩ := turn5_len hl
  exact .of_eq (h kV doc pm an cdv ct a b c d e)
end
/-- behind the suite of 'except C as n' the slot of n is empty -/
def freed (i : Nat) (D : Ends) : Ends := { nx := fun τ G => D.nx (τ.set i none) G, rt := D.rt, bk := fun τ G => D.bk (τ.set i none) G, ct := fun τ G => D.ct (τ.set i none) G }
abbrev Clauses := List (Value × (Addr → Value → Option Addr → TS))
/-- what the clauses, from the first one on, wish of an exception -/
def wishA (K : PySem.W.Frag) (i : Nat) (Wout : WX) (D : Ends) : Clauses → WX
  | [] => Wout
  | (c, ts) :: r => fun cls d σ H => ∃ b, PySem.W.exmOne K cls c = some b ∧ (b = true → ∀ a, H a = none → ts a cls d (freed i D) (σ.set i (some (.ref a))) H) ∧ (b = false → wishA K i Wout D r cls d σ H)
inductive ClausesOk (X : Cx) (n : Str) : List ExceptHandler → Clauses → Prop
  | nil : ClausesOk X n [] []
  | cons {x : Str} {c : Value} {ts : Addr → Value → Option Addr → TS} {st : Stmt} {sts : List Stmt} {np q : Pos} {hl : List ExceptHandler} {l : Clauses} (hc : Names X x c)
      (su : ∀ (a : Addr) (o : Obj) (cls : Value) (d : Option Addr) (pn : List (Addr × Obj)), Zc cls d o → (∃ vs, o.data = .fields vs) → PSs (X.suite a ((a, o) :: pn)) (st :: sts) (ts a cls d)) (r : ClausesOk X n hl l) :
      ClausesOk X n (.ExceptHandler (some (.Name x np)) (some n) (st :: sts) q :: hl) ((c, ts) :: l)
/-- what becomes of an exception that the clauses look at -/
def looked (X : Cx) (hl : List ExceptHandler) (Q : Flow → Shared → Prop) : Value → Shared → Prop := fun e t1 =>
  wpAny (model X.prog X.w) X.A (noteFrame e X.env) (fun _ t2 => wpAny (model X.prog X.w) X.A (setFlight e none) (fun _ t3 => wpAny (model X.prog X.w) X.A (handleBy e X.env hl) Q X.xe t3) X.xe t2) X.xe t1
section
variable {X : Cx} {body : List Stmt} {c₀ : ExceptHandler} {cl : List ExceptHandler} {l : Clauses} {pos : Pos} {tb : WX → TS} {Wout : WX} {i : Nat} {n : Str}
theorem ps_try_asMany (hs : X.stack = X.env :: X.outer) (hf : X.env.frame = some X.env.locals) (hN : X.N.Nodup) (hi : X.N[i]? = some n) (hln : X.env.kindOf n = some .local) (tk : Takes X Wout)
    (hb : ∀ (W : WX) (pn : List (Addr × Obj)) (xe : Value → Shared → Prop), Takes (X.tr pn xe) W → PySem.PassesOwn (model X.prog X.w) X.A X.env xe → PSs (X.tr pn xe) body (tb W)) (hc : ClausesOk X n (c₀ :: cl) l) :
    PS X (.Try body (c₀ :: cl) [] [] pos) (fun D σ H => tb (wishA X.K i Wout D l) D σ H) := by
  refine ⟨fun pins s σ H D I h => ?_⟩
  have ok := I.ok
  have hfr : X.A.frames = some (X.env :: X.outer) := ok.frames.trans (congrArg some hs)
  have hloc : Loc X.env.scope n := .inl hln
  refine wpAny_Try_except (wpAny_mono ((hb (wishA X.K i Wout D l) (X.pn ++ pins) (looked X (c₀ :: cl) (SP X pins D)) (fun u t xx => ?_) PySem.PassesOwn.looking).run [] s σ H D (I.toTry _) h) (fun fl t q => ?_) fun e t he => he)
  · obtain ⟨a, B, sI, pins', σ', H', cls, d, rfl, J', nb, up, sk, na, os, ag, w⟩ := xx
    have J : Inv X pins σ' H' sI := J'.ofTry ok
    rw [show (X.tr (X.pn ++ pins) (looked X (c₀ :: cl) (SP X pins D))).stack = X.env :: X.outer from hs] at sk
    show wpAny (model X.prog X.w) X.A (noteFrame (.ref a) X.env) _ _ _
    refine Sky.land Zc.steady hfr hf sk fun g3 fl3 up3 => ?_
    have J3 : Inv X pins σ' H' { t with heap := g3 } := J.landed nb fl3.1 (up.trans up3) os ag
    obtain ⟨o3, vs3, e3, z3, d3⟩ := fl3.there
    have nofr : a ∉ frs (X.env :: X.outer) := fun hm => by
      obtain ⟨_, o', e', hnf⟩ := fl3.2.2.1.mem hm
      rw [e3] at e'
      cases e'
      exact hnf _ d3
    have nL : a ≠ X.env.locals := fun z => nofr (List.mem_filterMap.mpr ⟨X.env, List.mem_cons_self, hf.trans (congrArg some z.symm)⟩)
    have nF : a ∉ X.fs := fun hm => let ⟨e, he, q⟩ := List.mem_filterMap.mp hm; nofr (List.mem_filterMap.mpr ⟨e, List.mem_cons_of_mem _ he, q⟩)
    have S3 := J3.suite e3 d3 na nL nF
    have go : ∀ {hl : List ExceptHandler} {k : Clauses}, ClausesOk X n hl k → wishA X.K i Wout D k cls d σ' H' →
        wpAny (model X.prog X.w) X.A (handleBy (.ref a) X.env hl) (SP X pins D) X.xe { t with heap := g3 } := by
      intro hl k hk
      induction hk with
      | nil =>
        intro w
        refine wpAny_handleBy_nil ?_
        obtain ⟨k1, k2, k3, oe, vs, T, oT, ts', he, hz, hd, h1, hr⟩ := id fl3
        unfold PySem.passOn
        refine wpAny_bind (wpAny_field he hd h1 ?_)
        rw [if_neg (by simp : ¬ ((Value.ref T == Value.none) = true))]
        have out : wpAny (model X.prog X.w) X.A (setFlight (.ref a) X.env.frame) (fun _ t4 => wpAny (model X.prog X.w) X.A (throw (.ref a) : Sem Flow) (SP X pins D) X.xe t4) X.xe { t with heap := g3 } := by
          rw [hf]
          exact HandSPX.setFlight_upZ fl3 fun g4 hh4 up4 => wpAny_throw (tk _ _ ⟨a, B, sI, pins, σ', H', cls, d, rfl, J, nb, (up.trans up3).trans up4, .inr (.inr (by rw [hs]; exact hh4)), na, os, ag, w⟩)
        first
          | exact wpAny_bind (wpAny_pure (wpAny_bind out))
          | exact wpAny_bind out
      | @cons x c ts st sts np q hl2 l2 hc su r ih =>
        intro w
        obtain ⟨b, hb1, yes, no⟩ := w
        refine wpAny_handleBy_cons (codeAny_handlers_test ?_) (fun q => nomatch q)
        have LT : PySem.W.Looks (model X.prog X.w) g3 (typeOf (.ref a)) cls := fun A Q E t k q => wpAny_typeOf_ref (k _ _ e3) (by rw [z3.1]; exact q)
        have test : ∀ {Q : Value → Shared → Prop} {E : Value → Shared → Prop}, Q c { t with heap := g3 } → wpAny (model X.prog X.w) (X.A.mark (some (.ref a))) (eval (.Name x np) X.env) Q E { t with heap := g3 } := fun {Q E} q => by
          obtain ⟨hg, hdb, hm | ⟨hm, hv, hnn⟩⟩ := hc
          · exact ld_glob (X := X.suite a ((a, o3) :: (X.pn ++ pins))) S3 hg hm q hdb
          · exact ld_blt (X := X.suite a ((a, o3) :: (X.pn ++ pins))) S3 hg hm hv q hnn hdb
        refine test ((PySem.W.exm_one (M := model X.prog X.w) J3.kIn LT hb1).here ?_)
        cases b with
        | false => exact ih (no rfl)
        | true =>
          refine codeAny_handlers_suite_as (HandSPX.lands_againZ fl3 fun g4 fl4 up4 => ?_)
          have J4 : Inv X pins σ' H' { t with heap := g4 } := J.landed nb fl4.1 ((up.trans up3).trans up4) os ag
          obtain ⟨o4, vs4, e4, z4, d4⟩ := fl4.there
          refine store_ok (X := X.suite a ((a, o4) :: (X.pn ++ pins))) (v := .ref a) (J4.suite e4 d4 na nL nF) hN hi hloc rfl (fun t5 S5 => ?_) (.inr hln)
          refine wpAny_mono ((su a o4 cls d (X.pn ++ pins) z4 ⟨_, d4⟩).run [] t5 _ H' _ S5 (yes rfl a na)) (fun fl t6 hsp => ?_) (fun _ _ z => z.elim)
          have gone : ∀ {σ6 : St} {H6 : Hp} {Q : Shared → Prop}, Inv (X.suite a ((a, o4) :: (X.pn ++ pins))) [] σ6 H6 t6 → (∀ t7, Inv X pins (σ6.set i none) H6 t7 → Q t7) →
              wpAny (model X.prog X.w) X.A (do bindName X.env n .none; unbindBehindTheSuite X.env n q) (fun _ t7 => Q t7) X.xe t6 := fun {σ6 H6 Q} S6 hq => gone_ok (S6.unsuite ok) hN hi hln hq
          cases fl with
          | ret u =>
            obtain ⟨v6, σ6, H6, S6, r6, q6⟩ := hsp
            exact gone S6 fun t7 J7 => ⟨_, _, _, J7, r6, q6⟩
          | next =>
            obtain ⟨σ6, H6, S6, q6⟩ := hsp
            exact gone S6 fun t7 J7 => ⟨_, _, J7, q6⟩
          | brk =>
            obtain ⟨σ6, H6, S6, q6⟩ := hsp
            exact gone S6 fun t7 J7 => ⟨_, _, J7, q6⟩
          | cont =>
            obtain ⟨σ6, H6, S6, q6⟩ := hsp
            exact gone S6 fun t7 J7 => ⟨_, _, J7, q6⟩
    exact go hc w
  · cases fl with
    | ret u =>
      obtain ⟨v, τ, G, J', r, z⟩ := q
      exact ⟨v, τ, G, J'.ofTry ok, r, z⟩
    | next =>
      obtain ⟨τ, G, J', z⟩ := q
      exact wpAny_execs_nil ⟨τ, G, J'.ofTry ok, z⟩
    | brk =>
      obtain ⟨τ, G, J', z⟩ := q
      exact ⟨τ, G, J'.ofTry ok, z⟩
    | cont =>
      obtain ⟨τ, G, J', z⟩ := q
      exact ⟨τ, G, J'.ofTry ok, z⟩
end
end XR
namespace XR
open PySem L2
theorem passP {X : Cx} (σ : St) : PassesAt CX0 X σ E0 := fun _ _ _ _ _ _ h => h.elim
theorem LsAt.at {H : Hp} {a : Addr} {ss : List Str} (h : LsAt H (.ref a) ss) : H a = some (.lst (ss.map V.str)) := by
  obtain ⟨b, e, h1, _⟩ := h
  cases e
  exact h1
theorem LsAt.dq {K : PySem.W.Frag} {H : Hp} {a : Addr} {ss : List Str} (h : LsAt H (.ref a) ss) : Dq K H (.ref a) (lsD ss) := .lst (SqL.of h.at) (dqStrs ss)
theorem LsAt.wd {H : Hp} {x : V} {ss : List Str} (h : LsAt H x ss) : Wd ss := let ⟨_, _, _, w, _⟩ := h; w
theorem LsAt.le {H : Hp} {x : V} {ss : List Str} (h : LsAt H x ss) : ss.length ≤ 60 := let ⟨_, _, _, _, l⟩ := h; l
theorem DfAt.updL {H : Hp} {t p : Addr} {ps : List (Nat × Nat)} {xs ys : List V} (h : DfAt H t ps) (k : H p = some (.lst xs)) : DfAt (upd H p (.lst ys)) t ps := by
  obtain ⟨rs, h1, h2⟩ := h
  refine ⟨rs, ?_, h2.updL k⟩
  rw [upd_ne (ne_of h1 k (by intro z; cases z))]
  exact h1
theorem same_new {H H1 : Hp} {p : Addr} {o o' : HO} (n : H p = none) (s : Same (upd H p o) H1) : Same H (upd H1 p o') := fun b u e => by
  rw [upd_ne (ne_of_none e n)]
  exact s _ _ (same_upd n _ _ e)
theorem isdiff_ok {K : PySem.W.Frag} {CT : Addr} {H : Hp} {x1 x2 v : V} {ss1 ss2 : List Str} {ps : List (Nat × Nat)} {Q : VK} {E : XK} (t1 : TxV K H x1 ss1) (t2 : TxV K H x2 ss2) (hv : DfV K H v ps) (h : IsDf ss1 ss2 ps) (z : ∀ H', Same H H' → Q (.bl true) H') : spIsDiff K CT [x1, x2, v] H Q E := by
  have l1 := t1.len
  obtain ⟨d1, a1, b1, rfl⟩ := t1
  obtain ⟨d2, a2, b2, rfl⟩ := t2
  have hl := df_len h
  refine ⟨x1, x2, v, d1, d2, dfD ps, rfl, a1, a2, hv, ?_, fun _ _ => ?_, BadT.none (by simp [b1, b2])⟩
  · show (ps.map tupD).length ≤ 1000
    rw [List.length_map]
    omega
  · rw [df_ok h]
    exact z
theorem Shw.line {n k : Nat} {d : PyData} (h : Shw n k d) (hn : n ≤ 8000) : d.shown.length ≤ sizeLine := Nat.le_trans h.len (Nat.le_trans hn line_ge)
theorem Shw.low {n k : Nat} {d : PyData} (h : Shw n k d) (hk : k ≤ 60) : d.depth ≤ 60 := Nat.le_trans h.dep hk
def twice (ps : List (Nat × Nat)) : PyData := .list [dfD ps, dfD ps]
theorem shw_twice {ss1 ss2 : List Str} {ps : List (Nat × Nat)} (h : IsDf ss1 ss2 ps) (l1 : ss1.length ≤ 60) (l2 : ss2.length ≤ 60) : Shw 1572 4 (twice ps) := by
  refine Shw.list (n := 783) (k := 3) (m := 2) (fun d hd => ?_) (Nat.le_refl 2)
  simp only [List.mem_cons, List.not_mem_nil, or_false] at hd
  rcases hd with rfl | rfl <;> exact shw_df h l1 l2
theorem dq_twice {K : PySem.W.Frag} {H : Hp} {p : Addr} {x y : V} {ps : List (Nat × Nat)} (h : H p = some (.lst [x, y])) (k1 : DfV K H x ps) (k2 : DfV K H y ps) : Dq K H (.ref p) (twice ps) := .lst (SqL.of h) (.cons k1 (.cons k2 .nil))
theorem LsAt.but {p : Addr} {H H' : Hp} {x : V} {ss : List Str} (b : But p H H') (hp : PotAt H p) (h : LsAt H x ss) : LsAt H' x ss := let ⟨a, e, h1, h2⟩ := h; ⟨a, e, b _ _ h1 (lst_ne hp h1).symm, h2⟩
theorem DfX.but {a t : Addr} {H H' : Hp} {ps : List (Nat × Nat)} (b : But a H H') (hp : PotAt H a) (h : DfX H t ps) : DfX H' t ps := by
  obtain ⟨o, rs, h1, h2, h3, h4⟩ := h
  refine ⟨o, rs, b _ _ h1 (fun e => ?_), h2, h3, h4.but b hp⟩
  obtain ⟨p, q, h, _⟩ := hp
  rw [e, h] at h1
  cases h1
def turn3 {α : Type} : List α → List α → List α
  | [], [a, b, c] => [c, b, a]
  | _, _ => []
theorem turn3_rel {vs : List V} {us : List Value} {zs : List V} {ws : List Value} (r : Vals vs us) (t : Vals zs ws) : Vals (turn3 vs zs) (turn3 us ws) := by
  cases r with
  | cons _ _ => exact .nil
  | nil =>
    cases t with
    | nil => exact .nil
    | cons a t => cases t with
      | nil => exact .nil
      | cons b t => cases t with
        | nil => exact .nil
        | cons c t => cases t with
          | nil => exact .cons c (.cons b (.cons a .nil))
          | cons d t => exact .nil
theorem turn3_len {us ws : List Value} (h : (turn3 us ws).length = 3) : ∃ a b c, us = [] ∧ ws = [a, b, c] := by
  unfold turn3 at h
  split at h
  · exact ⟨_, _, _, rfl, rfl⟩
  · cases h
section
variable {K : PySem.W.Frag} {x qual : Str} {st : Stmt} {f : Addr} {fd : FuncData} {p1 p2 p3 : Str}
theorem kb3 (F : Fun K x qual st f fd) (h : ∀ (kV doc pm : Value) (an : Option Addr) (cdv ct a b c : Value), bindArgs (PySem.W.fnOf x qual (defArgs st) (defBody st) (defScope st) .none kV doc pm an cdv ct) ⟨[], [(p3, a), (p2, b), (p1, c)]⟩ = pure [(p1, c), (p2, b), (p3, a)]) :
    KBinds K fd [p1, p2, p3] [p3, p2, p1] turn3 turn3 := by
  obtain ⟨oc, od, kV, doc, pm, an, cdv, ct, osl, rfl, lk, hcd⟩ := F.ex
  refine ⟨fun s us ws _ hl => ?_, turn3_rel⟩
  obtain ⟨a, b, c, rfl, rfl⟩ := turn3_len hl
  exact .of_eq (h kV doc pm an cdv ct a b c)
end
end XR
namespace XR
open PySem PySem.Spec L2 PySem.W
open PyProof.Rows (sortedAll sortedAll_old sortedAll_at)
/-- sorted(xs) of a list whose items stand for data: zs tells each item and what it stands for -/
def rSortedDt {β : Type} (K : PySem.W.Frag) (enc : β → PyData) : List V → Hp → VK → Prop := fun vs H Q => ∃ (a : Addr) (zs : List (V × β)), vs = [V.ref a] ∧ SqL K H a (zs.map (·.1)) ∧ (∀ z ∈ zs, Dp K H z.1 (enc z.2)) ∧ AllAlike (zs.map fun z => enc z.2) ∧ Sortable (zs.map fun z => enc z.2) ∧ (∀ z ∈ zs, (enc z.2).depth ≤ 60) ∧
  ∀ p, H p = none → Q (.ref p) (upd H p (.lst ((zs.mergeSort (dataLe false fun z => enc z.2)).map (·.1))))
section
variable {X : Cx}
theorem each_vals {β : Type} : ∀ {out : List Value} {zs : List (V × β)}, EachIs (fun u z => RelV z.1 u) out zs → Vals (zs.map (·.1)) out
  | _, _, .nil => .nil
  | _, _, .cons h t => .cons h (each_vals t)
theorem vals_each {β : Type} : ∀ {us : List Value} {zs : List (V × β)}, Vals (zs.map (·.1)) us → EachIs (fun u z => RelV z.1 u) us zs
  | _, [], h => by cases h; exact .nil
  | _, z :: zs, h => by
    cases h with
    | cons a b => exact .cons a (vals_each b)
theorem each_and {β : Type} {R S : Value → β → Prop} : ∀ {us : List Value} {zs : List β}, EachIs R us zs → (∀ z ∈ zs, ∀ u, R u z → S u z) → EachIs S us zs
  | _, _, .nil, _ => .nil
  | _, _, .cons h t, f => .cons (f _ (List.mem_cons_self ..) _ h) (each_and t fun z hz => f z (List.mem_cons_of_mem _ hz))
theorem cr_sortedDt {β : Type} {enc : β → PyData} {k : Nat} (hr : Room k X.A) : CallR X (.builtin "sorted") (rSortedDt X.K enc) := by
  intro pins s σ H vs us Q I r h
  obtain ⟨a, zs, rfl, hs, hd, hal, hso, hdp, q⟩ := h
  obtain ⟨its, rv, hl, hz⟩ := I.list hs
  obtain ⟨u, rfl, ru⟩ := vals1 r
  obtain rfl : u = Value.ref a := ru
  have e := vals_each rv
  have er : EachIs (fun v z => ∃ as, Reads s.heap v (enc z.2) as) its zs := each_and e fun z hz u hu => Dp.reads I _ _ _ (hd z hz) hu
  have hlen : zs.length ≤ sizeLine := by
    have := e.length
    rw [← this, ← rv.length]
    exact hz
  refine sorted_data (R := fun u (z : V × β) => RelV z.1 u) (enc := fun z : V × β => enc z.2) hl.isList e er hal hso hlen (fun z hz => ?_) fun out ho he => ?_
  · have := hdp z hz
    have := hr.units
    show X.A.units + 2 + (enc z.2).depth < cLine
    omega
  · obtain ⟨n, hn⟩ := sortedAll_at s.heap its out.toArray
    have hv := each_vals he
    refine ⟨.ref (s.heap.objs.size + 1), upd H (s.heap.objs.size + 1) (.lst ((zs.mergeSort (dataLe false fun z => enc z.2)).map (·.1))), I.laid (t' := s.toks) (fun b o e => sortedAll_old e) (Nat.le_succ _) ⟨?_, out, n, hv, hn⟩, rfl, q _ (I.hok.fresh (Nat.le_succ _))⟩
    rw [List.length_map, List.length_mergeSort]
    exact hlen
end
end XR
/-! sorted(xs, key=f), f a def of the text whose answers are whole numbers. -/
namespace XR
open PySem PySem.Spec PySem.W PySem.Calls
open PyProof.Rows hiding St
open L2
section
variable {X : Cx} {pins : List (Addr × Obj)} {σ : L2.St}
/-- the heap without the object at b -/
def without (h : Heap) (b : Addr) : Heap := h.update b fun _ => { cls := .none, data := .freed }
theorem without_at {h : Heap} {b : Addr} {o : Obj} (e : h.get? b = some o) : (without h b).get? b = none := by
  cases q : (without h b).get? b with
  | none => rfl
  | some u =>
    exfalso
    obtain ⟨q1, q2⟩ := Heap.get?_some_iff.mp q
    unfold without at q1
    have := (Heap.get?_some_iff.mp e).1
    simp only [Heap.update, Array.getElem?_modify, if_true, this, Option.map_some, Option.some.injEq] at q1
    rw [← q1] at q2
    cases q2
theorem without_ne {h : Heap} {b c : Addr} (n : c ≠ b) : (without h b).get? c = h.get? c := Heap.get?_update_ne _ _ _ _ n
/-- one call of the key -/
def KeyTurn (X : Cx) (A : Around) (σ : L2.St) (f : Value) (vs : List Value) (ks : List Int) (Pv : Nat → Hp → Prop) : Prop :=
  ∀ (j : Nat) (v : Value) (k : Int), vs[j]? = some v → ks[j]? = some k → ∀ (ip : List (Addr × Obj)) (H' : Hp) (s' : Shared), Inv X ip σ H' s' → Pv j H' →
    wpAny (model X.prog X.w) A (call f [v]) (fun u s2 => ∃ t H2, u = .int k t ∧ Inv X ip σ H2 s2 ∧ Pv (j + 1) H2) (fun _ _ => False) s'
def intsOk (us : List Value) (ks : List Int) : Prop := EachIs (fun (v : Value) (k : Int) => ∃ t, v = .int k t) us ks
theorem ints_read {h : Heap} : ∀ {us : List Value} {ks : List Int}, intsOk us ks → EachIs (fun v k => ∃ as, Reads h v k as) us (ks.map PyData.int)
  | _, _, .nil => .nil
  | _, _, .cons ⟨t, e⟩ r => by
    subst e
    exact .cons ⟨[], .int _ t⟩ (ints_read r)
theorem ints_alike (ks : List Int) : AllAlike (ks.map PyData.int) := AllAlike.of fun b b' => by simp [alike]
theorem ints_sortable (ks : List Int) : Sortable (ks.map PyData.int) := Sortable.others fun b => ⟨by simp, fun xs => by simp⟩
theorem keyI_rest {A : Around} {E : Value → Shared → Prop} {s : Shared} {H : Hp} {f : Value} {a kS : Addr} {e1 : Nat} {vs : List Value} {ks : List Int} {Pv : Nat → Hp → Prop} {P : PySem.Fin → Shared → Prop}
    (I : Inv X pins σ H s) (p0 : Pv 0 H) (fk : FpOk X pins H kS) (fa : FpOk X pins H a) (nk : s.heap.get? kS = some (seqObj "list" #[] 0)) (na : s.heap.get? a = some (seqObj "list" #[] e1)) (hka : kS ≠ a) (hlen : ks.length = vs.length) (hZ : vs.length ≤ sizeLine) (hu : A.units + 60 < cLine)
    (turn : KeyTurn X A σ f vs ks Pv)
    (h : ∀ s' H' out c, Inv X pins σ H' s' → Pv vs.length H' → s'.heap.get? a = some (seqObj "list" (List.toArray out) c) → FpOk X pins H' a → KeyedOut false (ks.map PyData.int) vs out → P (.done (.ret .none)) s') :
    wpAny (model X.prog X.w) A (ksk_rest a f false vs.toArray e1 (.ref kS)) P E s := by
  unfold ksk_rest
  refine wpAny_bind (wpAny_rule ?_)
  rw [List.forIn_toArray]
  refine wpAny_bind (ksk_fold (fun i s' => ∃ (H' : Hp) (kA : Array Value) (e : Nat), Inv X pins σ H' s' ∧ Pv i H' ∧ FpOk X pins H' kS ∧ FpOk X pins H' a ∧ s'.heap.get? kS = some (seqObj "list" kA e) ∧ s'.heap.get? a = some (seqObj "list" #[] e1) ∧ intsOk kA.toList (ks.take i)) vs 0 s
    ⟨H, #[], 0, I, p0, fk, fa, nk, na, by rw [List.take_zero]; exact .nil⟩ ?step ?done)
  case step =>
    rintro j x s' hx ⟨H', kA, e, I', pj, fk', fa', nk', na', hk⟩
    simp only [Nat.zero_add] at pj hk ⊢
    have hj : j < vs.length := (List.getElem?_eq_some_iff.mp hx).1
    obtain ⟨k, hkj⟩ : ∃ k, ks[j]? = some k := ⟨_, List.getElem?_eq_getElem (by omega)⟩
    have hz : kA.size ≤ vs.length := by
      have q := hk.length
      rw [Array.length_toList, List.length_take] at q
      omega
    have nc : ∀ (xs : Array Value) (n : Nat) (v : Option Value), (seqObj "list" xs n).data ≠ .cell v := fun xs n v q => by cases q
    have Ip := I'.pinned (fp := [kS, a]) (fun b hb => by
      rcases List.mem_cons.mp hb with q | q
      · rw [q]; exact fk'
      · rw [List.mem_singleton.mp q]; exact fa') (fun b hb => by
      rcases List.mem_cons.mp hb with q | q
      · rw [q]; exact ⟨_, nk', nc _ _⟩
      · rw [List.mem_singleton.mp q]; exact ⟨_, na', nc _ _⟩)
    have m1 : (kS, seqObj "list" kA e) ∈ X.pn ++ (pins ++ pinsAt [kS, a] s'.heap) := List.mem_append_right _ (List.mem_append_right _ (mem_pinsAt (List.mem_cons_self ..) nk'))
    have m2 : (a, seqObj "list" #[] e1) ∈ X.pn ++ (pins ++ pinsAt [kS, a] s'.heap) := List.mem_append_right _ (List.mem_append_right _ (mem_pinsAt (List.mem_cons_of_mem _ (List.mem_singleton.mpr rfl)) na'))
    refine wpAny_bind (wpAny_attempt (wpAny_mono (turn j x k hx hkj _ H' s' Ip pj) (fun v s2 he => ?_) fun _ _ hF => hF.elim))
    obtain ⟨t, H2, rfl, I2, p2⟩ := he
    have g1 := I2.pin _ m1
    have g2 := I2.pin _ m2
    have fk2 : FpOk X pins H2 kS := ⟨g1.2.1, fk'.2⟩
    have fa2 : FpOk X pins H2 a := ⟨g2.2.1, fa'.2⟩
    have I3 := I2.unpinned
    dsimp only
    have sb := Heap.SameBut.update s2.heap kS (Obj.mapSeq (·.push (.int k t)))
    obtain ⟨c2, hc2⟩ : ∃ c2, (s2.heap.update kS (Obj.mapSeq (·.push (.int k t)))).get? kS = some (seqObj "list" (kA.push (.int k t)) c2) := ⟨_, get?_update_seq g1.1 (·.push (.int k t))⟩
    refine wpAny_bind (listUpdate_at g1.1 rfl ?_ (Nat.le_trans hz hZ) (by rw [Array.size_push]; exact Nat.succ_le_succ (Nat.le_trans hz hZ)))
    have I4 : Inv X pins σ H2 { s2 with heap := s2.heap.update kS (Obj.mapSeq (·.push (.int k t))) } := I3.turned (t' := s2.toks) (fun b o hb q => (sb.2 b hb).trans q) fk2.1 fk2.2.1 fk2.2.2.2.1 fk2.2.2.2.2.1 fk2.2.2.2.2.2
    refine wpAny_pure ⟨rfl, H2, kA.push (.int k t), c2, I4, p2, fk2, fa2, hc2, (sb.2 a hka.symm).trans g2.1, ?_⟩
    rw [show ks.take (j + 1) = ks.take j ++ [k] by rw [List.take_add_one, hkj]; rfl, show (kA.push (.int k t)).toList = kA.toList ++ [.int k t] by simp]
    exact each_snoc ⟨t, rfl⟩ hk
  case done =>
    rintro s' ⟨H', kA, e, I', pj, fk', fa', nk', na', hk⟩
    rw [Nat.zero_add] at pj
    have hk2 : intsOk kA.toList ks := by
      rw [show ks.take (0 + vs.length) = ks from List.take_of_length_le (by omega)] at hk
      exact hk
    have hsz : kA.size = vs.length := by
      have q := hk2.length
      rw [Array.length_toList] at q
      omega
    refine wpAny_bind (listItems_at nk' rfl ?_)
    have hrd := ints_read (h := s'.heap) hk2
    refine keyH_end (κ := dataKind s'.heap (ks.map PyData.int)) (h₁ := without s'.heap kS) (s := s') (fun b o hb q => ?_) (without_at nk') nk' na' hka (SortsAt.data hrd (ints_alike ks) (ints_sortable ks) fun d hd => ?_) hsz hZ fun h3 tk3 c k3 n3 => ?_
    · by_cases z : b = kS
      · rw [z, without_at nk'] at q; cases q
      · rw [without_ne z] at q; exact q
    · obtain ⟨k, _, rfl⟩ := List.mem_map.mp hd
      simp only [PyData.depth]
      omega
    · refine h _ H' _ c (I'.turnedL (t' := tk3) (ch := [kS, a]) (fun b o hb q => ?_) fun b hb => ?_) pj n3 fa' ⟨s'.heap, kA.toList, ints_alike ks, rfl, hrd⟩
      · refine k3 b o (fun z => hb (by simp [z])) ?_
        rw [without_ne (fun z => hb (by simp [z]))]
        exact q
      · rcases List.mem_cons.mp hb with q | q
        · rw [q]; exact fk'
        · rw [List.mem_singleton.mp q]; exact fa'
end
end XR
namespace XR
open PySem PySem.Spec PySem.W PySem.Calls
open PyProof.Rows hiding St
open L2
section
variable {X : Cx} {pins : List (Addr × Obj)} {σ : L2.St}
theorem keyI_tree {A : Around} {E : Value → Shared → Prop} {s : Shared} {H : Hp} {f : Value} {a n : Nat} {vs : List Value} {ks : List Int} {Pv : Nat → Hp → Prop} {P : PySem.Fin → Shared → Prop}
    (I : Inv X pins σ H s) (p0 : Pv 0 H) (fa : FpOk X pins H a) (ho : s.heap.get? a = some (seqObj "list" vs.toArray n)) (hlen : ks.length = vs.length) (hZ : vs.length ≤ sizeLine) (hu : A.units + 60 < cLine) (turn : KeyTurn X A σ f vs ks Pv)
    (h : ∀ s' H' out c, Inv X pins σ H' s' → Pv vs.length H' → s'.heap.get? a = some (seqObj "list" (List.toArray out) c) → FpOk X pins H' a → KeyedOut false (ks.map PyData.int) vs out → P (.done (.ret .none)) s') :
    wpAny (model X.prog X.w) A (ksk_tree a f false) P E s := by
  have la : a < s.heap.objs.size := Heap.lt_size ho
  obtain ⟨e1, ho1⟩ : ∃ e1, (s.heap.update a (Obj.mapSeq fun _ => (#[] : Array Value))).get? a = some (seqObj "list" #[] e1) := ⟨_, get?_update_seq ho fun _ => #[]⟩
  have sb := Heap.SameBut.update s.heap a (Obj.mapSeq fun _ => (#[] : Array Value))
  have I1 : Inv X pins σ H { s with heap := s.heap.update a (Obj.mapSeq fun _ => (#[] : Array Value)) } := I.turned (t' := s.toks) (fun b o hb q => (sb.2 b hb).trans q) fa.1 fa.2.1 fa.2.2.2.1 fa.2.2.2.2.1 fa.2.2.2.2.2
  have sz1 : (s.heap.update a (Obj.mapSeq fun _ => (#[] : Array Value))).objs.size = s.heap.objs.size := Heap.size_update ..
  unfold ksk_tree
  refine wpAny_bind (listItems_at ho rfl ?_)
  refine wpAny_bind (listUpdate_at ho rfl ?_ (by rw [List.size_toArray]; exact hZ) (Nat.zero_le _))
  refine wpAny_bind (seqEpoch_at ho1 rfl ?_)
  refine wpAny_bind (wpAny_newTuple ?_ hZ)
  refine wpAny_bind (wpAny_newList ?_ (Nat.zero_le _))
  refine wpAny_holding ?_
  have sz2 : ((s.heap.update a (Obj.mapSeq fun _ => (#[] : Array Value))).push (seqObj "tuple" vs.toArray 0)).objs.size = s.heap.objs.size + 1 := by rw [size_push', sz1]
  have I2 : Inv X pins σ H { s with heap := ((s.heap.update a (Obj.mapSeq fun _ => (#[] : Array Value))).push (seqObj "tuple" vs.toArray 0)).push (seqObj "list" #[] 0) } := I1.kept (t' := s.toks) fun b o q => Heap.get?_push_of_some _ (Heap.get?_push_of_some _ q)
  have nk : H ((s.heap.update a (Obj.mapSeq fun _ => (#[] : Array Value))).push (seqObj "tuple" vs.toArray 0)).objs.size = none := I.hok.fresh (by rw [sz2]; exact Nat.le_succ _)
  have fk : FpOk X pins H ((s.heap.update a (Obj.mapSeq fun _ => (#[] : Array Value))).push (seqObj "tuple" vs.toArray 0)).objs.size := I.fpOk (by rw [sz2]; exact Nat.le_succ _) nk
  exact keyI_rest I2 p0 fk fa (Heap.get?_push_size _ rfl) (Heap.get?_push_of_some _ (Heap.get?_push_of_some _ ho1)) (by rw [sz2]; exact Nat.ne_of_gt (Nat.lt_succ_of_lt la)) hlen hZ hu turn h
/-- sorted(xs, key=f): zs tells each item and its key; Pv what stands behind j calls -/
def rSortedBy (K : PySem.W.Frag) (sp : Sp) (f : Addr) : List V → List V → Hp → VK → Prop := fun vs ws H Q => ∃ (a : Addr) (zs : List (V × Int)) (Pv : Nat → Hp → Prop), vs = [V.ref a] ∧ ws = [V.ref f] ∧ SqL K H a (zs.map (·.1)) ∧ Pv 0 H ∧
  (∀ (j : Nat) (z : V × Int) (H' : Hp), zs[j]? = some z → Pv j H' → sp [z.1] H' (fun y H2 => y = .int z.2 ∧ Pv (j + 1) H2) E0) ∧
  ∀ p H', Pv zs.length H' → H' p = none → Q (.ref p) (upd H' p (.lst ((zs.mergeSort fun x y => decide (x.2 ≤ y.2)).map (·.1))))
theorem cr_sortedBy {k : Nat} {sp : Sp} {f : Addr} (F : FnR X.prog X.w X.K X.mg X.base CX0 k f sp) (hr : Room (k + 2) X.A) : CallRK X (.builtin "sorted") [Str.ofString "key"] (rSortedBy X.K sp f) := by
  intro pins s σ H vs ws us uws Q I r rz h
  obtain ⟨a, zs, Pv, rfl, rfl, hs, p0, hstep, q⟩ := h
  obtain rfl := Vals.ref1 r
  obtain ⟨w1, rfl, ew⟩ := vals1 rz
  obtain rfl : w1 = Value.ref f := ew
  obtain ⟨its, rv, hl, hz⟩ := I.list hs
  have e := vals_each rv
  have hlen : zs.length = its.length := e.length.symm
  have hZ : its.length ≤ sizeLine := by rw [← rv.length]; exact hz
  have hr2 : Room k X.A.in1.in1 := (show Room (k + 1) X.A.in1 from Room.in1 hr).in1
  refine sorted_of_sort hl.isList hZ (PyProof.Rows.ksk_s1 _ _) (fun _ => PyProof.Rows.ksk_l1 _ _) fun E' => ?_
  rw [show Builtin.«list.sort» ⟨[Value.ref (s.heap.objs.size + 1)], [Str.ofString "key"].zip [Value.ref f]⟩ = ksk_tree (s.heap.objs.size + 1) (.ref f) false from ksk_t1 _ _]
  have I0 : Inv X pins σ H { s with heap := copyHeap s.heap its } := I.kept (t' := s.toks) fun b o q => copyHeap_old q
  have fa : FpOk X pins H (s.heap.objs.size + 1) := I.fpOk (Nat.le_succ _) (I.hok.fresh (Nat.le_succ _))
  refine keyI_tree (s := { s with heap := copyHeap s.heap its }) (ks := zs.map (·.2)) I0 p0 fa (copyHeap_at s.heap its) (by rw [List.length_map]; exact hlen) hZ ?_ ?_ ?_
  · have := hr2.units
    omega
  · intro j v k' hv hk ip H' s' I' pj
    obtain ⟨z, hzj, rfl⟩ : ∃ z, zs[j]? = some z ∧ k' = z.2 := by
      rw [List.getElem?_map] at hk
      obtain ⟨z, e1, e2⟩ := Option.map_eq_some_iff.mp hk
      exact ⟨z, e1, e2.symm⟩
    have rz : RelV z.1 v := e.zip (v, z) (List.mem_of_getElem? (i := j) (by rw [List.getElem?_zip_eq_some]; exact ⟨hv, hzj⟩))
    refine wpAny_call (codeAny_mono (F X.A.in1.in1 X.stack s' H' [v] [z.1] _ E0 hr2 I'.env0.in1.in1 (.cons rz .nil) (hstep j z H' hzj pj)) fun r2 s2 hq => ?_)
    cases r2 with
    | error e => exact hq.elim
    | ok fl =>
      cases fl with
      | ret u =>
        obtain ⟨y, H2, I2, ry, ey, p2⟩ := I'.after hq
        subst ey
        obtain ⟨t, et⟩ := (show ∃ t, u = Value.int z.2 t from ry)
        exact ⟨t, H2, et, I2, p2⟩
      | next => exact False.elim hq
      | brk => exact False.elim hq
      | cont => exact False.elim hq
  · intro s' H' out c I' pn ho' fa' ko
    refine ⟨rfl, ?_⟩
    have em : (zs.map (·.2)).map PyData.int = zs.map fun z => PyData.int z.2 := by rw [List.map_map]; rfl
    rw [em] at ko
    have eo := keyedOut_each (k := fun z : V × Int => PyData.int z.2) ko e
    rw [dataLe_int (fun z : V × Int => z.2)] at eo
    have hv := each_vals eo
    have hn : ((zs.mergeSort fun x y => decide (x.2 ≤ y.2)).map (·.1)).length ≤ sizeLine := by
      rw [List.length_map, List.length_mergeSort, hlen]
      exact hZ
    exact ⟨.ref (s.heap.objs.size + 1), upd H' (s.heap.objs.size + 1) (.lst ((zs.mergeSort fun x y => decide (x.2 ≤ y.2)).map (·.1))), I'.take (t' := s'.toks) (fun b o _ q => q) fa' ⟨hn, out, c, hv, ho'⟩, rfl, q _ H' (by rw [← hlen] at pn; exact pn) fa'.1⟩
end
end XR
namespace XR
open PySem L2 KT
theorem fourV_sq {K : PySem.W.Frag} {H : Hp} {r : Addr} {b : Blk} (h : H r = some (fourV b)) : SqT K H r [.int (b.1 : Int), .int (b.2.1 : Int), .int (b.2.2.1 : Int), .int (b.2.2.2 : Int)] := SqT.of h
/-- the span that a block covers, in a new tuple -/
def spCover (K : PySem.W.Frag) : Sp := fun vs H Q _ => ∃ (r : Addr) (b : Blk), vs = [.ref r] ∧ SqT K H r [.int (b.1 : Int), .int (b.2.1 : Int), .int (b.2.2.1 : Int), .int (b.2.2.2 : Int)] ∧ b.1 ≤ 100 ∧ b.2.1 ≤ 100 ∧ ∀ t H', Same H H' → H t = none → H' t = some (.tup [.int (coverB b).1, .int (coverB b).2]) → Q (.ref t) H'
def spVers (K : PySem.W.Frag) : Sp := fun vs H Q _ => ∃ (x0 x1 x2 v1 v2 : V) (ss0 ss1 ss2 : List Str) (ps qs : List (Nat × Nat)), vs = [x0, x1, x2, v1, v2] ∧ TxV K H x0 ss0 ∧ TxV K H x1 ss1 ∧ TxV K H x2 ss2 ∧ DfV K H v1 ps ∧ IsDf ss0 ss1 ps ∧ DfV K H v2 qs ∧ IsDf ss0 ss2 qs ∧ ∀ H', Same H H' → Q .non H'
end XR
namespace K62
open PySem L2 XR KT
section
variable {P : Program} {w : World} {K : PySem.W.Frag} {mg : Str → Option Value} {base : Heap}
abbrev sCover : Stmt := top 23
abbrev nCover : List Str := ["block", "a", "b", "c", "d"]
theorem scCover : FnScope nCover ["block"] (defScope sCover) := ⟨rfl, rfl, rfl, by decide +kernel, rfl, by decide +kernel, by decide +kernel⟩
theorem ok_cover {f : Addr} {fd : FuncData} (F : Fun K "covered_by" "covered_by" sCover f fd) : FnOk P w K mg base CX0 1 f fd ["block"] (spCover K) := by
  refine F.ok scCover (fun vs H Q E h => ?_) (fun cdv A outer s H vs Q E hr h => ?_)
  · obtain ⟨r, b, rfl, _⟩ := h
    rfl
  · obtain ⟨r, ⟨a, b, c, d⟩, rfl, hq, h1, h2, z⟩ := h
    dsimp only at hq h1 h2
    refine ⟨_, pss_cons (ps_asg (pv 0) (pg_tup rfl (pgs_cons (pg_name (i := 1) scCover.nd rfl (.inl rfl)) (pgs_cons (pg_name (i := 2) scCover.nd rfl (.inl rfl)) (pgs_cons (pg_name (i := 3) scCover.nd rfl (.inl rfl)) (pgs_cons (pg_name (i := 4) scCover.nd rfl (.inl rfl)) pgs_nil))))))
      (pss_one (ps_ret (pe_ifExp (pt_cmpR op_lt (pv 3) (pv 4) (nomark _)) (pe_tup (pa_cons (pe_op op_mul pe_int (pv 1)) (pa_cons (pe_op op_mul pe_int (pv 2)) pa_nil)))
        (pe_tup (pa_cons (pe_op op_add (pe_op op_mul pe_int (pv 1)) pe_int) (pa_cons (pe_op op_sub (pe_op op_mul pe_int (pv 2)) pe_int) pa_nil)))))), ?_⟩
    refine ⟨_, rfl, r, _, rfl, hq, rfl, _, _, rfl, _, _, rfl, _, _, rfl, _, _, rfl, rfl, ?_⟩
    refine ⟨_, rfl, _, rfl, _, _, rfl, rfl, _, rfl, ?_⟩
    have m1 : CMul 2 (a : Int) := .inl ⟨by omega, by omega⟩
    have m2 : CMul 2 (b : Int) := .inl ⟨by omega, by omega⟩
    by_cases hc : c < d
    · have ec : coverB (a, b, c, d) = (2 * (a : Int), 2 * (b : Int)) := if_pos hc
      rw [ec] at z
      rw [decide_eq_true (show (c : Int) < (d : Int) by omega)]
      refine iteT ⟨_, rfl, _, _, rfl, rfl, m1, _, rfl, _, _, rfl, rfl, m2, ll20 (by show 2 ≤ 20; decide), fun t nt => ?_⟩
      exact z t _ (same_upd nt) nt upd_same
    · have ec : coverB (a, b, c, d) = (2 * (a : Int) + 1, 2 * (b : Int) - 1) := if_neg hc
      rw [ec] at z
      rw [decide_eq_false (show ¬ (c : Int) < (d : Int) by omega)]
      refine iteF ⟨_, rfl, _, _, rfl, rfl, m1, _, _, rfl, rfl, _, rfl, _, _, rfl, rfl, m2, _, _, rfl, rfl, ll20 (by show 2 ≤ 20; decide), fun t nt => ?_⟩
      exact z t _ (same_upd nt) nt upd_same
abbrev sVers : Stmt := top 22
abbrev nVers : List Str := ["base", "one", "two", "diff_one", "diff_two"]
theorem scVers : FnScope nVers nVers (defScope sVers) := ⟨rfl, rfl, rfl, by decide +kernel, rfl, by decide +kernel, by decide +kernel⟩
theorem ok_vers {f fT fC CT CD : Addr} {fd fdC : FuncData} (F : Fun K "check_versions" "check_versions" sVers f fd) (GT : FnR P w K mg base (L2.CX P w) 3 fT (spCheck K CT)) (kT : PySem.W.keepIn K (.ref fT) = true) (mT : mg "check_texts" = some (.ref fT))
    (C : Chk P w K mg base fC CT CD fdC) : FnOk P w K mg base CX0 6 f fd nVers (spVers K) := by
  refine F.ok scVers (fun vs H Q E h => ?_) (fun cdv A outer s H vs Q E hr h => ?_)
  · obtain ⟨x0, x1, x2, v1, v2, ss0, ss1, ss2, ps, qs, rfl, _⟩ := h
    rfl
  · obtain ⟨x0, x1, x2, v1, v2, ss0, ss1, ss2, ps, qs, rfl, t0, t1, t2, hv1, hd1, hv2, hd2, z⟩ := h
    refine ⟨_, pss_cons (ps_expr (pe_callR GT (hr.mono (by decide)) rfl mT kT (fun σ => passF σ) (pa_cons (pv 0) (pa_cons (pv 1) (pa_cons (pv 2) pa_nil)))))
      (pss_cons (ps_expr (pe_callS C.G hr rfl C.m C.F.kp C.b (fun σ => passF σ) (pa_cons (pv 0) (pa_cons (pv 1) (pa_cons (pv 3) pa_nil)))))
      (pss_one (ps_expr (pe_callS C.G hr rfl C.m C.F.kp C.b (fun σ => passF σ) (pa_cons (pv 0) (pa_cons (pv 2) (pa_cons (pv 4) pa_nil))))))), ?_⟩
    obtain ⟨d0, a0, b0, _⟩ := id t0
    obtain ⟨d1, a1, b1, _⟩ := id t1
    obtain ⟨d2, a2, b2, _⟩ := id t2
    refine ⟨_, rfl, _, rfl, _, rfl, [d0, d1, d2], .cons a0 (.cons a1 (.cons a2 .nil)), by show 3 ≤ 100; decide, fun _ H1 s1 => ?_, fun i x d _ e2 e3 => ?_⟩
    · refine ⟨_, rfl, _, rfl, _, rfl, ?_⟩
      dsimp only [tNil]
      refine chk_ok (t0.same s1) (t1.same s1) (hv1.same s1) hd1 fun H2 s2 => ?_
      have s12 := s1.trans s2
      refine ⟨_, rfl, _, rfl, _, rfl, ?_⟩
      dsimp only [tNil]
      refine chk_ok (t0.same s12) (t2.same s12) (hv2.same s12) hd2 fun H3 s3 => ?_
      exact z _ (s12.trans s3)
    · exfalso
      rcases i with _ | _ | _ | i
      · obtain rfl : d0 = d := Option.some.inj e2
        rw [b0] at e3; cases e3
      · obtain rfl : d1 = d := Option.some.inj e2
        rw [b1] at e3; cases e3
      · obtain rfl : d2 = d := Option.some.inj e2
        rw [b2] at e3; cases e3
      · simp at e2
end
end K62
/-! Scripts: what they say of texts and diffs. -/
namespace XR
open PySem L2
abbrev Ent := Str × Str
def kpW : Str := "keep"
def goW : Str := "go"
def coW : Str := "come"
theorem w_ne : kpW ≠ goW ∧ kpW ≠ coW ∧ goW ≠ coW := by decide
def oldL (es : List Ent) : List Str := (es.filter fun e => decide (e.1 ≠ coW)).map (·.2)
def newL (es : List Ent) : List Str := (es.filter fun e => decide (e.1 ≠ goW)).map (·.2)
/-- the pairs of what is kept, counted from i and j -/
def pairsFrom : Nat → Nat → List Ent → List (Nat × Nat)
  | _, _, [] => []
  | i, j, e :: es => if e.1 = kpW then (i + 1, j + 1) :: pairsFrom (i + 1) (j + 1) es else if e.1 = goW then pairsFrom (i + 1) j es else pairsFrom i (j + 1) es
/-- every word is one of the three -/
def Wds (es : List Ent) : Prop := ∀ e ∈ es, e.1 = kpW ∨ e.1 = goW ∨ e.1 = coW
theorem Wds.tail {e : Ent} {es : List Ent} (h : Wds (e :: es)) : Wds es := fun x hx => h x (List.mem_cons_of_mem _ hx)
theorem old_keep (s : Str) (es : List Ent) : oldL ((kpW, s) :: es) = s :: oldL es := rfl
theorem old_go (s : Str) (es : List Ent) : oldL ((goW, s) :: es) = s :: oldL es := rfl
theorem old_come (s : Str) (es : List Ent) : oldL ((coW, s) :: es) = oldL es := rfl
theorem new_keep (s : Str) (es : List Ent) : newL ((kpW, s) :: es) = s :: newL es := rfl
theorem new_go (s : Str) (es : List Ent) : newL ((goW, s) :: es) = newL es := rfl
theorem new_come (s : Str) (es : List Ent) : newL ((coW, s) :: es) = s :: newL es := rfl
theorem pr_keep (i j : Nat) (s : Str) (es : List Ent) : pairsFrom i j ((kpW, s) :: es) = (i + 1, j + 1) :: pairsFrom (i + 1) (j + 1) es := by
  rw [pairsFrom, if_pos rfl]
theorem pr_go (i j : Nat) (s : Str) (es : List Ent) : pairsFrom i j ((goW, s) :: es) = pairsFrom (i + 1) j es := by
  rw [pairsFrom, if_neg (show ¬ goW = kpW by decide), if_pos rfl]
theorem pr_come (i j : Nat) (s : Str) (es : List Ent) : pairsFrom i j ((coW, s) :: es) = pairsFrom i (j + 1) es := by
  rw [pairsFrom, if_neg (show ¬ coW = kpW by decide), if_neg (show ¬ coW = goW by decide)]
/-- a run of goings, of comings -/
def gos (ss : List Str) : List Ent := ss.map fun s => (goW, s)
def comes (ss : List Str) : List Ent := ss.map fun s => (coW, s)
def seg (ss : List Str) (a b : Nat) : List Str := (ss.drop a).take (b - a)
def scrFrom (ss1 ss2 : List Str) : Nat → Nat → List (Nat × Nat) → List Ent
  | a, c, [] => gos (seg ss1 a ss1.length) ++ comes (seg ss2 c ss2.length)
  | a, c, (i, j) :: ps => gos (seg ss1 a (i - 1)) ++ comes (seg ss2 c (j - 1)) ++ (kpW, ss1.getD (i - 1) "") :: scrFrom ss1 ss2 i j ps
def scriptL (ss1 ss2 : List Str) (ps : List (Nat × Nat)) : List Ent := scrFrom ss1 ss2 0 0 ps
/-- a diff of what is behind a and c -/
def DfFrom (ss1 ss2 : List Str) : Nat → Nat → List (Nat × Nat) → Prop
  | a, c, [] => a ≤ ss1.length ∧ c ≤ ss2.length
  | a, c, (i, j) :: ps => a < i ∧ c < j ∧ i ≤ ss1.length ∧ j ≤ ss2.length ∧ ss1[i - 1]? = ss2[j - 1]? ∧ DfFrom ss1 ss2 i j ps
theorem oldL_append (xs ys : List Ent) : oldL (xs ++ ys) = oldL xs ++ oldL ys := by unfold oldL; rw [List.filter_append, List.map_append]
theorem newL_append (xs ys : List Ent) : newL (xs ++ ys) = newL xs ++ newL ys := by unfold newL; rw [List.filter_append, List.map_append]
theorem old_gos : ∀ ss, oldL (gos ss) = ss
  | [] => rfl
  | s :: ss => by show oldL ((goW, s) :: gos ss) = _; rw [old_go, old_gos ss]
theorem old_comes : ∀ ss, oldL (comes ss) = []
  | [] => rfl
  | s :: ss => by show oldL ((coW, s) :: comes ss) = _; rw [old_come, old_comes ss]
theorem new_gos : ∀ ss, newL (gos ss) = []
  | [] => rfl
  | s :: ss => by show newL ((goW, s) :: gos ss) = _; rw [new_go, new_gos ss]
theorem new_comes : ∀ ss, newL (comes ss) = ss
  | [] => rfl
  | s :: ss => by show newL ((coW, s) :: comes ss) = _; rw [new_come, new_comes ss]
theorem seg_all (ss : List Str) (a : Nat) : seg ss a ss.length = ss.drop a := by
  unfold seg
  exact List.take_of_length_le (by rw [List.length_drop]; exact Nat.le_refl _)
theorem seg_then (ss : List Str) {a i : Nat} (h1 : a < i) (h2 : i ≤ ss.length) : seg ss a (i - 1) ++ (ss.getD (i - 1) "" :: ss.drop i) = ss.drop a := by
  unfold seg
  have e : ss.drop a = (ss.drop a).take (i - 1 - a) ++ (ss.drop a).drop (i - 1 - a) := (List.take_append_drop _ _).symm
  rw [List.drop_drop, show a + (i - 1 - a) = i - 1 by omega] at e
  have e2 : ss.drop (i - 1) = ss.getD (i - 1) "" :: ss.drop i := by
    have hlt : i - 1 < ss.length := by omega
    rw [List.drop_eq_getElem_cons hlt, show i - 1 + 1 = i by omega]
    congr 1
    simp [List.getD, hlt]
  rw [e2] at e
  exact e.symm
theorem scr_old (ss1 ss2 : List Str) : ∀ (ps : List (Nat × Nat)) (a c : Nat), DfFrom ss1 ss2 a c ps → oldL (scrFrom ss1 ss2 a c ps) = ss1.drop a
  | [], a, c, _ => by
    rw [scrFrom, oldL_append, old_gos, old_comes, List.append_nil, seg_all]
  | (i, j) :: ps, a, c, h => by
    obtain ⟨h1, h2, h3, h4, h5, h6⟩ := h
    rw [scrFrom, oldL_append, oldL_append, old_gos, old_comes, List.append_nil, old_keep, scr_old ss1 ss2 ps i j h6, seg_then ss1 h1 h3]
theorem scr_new (ss1 ss2 : List Str) : ∀ (ps : List (Nat × Nat)) (a c : Nat), DfFrom ss1 ss2 a c ps → newL (scrFrom ss1 ss2 a c ps) = ss2.drop c
  | [], a, c, _ => by
    rw [scrFrom, newL_append, new_gos, new_comes, List.nil_append, seg_all]
  | (i, j) :: ps, a, c, h => by
    obtain ⟨h1, h2, h3, h4, h5, h6⟩ := h
    rw [scrFrom, newL_append, newL_append, new_gos, new_comes, List.nil_append, new_keep, scr_new ss1 ss2 ps i j h6]
    have e : ss1.getD (i - 1) "" = ss2.getD (j - 1) "" := by rw [List.getD, List.getD, h5]
    rw [e, seg_then ss2 h2 h4]
theorem pr_gos (es : List Ent) : ∀ (ss : List Str) (i j : Nat), pairsFrom i j (gos ss ++ es) = pairsFrom (i + ss.length) j es
  | [], _, _ => rfl
  | s :: ss, i, j => by
    show pairsFrom i j ((goW, s) :: (gos ss ++ es)) = _
    rw [pr_go, pr_gos es ss, List.length_cons]
    congr 1
    omega
theorem pr_comes (es : List Ent) : ∀ (ss : List Str) (i j : Nat), pairsFrom i j (comes ss ++ es) = pairsFrom i (j + ss.length) es
  | [], _, _ => rfl
  | s :: ss, i, j => by
    show pairsFrom i j ((coW, s) :: (comes ss ++ es)) = _
    rw [pr_come, pr_comes es ss, List.length_cons]
    congr 1
    omega
theorem seg_len {ss : List Str} {a b : Nat} (h : b ≤ ss.length) : (seg ss a b).length = b - a := by
  unfold seg
  rw [List.length_take, List.length_drop]
  omega
theorem scr_pairs (ss1 ss2 : List Str) : ∀ (ps : List (Nat × Nat)) (a c : Nat), DfFrom ss1 ss2 a c ps → pairsFrom a c (scrFrom ss1 ss2 a c ps) = ps
  | [], a, c, _ => by
    rw [scrFrom, pr_gos, ← List.append_nil (comes _), pr_comes]
    rfl
  | (i, j) :: ps, a, c, h => by
    obtain ⟨h1, h2, h3, h4, h5, h6⟩ := h
    rw [scrFrom, List.append_assoc, pr_gos, pr_comes, pr_keep, seg_len (by omega), seg_len (by omega), show a + (i - 1 - a) + 1 = i by omega, show c + (j - 1 - c) + 1 = j by omega, scr_pairs ss1 ss2 ps i j h6]
end XR
namespace XR
open PySem L2 KT
theorem dfFrom_of' (ss1 ss2 : List Str) : ∀ (ps : List (Nat × Nat)) (a c : Nat), (∀ q, q ∈ ps → a < q.1 ∧ c < q.2 ∧ q.1 ≤ ss1.length ∧ q.2 ≤ ss2.length ∧ ss1[q.1 - 1]? = ss2[q.2 - 1]?) → ps.Pairwise (fun x y => x.1 < y.1 ∧ x.2 < y.2) → a ≤ ss1.length → c ≤ ss2.length → DfFrom ss1 ss2 a c ps
  | [], a, c, _, _, ha, hc => ⟨ha, hc⟩
  | (i, j) :: ps, a, c, h, hp, ha, hc => by
    obtain ⟨h1, h2, h3, h4, h5⟩ := h (i, j) (List.mem_cons_self ..)
    have hp2 := List.pairwise_cons.mp hp
    exact ⟨h1, h2, h3, h4, h5, dfFrom_of' ss1 ss2 ps i j (fun q hq => ⟨(hp2.1 q hq).1, (hp2.1 q hq).2, (h q (List.mem_cons_of_mem _ hq)).2.2⟩) hp2.2 h3 h4⟩
theorem dfFrom_of {ss1 ss2 : List Str} {ps : List (Nat × Nat)} (h : IsDf ss1 ss2 ps) : DfFrom ss1 ss2 0 0 ps :=
  dfFrom_of' ss1 ss2 ps 0 0 (fun q hq => by
    obtain ⟨a1, a2, b1, b2, s, e1, e2⟩ := h.1 q hq
    exact ⟨a1, b1, a2, b2, by rw [e1, e2]⟩) h.2 (Nat.zero_le _) (Nat.zero_le _)
theorem gaps_bd (ss1 ss2 : List Str) : ∀ (ps : List (Nat × Nat)) (a c : Nat), DfFrom ss1 ss2 a c ps → ∀ g ∈ gapsFrom ss1.length ss2.length (a, c) ps, a ≤ g.1 ∧ g.1 ≤ g.2.1 ∧ g.2.1 ≤ ss1.length ∧ g.2.2.1 ≤ g.2.2.2 ∧ g.2.2.2 ≤ ss2.length
  | [], a, c, h, g, hg => by
    rw [gapsFrom, List.mem_singleton] at hg
    subst hg
    exact ⟨Nat.le_refl _, h.1, Nat.le_refl _, h.2, Nat.le_refl _⟩
  | (i, j) :: ps, a, c, h, g, hg => by
    obtain ⟨h1, h2, h3, h4, h5, h6⟩ := h
    rw [gapsFrom] at hg
    rcases List.mem_cons.mp hg with rfl | hg
    · exact ⟨Nat.le_refl _, by show a ≤ i - 1; omega, by show i - 1 ≤ _; omega, by show c ≤ j - 1; omega, by show j - 1 ≤ _; omega⟩
    · obtain ⟨q1, q2⟩ := gaps_bd ss1 ss2 ps i j h6 g hg
      exact ⟨by omega, q2⟩
theorem gaps_ap (ss1 ss2 : List Str) : ∀ (ps : List (Nat × Nat)) (a c : Nat), DfFrom ss1 ss2 a c ps → (gapsFrom ss1.length ss2.length (a, c) ps).Pairwise fun b c => b.2.1 < c.1
  | [], a, c, h => by rw [gapsFrom]; exact List.pairwise_singleton _ _
  | (i, j) :: ps, a, c, h => by
    obtain ⟨h1, h2, h3, h4, h5, h6⟩ := h
    rw [gapsFrom]
    refine List.pairwise_cons.mpr ⟨fun g hg => ?_, gaps_ap ss1 ss2 ps i j h6⟩
    have := (gaps_bd ss1 ss2 ps i j h6 g hg).1
    show i - 1 < g.1
    omega
theorem blocks_spread {ss1 ss2 : List Str} {ps : List (Nat × Nat)} (h : IsDf ss1 ss2 ps) : Spread (blocksL ss1.length ss2.length ps) := by
  have d := dfFrom_of h
  rw [blocks_filter]
  refine ⟨fun b hb => ?_, (gaps_ap ss1 ss2 ps 0 0 d).filter _⟩
  obtain ⟨m1, m2⟩ := List.mem_filter.mp hb
  obtain ⟨_, q1, _, q3, _⟩ := gaps_bd ss1 ss2 ps 0 0 d b m1
  refine ⟨q1, q3, ?_⟩
  unfold blkB at m2
  rw [Bool.or_eq_true, decide_eq_true_eq, decide_eq_true_eq] at m2
  exact m2
theorem blocks_le {ss1 ss2 : List Str} {ps : List (Nat × Nat)} (h : IsDf ss1 ss2 ps) {b : Blk} (hb : b ∈ blocksL ss1.length ss2.length ps) : b.1 ≤ ss1.length ∧ b.2.1 ≤ ss1.length ∧ b.2.2.1 ≤ ss2.length ∧ b.2.2.2 ≤ ss2.length := by
  rw [blocks_filter] at hb
  obtain ⟨_, q1, q2, q3, q4⟩ := gaps_bd ss1 ss2 ps 0 0 (dfFrom_of h) b (List.mem_filter.mp hb).1
  omega
theorem blocks_count {ss1 ss2 : List Str} {ps : List (Nat × Nat)} (h : IsDf ss1 ss2 ps) : (blocksL ss1.length ss2.length ps).length ≤ ps.length + 1 := by
  rw [blocks_filter]
  refine Nat.le_trans (List.length_filter_le _ _) ?_
  exact Nat.le_of_eq (gaps_len _ _ _ _)
end XR
namespace XR
open PySem L2 KT
/-- an item as it stands: the tuple u of the tuple c, the version, the block r -/
def ItAt (H : Hp) (u : Addr) (x : Itm) : Prop := ∃ c r, H u = some (.tup [.ref c, .int (x.1 : Int), .ref r]) ∧ H c = some (.tup [.int (coverB x.2).1, .int (coverB x.2).2]) ∧ H r = some (fourV x.2)
theorem ItAt.same {H H' : Hp} {u : Addr} {x : Itm} (s : Same H H') (h : ItAt H u x) : ItAt H' u x := let ⟨c, r, h1, h2, h3⟩ := h; ⟨c, r, s _ _ h1, s _ _ h2, s _ _ h3⟩
theorem ItAt.dp {K : PySem.W.Frag} {H : Hp} {u : Addr} {x : Itm} (h : ItAt H u x) : Dp K H (.ref u) (itmD x) := by
  obtain ⟨c, r, h1, h2, h3⟩ := h
  exact .tup (SqT.of h1) (.cons (.tup (SqT.of h2) (.cons (.int _) (.cons (.int _) .nil))) (.cons (.int _) (.cons (.tup (fourV_sq h3) (.cons (.int _) (.cons (.int _) (.cons (.int _) (.cons (.int _) .nil))))) .nil)))
def TsAt (H : Hp) (us : List Addr) (xs : List Itm) : Prop := us.length = xs.length ∧ ∀ (i : Nat) (x : Itm), xs[i]? = some x → ∃ u, us[i]? = some u ∧ ItAt H u x
theorem TsAt.same {H H' : Hp} {us : List Addr} {xs : List Itm} (s : Same H H') (h : TsAt H us xs) : TsAt H' us xs := ⟨h.1, fun i x hx => let ⟨u, h1, h2⟩ := h.2 i x hx; ⟨u, h1, h2.same s⟩⟩
theorem TsAt.nil {H : Hp} : TsAt H [] [] := ⟨rfl, fun i x h => by simp at h⟩
theorem TsAt.append {H : Hp} {us us' : List Addr} {xs xs' : List Itm} (h : TsAt H us xs) (k : TsAt H us' xs') : TsAt H (us ++ us') (xs ++ xs') := by
  refine ⟨by rw [List.length_append, List.length_append, h.1, k.1], fun i q hq => ?_⟩
  by_cases hi : i < xs.length
  · rw [List.getElem?_append_left hi] at hq
    rw [List.getElem?_append_left (by rw [h.1]; exact hi)]
    exact h.2 i q hq
  · rw [List.getElem?_append_right (by omega)] at hq
    rw [List.getElem?_append_right (by rw [h.1]; omega), h.1]
    exact k.2 _ q hq
theorem TsAt.one {H : Hp} {u : Addr} {x : Itm} (h : ItAt H u x) : TsAt H [u] [x] := ⟨rfl, fun i q hq => by
  rcases i with _ | i
  · cases hq; exact ⟨u, rfl, h⟩
  · simp at hq⟩
theorem TsAt.zip {H : Hp} {us : List Addr} {xs : List Itm} (h : TsAt H us xs) : ∀ z ∈ (refs us).zip xs, ∃ u, z.1 = .ref u ∧ ItAt H u z.2 := fun z hz => by
  obtain ⟨i, hi⟩ := List.getElem?_of_mem hz
  rw [List.getElem?_zip_eq_some] at hi
  obtain ⟨u, h1, h2⟩ := h.2 i z.2 hi.2
  have := hi.1
  unfold refs at this
  rw [List.getElem?_map, h1] at this
  exact ⟨u, (Option.some.inj this).symm, h2⟩
def itm0 (v : Nat) (S : List Blk) : List Itm := S.map fun b => (v, b)
/-- one knot that grows: the tuple t of the lists p, q -/
structure Kn1 (H : Hp) (t p q : Addr) (g : List Itm) : Prop where
  ht : H t = some (.tup [.ref p, .ref q])
  hp : ∃ rs, H p = some (.lst (refs rs)) ∧ BsAt H rs (side 0 g)
  hq : ∃ rs, H q = some (.lst (refs rs)) ∧ BsAt H rs (side 1 g)
def knD (k : List Blk × List Blk) : PyData := .tuple [.tuple (k.1.map blkD), .tuple (k.2.map blkD)]
theorem ItAt.updL {H : Hp} {p u : Addr} {x : Itm} {xs ys : List V} (h : ItAt H u x) (k : H p = some (.lst xs)) : ItAt (upd H p (.lst ys)) u x := by
  obtain ⟨c, r, h1, h2, h3⟩ := h
  have ne : ∀ {b : Addr} {zs : List V}, H b = some (.tup zs) → upd H p (.lst ys) b = some (.tup zs) := fun {b zs} e => by
    rw [upd_ne (fun q => by rw [q, k] at e; cases e)]; exact e
  exact ⟨c, r, ne h1, ne h2, ne h3⟩
theorem TsAt.updL {H : Hp} {p : Addr} {us : List Addr} {ts : List Itm} {xs ys : List V} (h : TsAt H us ts) (k : H p = some (.lst xs)) : TsAt (upd H p (.lst ys)) us ts := ⟨h.1, fun i x hx => let ⟨u, h1, h2⟩ := h.2 i x hx; ⟨u, h1, h2.updL k⟩⟩
theorem itmStep {H1 Ha H3 : Hp} {D u t r : Addr} {us : List Addr} {xs : List Itm} {x : Itm} (sm : Same H1 Ha) (nD : H1 D = none) (hD : Ha D = some (.lst (refs us))) (ht : TsAt Ha us xs) (s3 : Same Ha H3) (h3 : H3 t = some (.tup [.int (coverB x.2).1, .int (coverB x.2).2])) (hr : H3 r = some (fourV x.2)) (nu : H3 u = none) (hl : xs.length ≤ 100) :
    upd H3 u (.tup [.ref t, .int (x.1 : Int), .ref r]) D = some (.lst (refs us)) ∧ (refs us).length < sizeLine ∧ Same H1 (upd (upd H3 u (.tup [.ref t, .int (x.1 : Int), .ref r])) D (.lst (refs us ++ [V.ref u]))) ∧
      ∃ us', upd (upd H3 u (.tup [.ref t, .int (x.1 : Int), .ref r])) D (.lst (refs us ++ [V.ref u])) D = some (.lst (refs us')) ∧ TsAt (upd (upd H3 u (.tup [.ref t, .int (x.1 : Int), .ref r])) D (.lst (refs us ++ [V.ref u]))) us' (xs ++ [x]) := by
  have su := same_upd (o := .tup [V.ref t, V.int (x.1 : Int), V.ref r]) nu
  have hD2 := su _ _ (s3 _ _ hD)
  refine ⟨hD2, ?_, fun b o h => ?_, us ++ [u], ?_, ?_⟩
  · unfold refs
    rw [List.length_map, ht.1]
    exact Nat.lt_of_le_of_lt hl (by decide)
  · rw [upd_ne (ne_of_none h nD)]
    exact su _ _ (s3 _ _ (sm _ _ h))
  · rw [upd_same]; unfold refs; rw [List.map_append]; rfl
  · exact (((ht.same s3).same su).append (.one ⟨t, r, upd_same, su _ _ h3, su _ _ hr⟩)).updL hD2
theorem itm0_take (v : Nat) (S : List Blk) (i : Nat) {b : Blk} (h : S[i]? = some b) : itm0 v (S.take (i + 1)) = itm0 v (S.take i) ++ [(v, b)] := by
  unfold itm0
  rw [List.take_add_one, h, List.map_append]
  rfl
theorem Kn1.other {H : Hp} {t p q a : Addr} {g : List Itm} {xs ys : List V} (h : Kn1 H t p q g) (k : H a = some (.lst xs)) (np : p ≠ a) (nq : q ≠ a) : Kn1 (upd H a (.lst ys)) t p q g := by
  obtain ⟨h1, ⟨r0, h2, h3⟩, ⟨r1, h4, h5⟩⟩ := h
  exact ⟨by rw [upd_ne (fun e => by rw [e, k] at h1; cases h1)]; exact h1, ⟨r0, by rw [upd_ne np]; exact h2, h3.updL k⟩, ⟨r1, by rw [upd_ne nq]; exact h4, h5.updL k⟩⟩
theorem Kn1.same {H H' : Hp} {t p q : Addr} {g : List Itm} (s : Same H H') (h : Kn1 H t p q g) : Kn1 H' t p q g :=
  let ⟨h1, ⟨r0, h2, h3⟩, ⟨r1, h4, h5⟩⟩ := h
  ⟨s _ _ h1, ⟨r0, s _ _ h2, h3.same s⟩, ⟨r1, s _ _ h4, h5.same s⟩⟩
theorem side_snoc (v : Nat) (g : List Itm) (x : Itm) : side v (g ++ [x]) = side v g ++ (if x.1 = v then [x.2] else []) := by
  unfold side
  rw [List.filter_append, List.map_append]
  congr 1
  by_cases h : x.1 = v
  · rw [if_pos h, List.filter_cons_of_pos (by simpa using h)]; rfl
  · rw [if_neg h, List.filter_cons_of_neg (by simpa using h)]; rfl
theorem Kn1.put0 {H : Hp} {t p q r : Addr} {g : List Itm} {x : Itm} {rs : List Addr} (h : Kn1 H t p q g) (hx : x.1 = 0) (hr : H r = some (fourV x.2)) (hp : H p = some (.lst (refs rs))) (hb : BsAt H rs (side 0 g)) (n : p ≠ q) : Kn1 (upd H p (.lst (refs rs ++ [V.ref r]))) t p q (g ++ [x]) := by
  obtain ⟨h1, _, ⟨r1, h4, h5⟩⟩ := h
  refine ⟨by rw [upd_ne (fun e => by rw [e, hp] at h1; cases h1)]; exact h1, ⟨rs ++ [r], by rw [upd_same]; unfold refs; rw [List.map_append]; rfl, ?_⟩, ⟨r1, by rw [upd_ne n.symm]; exact h4, ?_⟩⟩
  · rw [side_snoc, if_pos hx]
    exact (hb.snoc hr).updL hp
  · rw [side_snoc, if_neg (by omega), List.append_nil]
    exact h5.updL hp
theorem Kn1.put1 {H : Hp} {t p q r : Addr} {g : List Itm} {x : Itm} {rs : List Addr} (h : Kn1 H t p q g) (hx : x.1 = 1) (hr : H r = some (fourV x.2)) (hq : H q = some (.lst (refs rs))) (hb : BsAt H rs (side 1 g)) (n : p ≠ q) : Kn1 (upd H q (.lst (refs rs ++ [V.ref r]))) t p q (g ++ [x]) := by
  obtain ⟨h1, ⟨r0, h2, h3⟩, _⟩ := h
  refine ⟨by rw [upd_ne (fun e => by rw [e, hq] at h1; cases h1)]; exact h1, ⟨r0, by rw [upd_ne n]; exact h2, ?_⟩, ⟨rs ++ [r], by rw [upd_same]; unfold refs; rw [List.map_append]; rfl, ?_⟩⟩
  · rw [side_snoc, if_neg (by omega), List.append_nil]
    exact h3.updL hq
  · rw [side_snoc, if_pos hx]
    exact (hb.snoc hr).updL hq
abbrev KnE := (Addr × Addr × Addr) × List Itm
def adr (ks : List KnE) : List Addr := ks.flatMap fun k => [k.1.2.1, k.1.2.2]
theorem adr_append (a b : List KnE) : adr (a ++ b) = adr a ++ adr b := List.flatMap_append
theorem adr_in {ks : List KnE} {k : KnE} (h : k ∈ ks) : k.1.2.1 ∈ adr ks ∧ k.1.2.2 ∈ adr ks := ⟨List.mem_flatMap.mpr ⟨k, h, List.mem_cons_self ..⟩, List.mem_flatMap.mpr ⟨k, h, List.mem_cons_of_mem _ (List.mem_cons_self ..)⟩⟩
/-- the knots as they grow: sl and kl stand apart from what they hold -/
structure KnSt (H0 H : Hp) (sl kl : Addr) (ks : List KnE) : Prop where
  k : H kl = some (.lst (refs (ks.map (·.1.1))))
  nd : (sl :: kl :: adr ks).Nodup
  nb : ∀ a ∈ adr ks, H0 a = none
  kn : ∀ e ∈ ks, Kn1 H e.1.1 e.1.2.1 e.1.2.2 e.2
/-- a new knot of two empty lists -/
theorem KnSt.new {H0 H : Hp} {sl kl t p q : Addr} {ks : List KnE} {vs : List V} (h : KnSt H0 H sl kl ks) (s0 : Same H0 H) (hs : H sl = some (.lst vs)) (np : H p = none) (nq : upd H p (.lst []) q = none) (nt : upd (upd H p (.lst [])) q (.lst []) t = none) :
    upd (upd (upd H p (.lst [])) q (.lst [])) t (.tup [V.ref p, V.ref q]) kl = some (.lst (refs (ks.map (·.1.1)))) ∧
    KnSt H0 (upd (upd (upd (upd H p (.lst [])) q (.lst [])) t (.tup [V.ref p, V.ref q])) kl (.lst (refs (ks.map (·.1.1)) ++ [V.ref t]))) sl kl (ks ++ [((t, p, q), [])]) := by
  have sp := same_upd (o := .lst []) np
  have sq := same_upd (o := .lst []) nq
  have st := same_upd (o := .tup [V.ref p, V.ref q]) nt
  have sA := (sp.trans sq).trans st
  have hk := sA _ _ h.k
  have hp3 : upd (upd (upd H p (.lst [])) q (.lst [])) t (.tup [V.ref p, V.ref q]) p = some (.lst []) := st _ _ (sq _ _ upd_same)
  have hq3 : upd (upd (upd H p (.lst [])) q (.lst [])) t (.tup [V.ref p, V.ref q]) q = some (.lst []) := st _ _ upd_same
  have pq : p ≠ q := ne_of_none upd_same nq
  have old : ∀ {a}, a ∈ sl :: kl :: adr ks → ∃ o, H a = some o := fun {a} ha => by
    rcases List.mem_cons.mp ha with e | ha
    · rw [e]; exact ⟨_, hs⟩
    rcases List.mem_cons.mp ha with e | ha
    · rw [e]; exact ⟨_, h.k⟩
    · obtain ⟨k, hk, hm⟩ := List.mem_flatMap.mp ha
      obtain ⟨_, ⟨r0, e0, _⟩, ⟨r1, e1, _⟩⟩ := h.kn k hk
      rcases List.mem_cons.mp hm with e | e
      · rw [e]; exact ⟨_, e0⟩
      · rw [List.mem_singleton.mp e]; exact ⟨_, e1⟩
  have nep : ∀ {a}, a ∈ sl :: kl :: adr ks → a ≠ p := fun {a} ha => by
    obtain ⟨o, e⟩ := old ha
    exact ne_of_none e np
  have neq : ∀ {a}, a ∈ sl :: kl :: adr ks → a ≠ q := fun {a} ha => by
    obtain ⟨o, e⟩ := old ha
    exact ne_of_none (sp _ _ e) nq
  have kp : kl ≠ p := nep (List.mem_cons_of_mem _ (List.mem_cons_self ..))
  have kq : kl ≠ q := neq (List.mem_cons_of_mem _ (List.mem_cons_self ..))
  refine ⟨hk, ⟨?_, ?_, fun a ha => ?_, fun e he => ?_⟩⟩
  · rw [upd_same, List.map_append]
    unfold refs
    rw [List.map_append]
    rfl
  · rw [adr_append, show sl :: kl :: (adr ks ++ adr [((t, p, q), [])]) = (sl :: kl :: adr ks) ++ [p, q] from rfl]
    refine List.nodup_append.mpr ⟨h.nd, by simp [pq], fun a ha b hb => ?_⟩
    rcases List.mem_cons.mp hb with e | e
    · rw [e]; exact nep ha
    · rw [List.mem_singleton.mp e]; exact neq ha
  · rw [adr_append] at ha
    rcases List.mem_append.mp ha with e | e
    · exact h.nb a e
    · rcases List.mem_cons.mp e with e | e
      · rw [e]; exact none_before s0 np
      · rw [List.mem_singleton.mp e]; exact none_before (s0.trans sp) nq
  · have nk : ∀ {e : KnE}, e ∈ ks → e.1.2.1 ≠ kl ∧ e.1.2.2 ≠ kl := fun {e} he => by
      have h2 := (List.nodup_cons.mp (List.nodup_cons.mp h.nd).2).1
      exact ⟨fun z => h2 (by rw [← z]; exact (adr_in he).1), fun z => h2 (by rw [← z]; exact (adr_in he).2)⟩
    rcases List.mem_append.mp he with q1 | q1
    · exact ((h.kn e q1).same sA).other hk (nk q1).1 (nk q1).2
    · rw [List.mem_singleton.mp q1]
      have k1 : Kn1 (upd (upd (upd H p (.lst [])) q (.lst [])) t (.tup [V.ref p, V.ref q])) t p q [] := ⟨upd_same, ⟨[], hp3, .nil⟩, ⟨[], hq3, .nil⟩⟩
      exact k1.other hk kp.symm kq.symm
/-- one list of the last knot has grown -/
theorem KnSt.put {H0 H : Hp} {sl kl t p q a : Addr} {M : List KnE} {g g' : List Itm} {xs ys : List V} (h : KnSt H0 H sl kl (M ++ [((t, p, q), g)])) (ha : a = p ∨ a = q) (k : H a = some (.lst xs)) (hn : Kn1 (upd H a (.lst ys)) t p q g') : KnSt H0 (upd H a (.lst ys)) sl kl (M ++ [((t, p, q), g')]) := by
  have ea : adr (M ++ [((t, p, q), g')]) = adr (M ++ [((t, p, q), g)]) := by rw [adr_append, adr_append]; rfl
  have nd := h.nd
  have mem : a ∈ adr (M ++ [((t, p, q), g)]) := by
    have := adr_in (ks := M ++ [((t, p, q), g)]) (k := ((t, p, q), g)) (List.mem_append_right _ (List.mem_singleton.mpr rfl))
    rcases ha with e | e
    · rw [e]; exact this.1
    · rw [e]; exact this.2
  have ka : kl ≠ a := fun e => (List.nodup_cons.mp (List.nodup_cons.mp nd).2).1 (by rw [e]; exact mem)
  refine ⟨?_, by rw [ea]; exact nd, by rw [ea]; exact h.nb, fun e he => ?_⟩
  · rw [upd_ne ka, h.k, List.map_append, List.map_append]
    rfl
  · rcases List.mem_append.mp he with q1 | q1
    · have nd2 := (List.nodup_cons.mp (List.nodup_cons.mp nd).2).2
      rw [adr_append] at nd2
      have dis := (List.nodup_append.mp nd2).2.2
      have m2 : a ∈ adr [((t, p, q), g)] := by
        rcases ha with e | e
        · rw [e]; exact List.mem_cons_self ..
        · rw [e]; exact List.mem_cons_of_mem _ (List.mem_singleton.mpr rfl)
      exact (h.kn e (List.mem_append_left _ q1)).other k (dis _ (adr_in q1).1 _ m2) (dis _ (adr_in q1).2 _ m2)
    · rw [List.mem_singleton.mp q1]
      exact hn
theorem max_if (r h : Int) : (if h > r then h else r) = max r h := by
  by_cases c : h > r
  · rw [if_pos c, Int.max_eq_right (by omega)]
  · rw [if_neg c, Int.max_eq_left (by omega)]
theorem sweep_flat (lo hi : Itm → Int) (xs : List Itm) : (sweep lo hi xs).1.flatten = xs := by
  have go : ∀ (xs P : List Itm) (s : List (List Itm) × Int), s.1.flatten = P → (xs.foldl (stepW lo hi) s).1.flatten = P ++ xs := by
    intro xs
    induction xs with
    | nil => intro P s h; rw [List.append_nil]; exact h
    | cons x xs ih =>
      intro P s h
      have e : P ++ x :: xs = (P ++ [x]) ++ xs := by rw [List.append_assoc]; rfl
      rw [e]
      refine ih (P ++ [x]) _ ?_
      unfold stepW
      dsimp only
      by_cases c : lo x > s.2
      · rw [if_pos c, List.flatten_append, h]
        rfl
      · rw [if_neg c]
        rcases List.eq_nil_or_concat s.1 with q | ⟨M, g, q⟩
        · rw [q] at h ⊢
          rw [← h]
          rfl
        · rw [List.concat_eq_append] at q
          rw [q] at h ⊢
          rw [lastPut_of, ← h, List.flatten_append, List.flatten_append, List.append_assoc]
          congr 1
          simp
  exact go xs [] ([], -1) rfl
theorem segs_len {lo hi : Itm → Int} : ∀ {L : List (List Itm)}, Seg lo hi L → L.length ≤ L.flatten.length
  | [], _ => Nat.zero_le _
  | g :: L, h => by
    have ih := segs_len (L := L) ⟨fun k hk => h.ne k (List.mem_cons_of_mem _ hk), fun k hk => h.ti k (List.mem_cons_of_mem _ hk), (List.pairwise_cons.mp h.be).2⟩
    have ng := h.ne g (List.mem_cons_self ..)
    rw [List.length_cons, List.flatten_cons, List.length_append]
    have : g.length ≠ 0 := fun e => ng (List.eq_nil_of_length_eq_zero e)
    omega
theorem swept0 {lo hi : Itm → Int} (xs : List Itm) (r : Int) (h : (([] : List (List Itm)), r) = sweep lo hi xs) : xs = [] ∧ r = -1 := by
  have e := sweep_flat lo hi xs
  rw [← h] at e
  have e2 : xs = [] := e.symm
  subst e2
  have h2 : (([] : List (List Itm)), r) = ([], -1) := h
  exact ⟨rfl, (Prod.mk.inj h2).2⟩
theorem same_over {H0 H' : Hp} {l : Addr} {o : HO} (n : H0 l = none) (s : Same H0 H') : Same H0 (upd H' l o) := fun b u e => by
  rw [upd_ne (ne_of_none e n)]
  exact s _ _ e
/-- a knot as it is told: two tuples of blocks -/
def OutAt (H : Hp) (w : Addr) (g : List Itm) : Prop := ∃ a b rs0 rs1, H w = some (.tup [.ref a, .ref b]) ∧ H a = some (.tup (refs rs0)) ∧ BsAt H rs0 (side 0 g) ∧ H b = some (.tup (refs rs1)) ∧ BsAt H rs1 (side 1 g)
theorem OutAt.same {H H' : Hp} {w : Addr} {g : List Itm} (s : Same H H') (h : OutAt H w g) : OutAt H' w g := let ⟨a, b, r0, r1, h1, h2, h3, h4, h5⟩ := h; ⟨a, b, r0, r1, s _ _ h1, s _ _ h2, h3.same s, s _ _ h4, h5.same s⟩
theorem OutAt.updL {H : Hp} {p w : Addr} {g : List Itm} {xs ys : List V} (h : OutAt H w g) (k : H p = some (.lst xs)) : OutAt (upd H p (.lst ys)) w g := by
  obtain ⟨a, b, r0, r1, h1, h2, h3, h4, h5⟩ := h
  have ne : ∀ {b : Addr} {zs : List V}, H b = some (.tup zs) → upd H p (.lst ys) b = some (.tup zs) := fun {b zs} e => by
    rw [upd_ne (fun q => by rw [q, k] at e; cases e)]; exact e
  exact ⟨a, b, r0, r1, ne h1, ne h2, h3.updL k, ne h4, h5.updL k⟩
theorem blks_dq {K : PySem.W.Frag} {H : Hp} : ∀ {rs : List Addr} {bs : List Blk}, BsAt H rs bs → DqAll K H (refs rs) (bs.map blkD)
  | [], [], _ => .nil
  | [], p :: ps, h => absurd h.1 (by simp)
  | r :: rs, [], h => absurd h.1 (by simp)
  | r :: rs, p :: ps, h => by
    obtain ⟨r', e1, e2⟩ := h.2 0 p rfl
    obtain rfl : r = r' := Option.some.inj e1
    exact .cons (.tup (fourV_sq e2) (.cons (.int _) (.cons (.int _) (.cons (.int _) (.cons (.int _) .nil))))) (blks_dq ⟨by simpa using h.1, fun i q hq => h.2 (i + 1) q hq⟩)
theorem OutAt.dq {K : PySem.W.Frag} {H : Hp} {w : Addr} {g : List Itm} (h : OutAt H w g) : Dq K H (.ref w) (knD (side 0 g, side 1 g)) := by
  obtain ⟨a, b, r0, r1, h1, h2, h3, h4, h5⟩ := h
  exact .tup (SqT.of h1) (.cons (.tup (SqT.of h2) (blks_dq h3)) (.cons (.tup (SqT.of h4) (blks_dq h5)) .nil))
def OsAt (H : Hp) (ws : List Addr) (gs : List (List Itm)) : Prop := ws.length = gs.length ∧ ∀ (i : Nat) (g : List Itm), gs[i]? = some g → ∃ w, ws[i]? = some w ∧ OutAt H w g
theorem OsAt.dq {K : PySem.W.Frag} {H : Hp} : ∀ {ws : List Addr} {gs : List (List Itm)}, OsAt H ws gs → DqAll K H (refs ws) ((gs.map fun g => (side 0 g, side 1 g)).map knD)
  | [], [], _ => .nil
  | [], p :: ps, h => absurd h.1 (by simp)
  | r :: rs, [], h => absurd h.1 (by simp)
  | r :: rs, p :: ps, h => by
    obtain ⟨r', e1, e2⟩ := h.2 0 p rfl
    obtain rfl : r = r' := Option.some.inj e1
    exact .cons e2.dq (OsAt.dq ⟨by simpa using h.1, fun i q hq => h.2 (i + 1) q hq⟩)
theorem OsAt.snoc {H : Hp} {ws : List Addr} {gs : List (List Itm)} {w : Addr} {g : List Itm} (h : OsAt H ws gs) (k : OutAt H w g) : OsAt H (ws ++ [w]) (gs ++ [g]) := by
  refine ⟨by rw [List.length_append, List.length_append, h.1]; rfl, fun i q hq => ?_⟩
  by_cases hi : i < gs.length
  · rw [List.getElem?_append_left hi] at hq
    rw [List.getElem?_append_left (by rw [h.1]; exact hi)]
    exact h.2 i q hq
  · rw [List.getElem?_append_right (by omega)] at hq
    rw [List.getElem?_append_right (by rw [h.1]; omega), h.1]
    have e : i - gs.length = 0 := by
      cases e : i - gs.length with
      | zero => rfl
      | succ n => rw [e] at hq; simp at hq
    rw [e] at hq ⊢
    cases Option.some.inj hq
    exact ⟨w, rfl, k⟩
theorem OsAt.same {H H' : Hp} {ws : List Addr} {gs : List (List Itm)} (s : Same H H') (h : OsAt H ws gs) : OsAt H' ws gs := ⟨h.1, fun i x hx => let ⟨u, h1, h2⟩ := h.2 i x hx; ⟨u, h1, h2.same s⟩⟩
theorem OsAt.updL {H : Hp} {p : Addr} {ws : List Addr} {gs : List (List Itm)} {xs ys : List V} (h : OsAt H ws gs) (k : H p = some (.lst xs)) : OsAt (upd H p (.lst ys)) ws gs := ⟨h.1, fun i x hx => let ⟨u, h1, h2⟩ := h.2 i x hx; ⟨u, h1, h2.updL k⟩⟩
def spKnots (K : PySem.W.Frag) : Sp := fun vs H Q _ => ∃ (x0 x1 x2 v1 v2 : V) (ss0 ss1 ss2 : List Str) (ps qs : List (Nat × Nat)), vs = [x0, x1, x2, v1, v2] ∧ TxV K H x0 ss0 ∧ TxV K H x1 ss1 ∧ TxV K H x2 ss2 ∧ DfV K H v1 ps ∧ IsDf ss0 ss1 ps ∧ DfV K H v2 qs ∧ IsDf ss0 ss2 qs ∧
  ∀ (l : Addr) (xs : List V) H', Same H H' → H l = none → H' l = some (.lst xs) → DqAll K H' xs ((knotsL (blocksL ss0.length ss1.length ps) (blocksL ss0.length ss2.length qs)).map knD) → Q (.ref l) H'
end XR
namespace K62
open PySem L2 XR KT
section
variable {P : Program} {w : World} {K : PySem.W.Frag} {mg : Str → Option Value} {base : Heap}
abbrev sKnots : Stmt := top 24
abbrev nKnots : List Str := ["base", "one", "two", "diff_one", "diff_two", "told", "knots", "reached", "first", "last", "version", "block", "ones", "twos"]
theorem scKnots : FnScope nKnots nVers (defScope sKnots) := ⟨rfl, rfl, rfl, by decide +kernel, rfl, by decide +kernel, by decide +kernel⟩
theorem ok_knots {f fV fB fC : Addr} {fd fdV fdB fdC : FuncData} (F : Fun K "knots_of" "knots_of" sKnots f fd) (T : Blt mg) (mS : mg "sorted" = none)
    (FV : Fun K "check_versions" "check_versions" sVers fV fdV) (GV : FnOk P w K mg base CX0 6 fV fdV nVers (spVers K)) (bV : Binds K fdV nVers []) (mV : mg "check_versions" = some (.ref fV))
    (FB : Fun K "blocks_of" "blocks_of" sBlocks fB fdB) (GB : FnOk P w K mg base CX0 6 fB fdB ["old", "new", "diff"] (spFours K blocksL)) (bB : Binds K fdB ["old", "new", "diff"] []) (mB : mg "blocks_of" = some (.ref fB))
    (FC : Fun K "covered_by" "covered_by" sCover fC fdC) (GC : FnOk P w K mg base CX0 1 fC fdC ["block"] (spCover K)) (bC : Binds K fdC ["block"] []) (mC : mg "covered_by" = some (.ref fC)) : FnOk P w K mg base CX0 7 f fd nVers (spKnots K) := by
  refine F.ok scKnots (fun vs H Q E h => ?_) (fun cdv A outer s H vs Q E hr h => ?_)
  · obtain ⟨x0, x1, x2, v1, v2, ss0, ss1, ss2, ps, qs, rfl, _⟩ := h
    rfl
  · obtain ⟨x0, x1, x2, v1, v2, ss0, ss1, ss2, ps, qs, rfl, t0, t1, t2, hv1, hd1, hv2, hd2, z⟩ := h
    have hr1 := hr.mono (show 1 ≤ 6 by decide)
    refine ⟨_, pss_cons (ps_expr (pe_call GV hr rfl mV FV.kp bV .nil pass0 (pa_cons (pv 0) (pa_cons (pv 1) (pa_cons (pv 2) (pa_cons (pv 3) (pa_cons (pv 4) pa_nil)))))))
      (pss_cons (ps_setLc (i := 5) (own := [("block", 11)]) (g := gName 11) (tt := tYes) (te := tTup (tCons (tCall (spCover K) [] E0 (tCons (tVar 11) tNil)) (tCons (tC (.int 0)) (tCons (tVar 11) tNil)))) rfl scKnots.nd rfl rfl (sw_true rfl rfl rfl (by decide +kernel))
          (pi_list (pe_call GB hr rfl mB FB.kp bB .nil pass0 (pa_cons (pv 0) (pa_cons (pv 1) (pa_cons (pv 3) pa_nil)))))
          (blkOk_by (own := [("block", 11)]) (N := nKnots) (sc := defScope sKnots) (by decide +kernel)) (fun _ _ _ _ _ => pg_name (i := 11) scKnots.nd rfl (.inl rfl)) (fun _ _ _ _ _ => pts_nil)
          (fun _ _ _ _ _ => pe_tup (pa_cons (pe_call GC hr1 rfl mC FC.kp bC .nil pass0 (pa_cons (pv 11) pa_nil)) (pa_cons pe_int (pa_cons (pv 11) pa_nil)))))
      (pss_cons (ps_set (i := 5) scKnots.nd rfl (.inl rfl) (pe_op op_cat (pv 5) (pe_lc (own := [("block", 11)]) (g := gName 11) (tt := tYes) (te := tTup (tCons (tCall (spCover K) [] E0 (tCons (tVar 11) tNil)) (tCons (tC (.int 1)) (tCons (tVar 11) tNil)))) rfl scKnots.nd
          (pi_list (pe_call GB hr rfl mB FB.kp bB .nil pass0 (pa_cons (pv 0) (pa_cons (pv 2) (pa_cons (pv 4) pa_nil)))))
          (blkOk_by (own := [("block", 11)]) (N := nKnots) (sc := defScope sKnots) (by decide +kernel)) (fun _ _ _ _ _ => pg_name (i := 11) scKnots.nd rfl (.inl rfl)) (fun _ _ _ _ _ => pts_nil)
          (fun _ _ _ _ _ => pe_tup (pa_cons (pe_call GC hr1 rfl mC FC.kp bC .nil pass0 (pa_cons (pv 11) pa_nil)) (pa_cons pe_int (pa_cons (pv 11) pa_nil)))))))
      (pss_cons (ps_par (i := 6) (j := 7) rfl scKnots.nd rfl rfl (by decide) rfl rfl (pa_cons (pe_lst pa_nil) (pa_cons (pe_un un_neg pe_int) pa_nil)) rfl)
      (pss_cons (ps_for PassesOwn.never rfl (pi_list (pe_callB (cr_sortedDt (enc := itmD) hr) (by rfl) mS (by decide +kernel) (pa_cons (pv 5) pa_nil)))
          (pg_tup rfl (pgs_cons (pg_tup rfl (pgs_cons (pg_name (i := 8) scKnots.nd rfl (.inl rfl)) (pgs_cons (pg_name (i := 9) scKnots.nd rfl (.inl rfl)) pgs_nil))) (pgs_cons (pg_name (i := 10) scKnots.nd rfl (.inl rfl)) (pgs_cons (pg_name (i := 11) scKnots.nd rfl (.inl rfl)) pgs_nil))))
        (pss_cons (ps_if (pt_cmpR op_gt (pv 8) (pv 7) (nomark _)) (pss_one (ps_expr (pe_bm PySem.F.plainAttrs_list PySem.F.slot_list_append PySem.F.type_list_append mt_append (pv 6) (pa_cons (pe_tup (pa_cons (pe_lst pa_nil) (pa_cons (pe_lst pa_nil) pa_nil))) pa_nil)))) pss_nil)
        (pss_cons (ps_expr (pe_bm PySem.F.plainAttrs_list PySem.F.slot_list_append PySem.F.type_list_append mt_append (pe_ix ix_tup (pe_ix ix_list (pv 6) (pe_un un_neg pe_int) (fun _ _ => rfl)) (pv 10) (fun _ _ => rfl)) (pa_cons (pv 11) pa_nil)))
        (pss_one (ps_set (i := 7) scKnots.nd rfl (.inl rfl) (pe_callB (call_max2 rfl) (by rfl) T.max (by decide +kernel) (pa_cons (pv 7) (pa_cons (pv 9) pa_nil))))))))
      (pss_one (ps_ret (pe_lc (own := [("ones", 12), ("twos", 13)]) (g := gTup K 2 (gCons (gName 12) (gCons (gName 13) gNil))) (tt := tYes) (te := tTup (tCons (tCB (fun xs H Q => ∃ p ys, xs = [.ref p] ∧ ((SqL K H p ys ∧ ∀ u, H u = none → Q (.ref u) (upd H u (.tup ys))) ∨ (SqT K H p ys ∧ Q (.ref p) H))) (tCons (tVar 12) tNil)) (tCons (tCB (fun xs H Q => ∃ p ys, xs = [.ref p] ∧ ((SqL K H p ys ∧ ∀ u, H u = none → Q (.ref u) (upd H u (.tup ys))) ∨ (SqT K H p ys ∧ Q (.ref p) H))) (tCons (tVar 13) tNil)) tNil))) rfl scKnots.nd (pi_list (pv 6))
          (blkOk_by (own := [("ones", 12), ("twos", 13)]) (N := nKnots) (sc := defScope sKnots) (by decide +kernel)) (fun _ _ _ _ _ => pg_tup rfl (pgs_cons (pg_name (i := 12) scKnots.nd rfl (.inl rfl)) (pgs_cons (pg_name (i := 13) scKnots.nd rfl (.inl rfl)) pgs_nil))) (fun _ _ _ _ _ => pts_nil)
          (fun _ _ _ _ _ => pe_tup (pa_cons (pe_callTy call_tuple_of (by rfl) (T.all "tuple" (by decide)) (by decide +kernel) (pa_cons (pv 12) pa_nil)) (pa_cons (pe_callTy call_tuple_of (by rfl) (T.all "tuple" (by decide)) (by decide +kernel) (pa_cons (pv 13) pa_nil)) pa_nil)))))))))), ?_⟩
    refine ⟨_, rfl, _, rfl, _, rfl, _, rfl, _, rfl, x0, x1, x2, v1, v2, ss0, ss1, ss2, ps, qs, rfl, t0, t1, t2, hv1, hd1, hv2, hd2, fun H1 s1 => ?_⟩
    refine ⟨_, rfl, _, rfl, _, rfl, x0, x1, v1, ss0, ss1, ps, rfl, t0.same s1, t1.same s1, hv1.same s1, hd1, fun l0 r0 H2 s2 n0 hl0 hb0 => ?_⟩
    have sp0 := blocks_spread hd1
    have sp1 := blocks_spread hd2
    have bl0 : ∀ b ∈ blocksL ss0.length ss1.length ps, b.1 ≤ 100 ∧ b.2.1 ≤ 100 := fun b hb => by
      have := blocks_le hd1 hb
      have := t0.len
      omega
    have bl1 : ∀ b ∈ blocksL ss0.length ss2.length qs, b.1 ≤ 100 ∧ b.2.1 ≤ 100 := fun b hb => by
      have := blocks_le hd2 hb
      have := t0.len
      omega
    have c0 : (blocksL ss0.length ss1.length ps).length ≤ 61 := Nat.le_trans (blocks_count hd1) (by have := df_len hd1; have := t0.len; omega)
    have c1 : (blocksL ss0.length ss2.length qs).length ≤ 61 := Nat.le_trans (blocks_count hd2) (by have := df_len hd2; have := t0.len; omega)
    have s02 := s1.trans s2
    have nx0 : ∀ {p}, H2 p = none → H p = none := fun {p} h => none_before s02 h
    refine ⟨l0, rfl, ⟨_, SqL.of hl0⟩, fun D nD => ?_⟩
    generalize e0 : blocksL ss0.length ss1.length ps = S0 at hb0 sp0 bl0 c0 z
    refine lc_list (K := K) (a := l0) (xs := refs r0) (fun j Hx => Same H2 Hx ∧ ∃ us, Hx D = some (.lst (refs us)) ∧ TsAt Hx us (itm0 0 (S0.take j))) ⟨same_upd nD, [], upd_same, .nil⟩ (fun j Hx _ hh => SqL.of (hh.1 _ _ hl0)) ?_ ?_
    · rintro j x Hx hx ⟨sx, us, hD, ht⟩
      obtain ⟨r, er, rfl⟩ : ∃ r, r0[j]? = some r ∧ x = V.ref r := by
        unfold refs at hx
        rw [List.getElem?_map] at hx
        obtain ⟨r, e1, e2⟩ := Option.map_eq_some_iff.mp hx
        exact ⟨r, e1, e2.symm⟩
      have hj : j < S0.length := by rw [← hb0.1]; exact (List.getElem?_eq_some_iff.mp er).1
      obtain ⟨b, hbj⟩ : ∃ b, S0[j]? = some b := ⟨_, List.getElem?_eq_getElem hj⟩
      obtain ⟨r', er', hr'⟩ := hb0.2 j b hbj
      rw [er] at er'
      cases er'
      obtain ⟨q1, q2⟩ := bl0 b (List.mem_of_getElem? hbj)
      refine ⟨rfl, ?_⟩
      unfold tYes
      dsimp only
      rw [if_pos rfl]
      refine ⟨_, rfl, r, b, rfl, fourV_sq (sx _ _ hr'), q1, q2, fun t H3 s3 nt ht3 => ?_⟩
      refine ⟨_, rfl, ll20 (by show 3 ≤ 20; decide), fun u nu => ?_⟩
      have ln : (itm0 0 (S0.take j)).length ≤ 100 := by
        unfold itm0
        rw [List.length_map, List.length_take]
        exact Nat.le_trans (Nat.min_le_right _ _) (Nat.le_trans c0 (by decide))
      obtain ⟨z1, z2, z3, us', z4, z5⟩ := itmStep (x := (0, b)) sx nD hD ht s3 ht3 (s3 _ _ (sx _ _ hr')) nu ln
      exact ⟨_, z1, z2, z3, us', z4, by rw [itm0_take 0 _ _ hbj]; exact z5⟩
    rintro H3 ⟨s3, us0, hD, ht0⟩
    have l00 : (refs r0).length = S0.length := by unfold refs; rw [List.length_map, hb0.1]
    rw [l00, List.take_length] at ht0
    have s03 := s02.trans s3
    refine ⟨_, rfl, _, rfl, _, rfl, _, rfl, x0, x2, v2, ss0, ss2, qs, rfl, t0.same s03, t2.same s03, hv2.same s03, hd2, fun l1 r1 H4 s4 n1 hl1 hb1 => ?_⟩
    have s04 := s03.trans s4
    refine ⟨l1, rfl, ⟨_, SqL.of hl1⟩, fun D1 nD1 => ?_⟩
    generalize e1 : blocksL ss0.length ss2.length qs = S1 at hb1 sp1 bl1 c1 z
    refine lc_list (K := K) (a := l1) (xs := refs r1) (fun j Hx => Same H4 Hx ∧ ∃ us, Hx D1 = some (.lst (refs us)) ∧ TsAt Hx us (itm0 1 (S1.take j))) ⟨same_upd nD1, [], upd_same, .nil⟩ (fun j Hx _ hh => SqL.of (hh.1 _ _ hl1)) ?_ ?_
    · rintro j x Hx hx ⟨sx, us, hD, ht⟩
      obtain ⟨r, er, rfl⟩ : ∃ r, r1[j]? = some r ∧ x = V.ref r := by
        unfold refs at hx
        rw [List.getElem?_map] at hx
        obtain ⟨r, e1, e2⟩ := Option.map_eq_some_iff.mp hx
        exact ⟨r, e1, e2.symm⟩
      have hj : j < S1.length := by rw [← hb1.1]; exact (List.getElem?_eq_some_iff.mp er).1
      obtain ⟨b, hbj⟩ : ∃ b, S1[j]? = some b := ⟨_, List.getElem?_eq_getElem hj⟩
      obtain ⟨r', er', hr'⟩ := hb1.2 j b hbj
      rw [er] at er'
      cases er'
      obtain ⟨q1, q2⟩ := bl1 b (List.mem_of_getElem? hbj)
      refine ⟨rfl, ?_⟩
      unfold tYes
      dsimp only
      rw [if_pos rfl]
      refine ⟨_, rfl, r, b, rfl, fourV_sq (sx _ _ hr'), q1, q2, fun t H3 s3 nt ht3 => ?_⟩
      refine ⟨_, rfl, ll20 (by show 3 ≤ 20; decide), fun u nu => ?_⟩
      have ln : (itm0 1 (S1.take j)).length ≤ 100 := by
        unfold itm0
        rw [List.length_map, List.length_take]
        exact Nat.le_trans (Nat.min_le_right _ _) (Nat.le_trans c1 (by decide))
      obtain ⟨z1, z2, z3, us', z4, z5⟩ := itmStep (x := (1, b)) sx nD1 hD ht s3 ht3 (s3 _ _ (sx _ _ hr')) nu ln
      exact ⟨_, z1, z2, z3, us', z4, by rw [itm0_take 1 _ _ hbj]; exact z5⟩
    rintro H5 ⟨s5, us1, hD1, ht1⟩
    have l11 : (refs r1).length = S1.length := by unfold refs; rw [List.length_map, hb1.1]
    rw [l11, List.take_length] at ht1
    have s35 := s4.trans s5
    have hD5 := s35 _ _ hD
    have ht5 := (ht0.same s35).append ht1
    have tlen : (itm0 0 S0 ++ itm0 1 S1).length ≤ 122 := by
      unfold itm0
      rw [List.length_append, List.length_map, List.length_map]
      omega
    have ulen : us0.length + us1.length ≤ 122 := by
      have := ht5.1
      rw [List.length_append] at this
      omega
    refine ⟨D, D1, _, _, rfl, rfl, hD5, hD1, ?_, fun L nL => ?_⟩
    · unfold refs
      rw [List.length_map, List.length_map]
      exact Nat.le_trans ulen (by decide)
    have e : refs us0 ++ refs us1 = refs (us0 ++ us1) := by unfold refs; rw [List.map_append]
    rw [e]
    have sL := same_upd (o := .lst (refs (us0 ++ us1))) nL
    have hL := upd_same (H := H5) (a := L) (o := .lst (refs (us0 ++ us1)))
    have s06 := (s03.trans s35).trans sL
    have ht6 := ht5.same sL
    generalize upd H5 L (.lst (refs (us0 ++ us1))) = H6 at hL s06 ht6 ⊢
    have eT : itm0 0 S0 ++ itm0 1 S1 = told S0 S1 := rfl
    rw [eT] at ht6 tlen
    generalize us0 ++ us1 = us at hL ht6 ⊢
    clear ht5 hD5 s35 ht1 hD1 s5 ht0 hD s3
    refine ⟨ll20 (by decide), fun kl nk => ⟨_, rfl, _, _, rfl, ?_⟩⟩
    have sk := same_upd (o := .lst []) nk
    have hk0 := upd_same (H := H6) (a := kl) (o := .lst [])
    have zf : ((refs us).zip (told S0 S1)).map (·.1) = refs us := List.map_fst_zip (by unfold refs; rw [List.length_map, ht6.1]; exact Nat.le_refl _)
    have zs2 : ((refs us).zip (told S0 S1)).map (·.2) = told S0 S1 := List.map_snd_zip (by unfold refs; rw [List.length_map, ht6.1]; exact Nat.le_refl _)
    have zz := ht6.zip
    have hL7 := sk _ _ hL
    refine ⟨_, rfl, L, (refs us).zip (told S0 S1), rfl, by rw [zf]; exact SqL.of hL7, fun w hw => ?_, ?_, ?_, fun w hw => ?_, fun sl ns => ⟨sl, rfl, ⟨_, SqL.of upd_same⟩, ?_⟩⟩
    · obtain ⟨u, e, hu⟩ := zz w hw
      rw [e]
      exact (hu.same sk).dp
    · intro d hd d' hd'
      obtain ⟨w, _, rfl⟩ := List.mem_map.mp hd
      obtain ⟨w', _, rfl⟩ := List.mem_map.mp hd'
      exact alike_itm _ _
    · left
      intro d hd
      obtain ⟨w, _, rfl⟩ := List.mem_map.mp hd
      exact ⟨_, _, rfl⟩
    · show (itmD w.2).depth ≤ 60
      simp [itmD, covD, blkD, intsB, PyData.depth, PyData.depthAll]
    have ss := same_upd (o := .lst ((((refs us).zip (told S0 S1)).mergeSort (PySem.W.dataLe false fun z => itmD z.2)).map (·.1))) ns
    have hs0 := upd_same (H := upd H6 kl (.lst [])) (a := sl) (o := .lst ((((refs us).zip (told S0 S1)).mergeSort (PySem.W.dataLe false fun z => itmD z.2)).map (·.1)))
    have hk1 := ss _ _ hk0
    have slk : sl ≠ kl := (ne_of_none hk0 ns).symm
    have s67 := sk.trans ss
    have hZ2 : (((refs us).zip (told S0 S1)).mergeSort (PySem.W.dataLe false fun z => itmD z.2)).map (·.2) = (told S0 S1).mergeSort leI := by
      conv => rhs; rw [← zs2]
      exact PySem.W.sort_maps (fun z : V × Itm => z.2) fun _ _ _ _ => rfl
    have hZm : ∀ w ∈ ((refs us).zip (told S0 S1)).mergeSort (PySem.W.dataLe false fun z => itmD z.2), ∃ u, w.1 = .ref u ∧ ItAt H6 u w.2 := fun w hw => zz w ((List.mergeSort_perm _ _).mem_iff.mp hw)
    have hZg : ∀ w ∈ ((refs us).zip (told S0 S1)).mergeSort (PySem.W.dataLe false fun z => itmD z.2), w.2 ∈ told S0 S1 := fun w hw => by
      rw [← zs2]
      exact List.mem_map.mpr ⟨w, (List.mergeSort_perm _ _).mem_iff.mp hw, rfl⟩
    generalize upd (upd H6 kl (.lst [])) sl (.lst ((((refs us).zip (told S0 S1)).mergeSort (PySem.W.dataLe false fun z => itmD z.2)).map (·.1))) = H8 at hs0 hk1 s67 ⊢
    generalize ((refs us).zip (told S0 S1)).mergeSort (PySem.W.dataLe false fun z => itmD z.2) = Z at hZ2 hZm hZg hs0 ⊢
    have good : ∀ {X}, X ∈ told S0 S1 → GoodB X.2 ∧ (X.1 = 0 ∨ X.1 = 1) := fun {X} hX => by
      rcases told_side hX rfl with ⟨e, m⟩ | ⟨e, m⟩
      · exact ⟨sp0.good _ m, .inl e⟩
      · exact ⟨sp1.good _ m, .inr e⟩
    have Zlen : Z.length ≤ 122 := by
      have := congrArg List.length hZ2
      rw [List.length_map, List.length_mergeSort] at this
      omega
    have knlen : ∀ (i : Nat) (ks : List KnE) {rr : Int}, (ks.map (·.2), rr) = sweep loI hiI ((Z.map (·.2)).take i) → ks.length ≤ 122 := fun i ks {rr} h => by
      have e := sweep_inv (lo := loI) (hi := hiI) lo_hi lo_pos ((Z.map (·.2)).take i) (by
        rw [hZ2]
        have tot : ∀ a b, (leI a b || leI b a) = true := fun a b => by rw [Bool.or_eq_true]; exact leI_tot.total a b
        exact ((List.pairwise_mergeSort leI_tot.trans tot _).imp fun h => leI_mon _ _ h).sublist (List.take_sublist _ _))
      have e2 := segs_len e.seg
      rw [e.fl, ← h, List.length_map, List.length_take, List.length_map] at e2
      omega
    refine for_list (K := K) (a := sl) (xs := Z.map (·.1)) (fun i σ H' => Same H6 H' ∧ H' sl = some (.lst (Z.map (·.1))) ∧ ∃ (ks : List KnE) (rr : Int) (y8 y9 y10 y11 y12 y13 : Option V), σ = [some x0, some x1, some x2, some v1, some v2, some (V.ref L), some (V.ref kl), some (V.int rr), y8, y9, y10, y11, y12, y13] ∧ KnSt H6 H' sl kl ks ∧ (ks.map (·.2), rr) = sweep loI hiI ((Z.map (·.2)).take i))
      ⟨s67, hs0, [], -1, _, _, _, _, _, _, rfl, ⟨hk1, by simpa [adr] using slk, fun a ha => (nomatch ha), fun e he => (nomatch he)⟩, rfl⟩ (fun i σ H' _ hh => SqL.of hh.2.1) ?_ ?_
    · rintro i x σ Ha hx ⟨sm, hsl, ks, rr, y8, y9, y10, y11, y12, y13, rfl, KSa, hsw⟩
      obtain ⟨w, hwi, rfl⟩ : ∃ w, Z[i]? = some w ∧ x = w.1 := by
        rw [List.getElem?_map] at hx
        obtain ⟨w, e1, e2⟩ := Option.map_eq_some_iff.mp hx
        exact ⟨w, e1, e2.symm⟩
      have hwm := List.mem_of_getElem? hwi
      obtain ⟨u, eu, c, r, h1, h2, h3⟩ := hZm w hwm
      obtain ⟨gX, vX⟩ := good (hZg w hwm)
      obtain ⟨wv, X⟩ := w
      dsimp only at eu h1 h2 h3 gX vX hwi
      subst eu
      have h1a := sm _ _ h1
      have h2a := sm _ _ h2
      have h3a := sm _ _ h3
      have hiX : hiI X = (coverB X.2).2 := hi_good gX
      have tk : (Z.map (·.2)).take (i + 1) = (Z.map (·.2)).take i ++ [X] := by rw [List.take_add_one, List.getElem?_map, hwi]; rfl
      have swp : sweep loI hiI ((Z.map (·.2)).take (i + 1)) = stepW loI hiI (ks.map (·.2), rr) X := by
        rw [tk, hsw]
        unfold sweep
        rw [List.foldl_append]
        rfl
      refine ⟨u, _, rfl, SqT.of h1a, rfl, _, _, rfl, c, _, rfl, SqT.of h2a, rfl, _, _, rfl, _, _, rfl, rfl, _, _, rfl, _, _, rfl, rfl, ?_⟩
      refine ⟨_, rfl, _, rfl, _, _, rfl, rfl, _, rfl, ?_⟩
      have fl2 : (sweep loI hiI ((Z.map (·.2)).take i)).1 = ks.map (·.2) := by rw [← hsw]
      have rr2 : (sweep loI hiI ((Z.map (·.2)).take i)).2 = rr := by rw [← hsw]
      by_cases cc : loI X > rr
      · rw [decide_eq_true (show rr < (coverB X.2).1 from cc)]
        refine iteT ⟨_, rfl, .inl ⟨rfl, _, SqL.of KSa.k⟩, ll20 (by decide), fun p np => ⟨ll20 (by decide), fun q nq => ⟨ll20 (by show 2 ≤ 20; decide), fun t nt => ?_⟩⟩⟩
        obtain ⟨kk, KSy⟩ := KSa.new (t := t) (p := p) (q := q) sm hsl np nq nt
        refine ⟨kl, _, _, rfl, rfl, kk, ?_, ?_⟩
        · unfold refs
          rw [List.length_map, List.length_map]
          exact Nat.lt_of_le_of_lt (knlen _ _ hsw) (by decide)
        have sA := ((same_upd (o := .lst []) np).trans (same_upd (o := .lst []) nq)).trans (same_upd (o := .tup [V.ref p, V.ref q]) nt)
        have nkl : sl ≠ kl := fun e => (List.nodup_cons.mp KSy.nd).1 (by rw [e]; exact List.mem_cons_self ..)
        have sy : Same H6 (upd (upd (upd (upd Ha p (.lst [])) q (.lst [])) t (.tup [V.ref p, V.ref q])) kl (.lst (refs (ks.map (·.1.1)) ++ [V.ref t]))) := same_over nk (sm.trans sA)
        have hsy : upd (upd (upd (upd Ha p (.lst [])) q (.lst [])) t (.tup [V.ref p, V.ref q])) kl (.lst (refs (ks.map (·.1.1)) ++ [V.ref t])) sl = some (.lst (Z.map (·.1))) := by
          rw [upd_ne nkl]
          exact sA _ _ hsl
        have hr2 : upd (upd (upd (upd Ha p (.lst [])) q (.lst [])) t (.tup [V.ref p, V.ref q])) kl (.lst (refs (ks.map (·.1.1)) ++ [V.ref t])) r = some (fourV X.2) := sy _ _ h3
        generalize upd (upd (upd (upd Ha p (.lst [])) q (.lst [])) t (.tup [V.ref p, V.ref q])) kl (.lst (refs (ks.map (·.1.1)) ++ [V.ref t])) = Hy at KSy sy hsy hr2 ⊢
        clear kk np nq nt sA
        have hk2 : Hy kl = some (.lst (refs (ks.map (·.1.1)) ++ [V.ref t])) := by
          have := KSy.k
          rw [List.map_append] at this
          unfold refs at this ⊢
          rw [List.map_append] at this
          exact this
        have kl1 : Kn1 Hy t p q [] := KSy.kn ((t, p, q), []) (List.mem_append_right _ (List.mem_singleton.mpr rfl))
        have memp : p ∈ adr (ks ++ [((t, p, q), [])]) := (adr_in (k := ((t, p, q), [])) (List.mem_append_right _ (List.mem_singleton.mpr rfl))).1
        have memq : q ∈ adr (ks ++ [((t, p, q), [])]) := (adr_in (k := ((t, p, q), [])) (List.mem_append_right _ (List.mem_singleton.mpr rfl))).2
        have pq : p ≠ q := by
          have n2 := (List.nodup_cons.mp (List.nodup_cons.mp KSy.nd).2).2
          rw [adr_append] at n2
          have n3 := (List.nodup_append.mp n2).2.1
          intro e
          rw [e] at n3
          simp [adr] at n3
        have glen : ∀ v, (side v ([] : List Itm)).length ≤ 122 := fun v => by show 0 ≤ 122; decide
        have swe : ((ks ++ [((t, p, q), ([] : List Itm) ++ [X])]).map (·.2), max rr (hiI X)) = stepW loI hiI (ks.map (·.2), rr) X := by
          unfold stepW
          rw [if_pos cc, List.map_append]
          rfl
        rcases vX with ev | ev
        · have atV : atI [V.ref p, V.ref q] (X.1 : Int) = some (V.ref p) := by rw [ev]; exact atI_nat (j := 0) rfl
          obtain ⟨rsx, hpx, hbx⟩ := kl1.hp
          refine ⟨_, rfl, _, rfl, kl, _, _, _, rfl, rfl, SqL.of hk2, atI_last _ _, _, rfl, t, _, _, _, rfl, rfl, SqT.of kl1.ht, atV, .inl ⟨rfl, _, SqL.of hpx⟩, _, rfl, p, _, _, rfl, rfl, hpx, ?_, ?_⟩
          · unfold refs
            rw [List.length_map, hbx.1]
            exact Nat.lt_of_le_of_lt (glen _) (by decide)
          have kn2 := kl1.put0 (r := r) (x := X) ev hr2 hpx hbx pq
          have KS2 := KSy.put (.inl rfl) hpx kn2
          have sz2 : Same H6 (upd Hy p (.lst (refs rsx ++ [V.ref r]))) := same_over (KSy.nb _ memp) sy
          have hs2 : upd Hy p (.lst (refs rsx ++ [V.ref r])) sl = some (.lst (Z.map (·.1))) := by
            rw [upd_ne (fun e => (List.nodup_cons.mp KSy.nd).1 (List.mem_cons_of_mem _ (by rw [e]; exact memp)))]
            exact hsy
          refine ⟨_, rfl, _, rfl, _, _, rfl, sz2, hs2, _, max rr (hiI X), some (V.int (coverB X.2).1), some (V.int (coverB X.2).2), some (V.int (X.1 : Int)), some (V.ref r), y12, y13, ?_, KS2, ?_⟩
          · rw [hiX, ← max_if]
            rfl
          · rw [swp]
            exact swe
        · have atV : atI [V.ref p, V.ref q] (X.1 : Int) = some (V.ref q) := by rw [ev]; exact atI_nat (j := 1) rfl
          obtain ⟨rsx, hpx, hbx⟩ := kl1.hq
          refine ⟨_, rfl, _, rfl, kl, _, _, _, rfl, rfl, SqL.of hk2, atI_last _ _, _, rfl, t, _, _, _, rfl, rfl, SqT.of kl1.ht, atV, .inl ⟨rfl, _, SqL.of hpx⟩, _, rfl, q, _, _, rfl, rfl, hpx, ?_, ?_⟩
          · unfold refs
            rw [List.length_map, hbx.1]
            exact Nat.lt_of_le_of_lt (glen _) (by decide)
          have kn2 := kl1.put1 (r := r) (x := X) ev hr2 hpx hbx pq
          have KS2 := KSy.put (.inr rfl) hpx kn2
          have sz2 : Same H6 (upd Hy q (.lst (refs rsx ++ [V.ref r]))) := same_over (KSy.nb _ memq) sy
          have hs2 : upd Hy q (.lst (refs rsx ++ [V.ref r])) sl = some (.lst (Z.map (·.1))) := by
            rw [upd_ne (fun e => (List.nodup_cons.mp KSy.nd).1 (List.mem_cons_of_mem _ (by rw [e]; exact memq)))]
            exact hsy
          refine ⟨_, rfl, _, rfl, _, _, rfl, sz2, hs2, _, max rr (hiI X), some (V.int (coverB X.2).1), some (V.int (coverB X.2).2), some (V.int (X.1 : Int)), some (V.ref r), y12, y13, ?_, KS2, ?_⟩
          · rw [hiX, ← max_if]
            rfl
          · rw [swp]
            exact swe
      · rw [decide_eq_false (show ¬ rr < (coverB X.2).1 from cc)]
        refine iteF ?_
        have ne : ks ≠ [] := fun e => by
          subst e
          have hP : (Z.map (·.2)).take i = [] ∧ rr = -1 := swept0 _ _ hsw
          have := lo_pos X
          omega
        rcases List.eq_nil_or_concat ks with e | ⟨M, ⟨⟨t, p, q⟩, g⟩, e⟩
        · exact absurd e ne
        rw [List.concat_eq_append] at e
        subst e
        have KSy := KSa
        have sy := sm
        have hsy := hsl
        have hr2 := h3a
        have hk2 : Ha kl = some (.lst (refs (M.map (·.1.1)) ++ [V.ref t])) := by
          have := KSy.k
          rw [List.map_append] at this
          unfold refs at this ⊢
          rw [List.map_append] at this
          exact this
        have kl1 : Kn1 Ha t p q g := KSy.kn ((t, p, q), g) (List.mem_append_right _ (List.mem_singleton.mpr rfl))
        have memp : p ∈ adr (M ++ [((t, p, q), g)]) := (adr_in (k := ((t, p, q), g)) (List.mem_append_right _ (List.mem_singleton.mpr rfl))).1
        have memq : q ∈ adr (M ++ [((t, p, q), g)]) := (adr_in (k := ((t, p, q), g)) (List.mem_append_right _ (List.mem_singleton.mpr rfl))).2
        have pq : p ≠ q := by
          have n2 := (List.nodup_cons.mp (List.nodup_cons.mp KSy.nd).2).2
          rw [adr_append] at n2
          have n3 := (List.nodup_append.mp n2).2.1
          intro e
          rw [e] at n3
          simp [adr] at n3
        have glen : ∀ v, (side v g).length ≤ 122 := fun v => by
          have e3 := sweep_flat loI hiI ((Z.map (·.2)).take i)
          rw [fl2, List.map_append] at e3
          have e4 := congrArg List.length e3
          rw [List.flatten_append, List.length_append, List.length_take, List.length_map] at e4
          have e5 : ([((t, p, q), g)].map (fun e : KnE => e.2)).flatten = g := by simp
          rw [e5] at e4
          unfold side
          rw [List.length_map]
          have := List.length_filter_le (fun x : Itm => decide (x.1 = v)) g
          omega
        have swe : ((M ++ [((t, p, q), g ++ [X])]).map (·.2), max rr (hiI X)) = stepW loI hiI ((M ++ [((t, p, q), g)]).map (·.2), rr) X := by
          unfold stepW
          rw [if_neg cc, List.map_append, List.map_append]
          show _ = (lastPut (M.map (·.2) ++ [g]) X, _)
          rw [lastPut_of]
          rfl
        rcases vX with ev | ev
        · have atV : atI [V.ref p, V.ref q] (X.1 : Int) = some (V.ref p) := by rw [ev]; exact atI_nat (j := 0) rfl
          obtain ⟨rsx, hpx, hbx⟩ := kl1.hp
          refine ⟨_, rfl, _, rfl, kl, _, _, _, rfl, rfl, SqL.of hk2, atI_last _ _, _, rfl, t, _, _, _, rfl, rfl, SqT.of kl1.ht, atV, .inl ⟨rfl, _, SqL.of hpx⟩, _, rfl, p, _, _, rfl, rfl, hpx, ?_, ?_⟩
          · unfold refs
            rw [List.length_map, hbx.1]
            exact Nat.lt_of_le_of_lt (glen _) (by decide)
          have kn2 := kl1.put0 (r := r) (x := X) ev hr2 hpx hbx pq
          have KS2 := KSy.put (.inl rfl) hpx kn2
          have sz2 : Same H6 (upd Ha p (.lst (refs rsx ++ [V.ref r]))) := same_over (KSy.nb _ memp) sy
          have hs2 : upd Ha p (.lst (refs rsx ++ [V.ref r])) sl = some (.lst (Z.map (·.1))) := by
            rw [upd_ne (fun e => (List.nodup_cons.mp KSy.nd).1 (List.mem_cons_of_mem _ (by rw [e]; exact memp)))]
            exact hsy
          refine ⟨_, rfl, _, rfl, _, _, rfl, sz2, hs2, _, max rr (hiI X), some (V.int (coverB X.2).1), some (V.int (coverB X.2).2), some (V.int (X.1 : Int)), some (V.ref r), y12, y13, ?_, KS2, ?_⟩
          · rw [hiX, ← max_if]
            rfl
          · rw [swp]
            exact swe
        · have atV : atI [V.ref p, V.ref q] (X.1 : Int) = some (V.ref q) := by rw [ev]; exact atI_nat (j := 1) rfl
          obtain ⟨rsx, hpx, hbx⟩ := kl1.hq
          refine ⟨_, rfl, _, rfl, kl, _, _, _, rfl, rfl, SqL.of hk2, atI_last _ _, _, rfl, t, _, _, _, rfl, rfl, SqT.of kl1.ht, atV, .inl ⟨rfl, _, SqL.of hpx⟩, _, rfl, q, _, _, rfl, rfl, hpx, ?_, ?_⟩
          · unfold refs
            rw [List.length_map, hbx.1]
            exact Nat.lt_of_le_of_lt (glen _) (by decide)
          have kn2 := kl1.put1 (r := r) (x := X) ev hr2 hpx hbx pq
          have KS2 := KSy.put (.inr rfl) hpx kn2
          have sz2 : Same H6 (upd Ha q (.lst (refs rsx ++ [V.ref r]))) := same_over (KSy.nb _ memq) sy
          have hs2 : upd Ha q (.lst (refs rsx ++ [V.ref r])) sl = some (.lst (Z.map (·.1))) := by
            rw [upd_ne (fun e => (List.nodup_cons.mp KSy.nd).1 (List.mem_cons_of_mem _ (by rw [e]; exact memq)))]
            exact hsy
          refine ⟨_, rfl, _, rfl, _, _, rfl, sz2, hs2, _, max rr (hiI X), some (V.int (coverB X.2).1), some (V.int (coverB X.2).2), some (V.int (X.1 : Int)), some (V.ref r), y12, y13, ?_, KS2, ?_⟩
          · rw [hiX, ← max_if]
            rfl
          · rw [swp]
            exact swe
    · rintro σ Ha ⟨sm, hsl, ks, rr, y8, y9, y10, y11, y12, y13, rfl, KSa, hsw⟩
      have zl : (Z.map (·.1)).length = (Z.map (·.2)).length := by rw [List.length_map, List.length_map]
      rw [zl, List.take_length, hZ2] at hsw
      have ek : (ks.map (·.2)).map (fun g => (side 0 g, side 1 g)) = knotsL S0 S1 := by
        unfold knotsL
        rw [← hsw]
      have klen := by
        have e := sweep_flat loI hiI ((told S0 S1).mergeSort leI)
        have i2 := sweep_inv (lo := loI) (hi := hiI) lo_hi lo_pos ((told S0 S1).mergeSort leI) (by
          have tot : ∀ a b, (leI a b || leI b a) = true := fun a b => by rw [Bool.or_eq_true]; exact leI_tot.total a b
          exact (List.pairwise_mergeSort leI_tot.trans tot _).imp fun h => leI_mon _ _ h)
        have e2 := segs_len i2.seg
        rw [i2.fl, ← hsw, List.length_map, List.length_mergeSort] at e2
        exact Nat.le_trans e2 tlen
      refine ⟨_, rfl, kl, rfl, ⟨_, SqL.of KSa.k⟩, fun D2 nD2 => ?_⟩
      refine lc_list (K := K) (a := kl) (xs := refs (ks.map (·.1.1))) (fun j Hx => Same Ha Hx ∧ ∃ ws, Hx D2 = some (.lst (refs ws)) ∧ OsAt Hx ws ((ks.take j).map (·.2))) ⟨same_upd nD2, [], upd_same, rfl, fun i g h => by simp at h⟩ (fun j Hx _ hh => SqL.of (hh.1 _ _ KSa.k)) ?_ ?_
      · rintro j x Hx hx ⟨sx, ws, hD2, hws⟩
        obtain ⟨k, hkj, rfl⟩ : ∃ k, ks[j]? = some k ∧ x = V.ref k.1.1 := by
          unfold refs at hx
          rw [List.map_map, List.getElem?_map] at hx
          obtain ⟨k, e1, e2⟩ := Option.map_eq_some_iff.mp hx
          exact ⟨k, e1, e2.symm⟩
        obtain ⟨⟨t, p, q⟩, g⟩ := k
        have hj : j < ks.length := (List.getElem?_eq_some_iff.mp hkj).1
        obtain ⟨h1, ⟨r0', h2, h3⟩, ⟨r1', h4, h5⟩⟩ := (KSa.kn _ (List.mem_of_getElem? hkj)).same sx
        dsimp only at h1 h2 h3 h4 h5
        refine ⟨t, _, rfl, SqT.of h1, rfl, _, _, rfl, _, _, rfl, rfl, rfl, ?_⟩
        unfold tYes
        dsimp only
        rw [if_pos rfl]
        refine ⟨_, rfl, p, _, rfl, .inl ⟨SqL.of h2, fun a na => ?_⟩⟩
        have sa := same_upd (o := .tup (refs r0')) na
        refine ⟨_, rfl, q, _, rfl, .inl ⟨SqL.of (sa _ _ h4), fun b nb => ?_⟩⟩
        have sb := same_upd (o := .tup (refs r1')) nb
        refine ⟨ll20 (by show 2 ≤ 20; decide), fun w nw => ?_⟩
        have sw := same_upd (o := .tup [V.ref a, V.ref b]) nw
        have sA := (sa.trans sb).trans sw
        have hD3 := sA _ _ hD2
        refine ⟨_, hD3, ?_, fun b' o' h => ?_, ws ++ [w], ?_, ?_⟩
        · unfold refs
          rw [List.length_map, hws.1, List.length_map, List.length_take]
          exact Nat.lt_of_le_of_lt (Nat.le_trans (Nat.min_le_right _ _) klen) (by decide)
        · rw [upd_ne (ne_of_none h nD2)]
          exact sA _ _ (sx _ _ h)
        · rw [upd_same]; unfold refs; rw [List.map_append]; rfl
        · rw [List.take_add_one, hkj, List.map_append]
          have o1 : OutAt (upd (upd (upd Hx a (.tup (refs r0'))) b (.tup (refs r1'))) w (.tup [V.ref a, V.ref b])) w g := ⟨a, b, r0', r1', upd_same, sw _ _ (sb _ _ upd_same), h3.same sA, sw _ _ upd_same, h5.same sA⟩
          exact ((hws.same sA).snoc o1).updL hD3
      · rintro H9 ⟨s9, ws, hD2, hws⟩
        have l9 : (refs (ks.map (·.1.1))).length = ks.length := by unfold refs; rw [List.length_map, List.length_map]
        rw [l9, List.take_length] at hws
        refine z D2 (refs ws) H9 ((s06.trans sm).trans s9) (none_before (s06.trans sm) nD2) hD2 ?_
        rw [← ek]
        exact hws.dq
end
end K62
namespace XR
open PySem L2 KT
theorem pe_orE {X : Cx} {e : Expr} {w1 w2 : TE} (h1 : PE X e w1) (h2 : PE X e w2) : PE X e (fun σ H Q => w1 σ H Q ∨ w2 σ H Q) := ⟨fun pins s σ H Q I h => by
  rcases h with h | h
  · exact h1.run pins s σ H Q I h
  · exact h2.run pins s σ H Q I h⟩
theorem cut_seg (ss : List Str) {a b : Nat} (h1 : a ≤ b) (h2 : b ≤ ss.length) : cutV (ss.map V.str) (some (a : Int)) (some (b : Int)) = (seg ss a b).map V.str := by
  unfold cutV HT.sIx seg
  simp only [if_neg (show ¬ (a : Int) < 0 by omega), if_neg (show ¬ (b : Int) < 0 by omega), List.length_map]
  rw [show min (a : Int).toNat ss.length = a by omega, show min (b : Int).toNat ss.length = b by omega, List.map_take, List.map_drop]
/-- the lines that come in a block, in a new list -/
def spLines (K : PySem.W.Frag) : Sp := fun vs H Q _ => ∃ (x y : V) (ss : List Str) (b : Blk), vs = [x, y] ∧ TxA K H x ss ∧ Dq K H y (blkD b) ∧ b.2.2.1 ≤ b.2.2.2 ∧ b.2.2.2 ≤ ss.length ∧ ss.length ≤ 60 ∧ ∀ l H', Same H H' → H l = none → H' l = some (.lst ((seg ss b.2.2.1 b.2.2.2).map V.str)) → Q (.ref l) H'
theorem blk_of {K : PySem.W.Frag} {H : Hp} {y : V} {b : Blk} (h : Dq K H y (blkD b)) : ∃ r, y = .ref r ∧ SqT K H r [.int (b.1 : Int), .int (b.2.1 : Int), .int (b.2.2.1 : Int), .int (b.2.2.2 : Int)] := by
  unfold blkD intsB at h
  simp only [List.map_cons, List.map_nil] at h
  cases h with
  | @tup r xs ds h1 h2 =>
    cases h2 with
    | cons a h2 => cases h2 with
      | cons b h2 => cases h2 with
        | cons c h2 => cases h2 with
          | cons d h2 =>
            cases h2
            cases a
            cases b
            cases c
            cases d
            exact ⟨r, rfl, h1⟩
end XR
namespace K62
open PySem L2 XR KT
section
variable {P : Program} {w : World} {K : PySem.W.Frag} {mg : Str → Option Value} {base : Heap}
abbrev sLines : Stmt := top 27
abbrev nLines : List Str := ["text", "block", "_", "c", "d"]
theorem scLines : FnScope nLines ["text", "block"] (defScope sLines) := ⟨rfl, rfl, rfl, by decide +kernel, rfl, by decide +kernel, by decide +kernel⟩
theorem ok_lines {f : Addr} {fd : FuncData} (F : Fun K "lines_come" "lines_come" sLines f fd) (T : Blt mg) : FnOk P w K mg base CX0 1 f fd ["text", "block"] (spLines K) := by
  refine F.ok scLines (fun vs H Q E h => ?_) (fun cdv A outer s H vs Q E hr h => ?_)
  · obtain ⟨x, y, ss, b, rfl, _⟩ := h
    rfl
  · obtain ⟨x, y, ss, ⟨b1, b2, c, d⟩, rfl, ht, hb, h1, h2, h3, z⟩ := h
    dsimp only at h1 h2 z
    refine ⟨_, pss_cons (ps_asg (pv 1) (pg_tup rfl (pgs_cons (pg_name (i := 2) scLines.nd rfl (.inl rfl)) (pgs_cons (pg_name (i := 2) scLines.nd rfl (.inl rfl)) (pgs_cons (pg_name (i := 3) scLines.nd rfl (.inl rfl)) (pgs_cons (pg_name (i := 4) scLines.nd rfl (.inl rfl)) pgs_nil))))))
      (pss_one (ps_ret (pe_callTy call_list_of (by rfl) (T.all "list" (by decide)) (by decide +kernel) (pa_cons (pe_orE (pe_slice sl_list (pv 0) (po_some (pv 3)) (po_some (pv 4))) (pe_slice sl_tupA (pv 0) (po_some (pv 3)) (po_some (pv 4)))) pa_nil)))), ?_⟩
    obtain ⟨r, rfl, hr1⟩ := blk_of hb
    refine ⟨_, rfl, r, _, rfl, hr1, rfl, _, _, rfl, _, _, rfl, _, _, rfl, _, _, rfl, rfl, ?_⟩
    obtain ⟨p, rfl, hp | hp⟩ := ht
    · refine .inl ⟨_, rfl, _, rfl, _, rfl, _, rfl, _, rfl, p, _, rfl, hp, fun q nq => ?_⟩
      rw [cut_seg ss h1 h2]
      have sq := same_upd (o := .lst ((seg ss c d).map V.str)) nq
      exact ⟨q, _, rfl, .inl (SqL.of upd_same), fun l nl => z l _ (sq.trans (same_upd nl)) (none_before sq nl) upd_same⟩
    · refine .inr ⟨_, rfl, _, rfl, _, rfl, _, rfl, _, rfl, p, _, rfl, hp, fun hw => ?_, fun _ q nq => ?_⟩
      · have e : seg ss c d = ss := by
          have k1 : (if (c : Int) < 0 then ((c : Int) + ((ss.map V.str).length : Nat)).toNat else min (c : Int).toNat (ss.map V.str).length) = 0 := hw.1
          have k2 : (if (d : Int) < 0 then ((d : Int) + ((ss.map V.str).length : Nat)).toNat else min (d : Int).toNat (ss.map V.str).length) = (ss.map V.str).length := hw.2
          rw [if_neg (show ¬ (c : Int) < 0 by omega), List.length_map] at k1
          rw [if_neg (show ¬ (d : Int) < 0 by omega), List.length_map] at k2
          have ha : c = 0 ∨ ss.length = 0 := by omega
          have hb : d = ss.length := by omega
          unfold seg
          rcases ha with ha | ha
          · rw [ha, hb, List.drop_zero, Nat.sub_zero, List.take_length]
          · rw [List.eq_nil_of_length_eq_zero ha]; simp
        rw [e] at z
        exact ⟨p, _, rfl, .inr hp, fun l nl => z l _ (same_upd nl) nl upd_same⟩
      · rw [cut_seg ss h1 h2]
        have sq := same_upd (o := .tup ((seg ss c d).map V.str)) nq
        exact ⟨q, _, rfl, .inr (SqT.of upd_same), fun l nl => z l _ (sq.trans (same_upd nl)) (none_before sq nl) upd_same⟩
end
end K62
namespace XR
open PySem L2 KT
theorem cat_dq {K : PySem.W.Frag} {H : Hp} {Q : VK} {x y : V} {ds es : List PyData} (h : Dq K H x (.tuple ds)) (k : Dq K H y (.tuple es)) (n : ds.length + es.length ≤ sizeLine) (z : ∀ t ys H', Same H H' → SqT K H' t ys → DqAll K H' ys (ds ++ es) → Q (.ref t) H') : rCatA K x y H Q := by
  cases h with
  | @tup a xs ds h1 h2 =>
    cases k with
    | @tup b ys es k1 k2 =>
      have hl := h2.length
      have kl := k2.length
      refine ⟨a, b, xs, ys, rfl, rfl, h1, k1, by omega, fun e => ?_, fun _ e => ?_, fun _ _ t nt => ?_⟩
      · subst e
        cases h2
        exact z b ys H (fun _ _ e => e) k1 k2
      · subst e
        cases k2
        exact z a xs H (fun _ _ e => e) h1 (by rw [List.append_nil]; exact h2)
      · exact z t _ _ (same_upd nt) (SqT.of upd_same) ((DqAll.append h2 k2).same (same_upd nt))
/-- the least and the greatest of whole numbers -/
def IsMin (m : Int) (ns : List Int) : Prop := m ∈ ns ∧ ∀ k ∈ ns, m ≤ k
def IsMax (m : Int) (ns : List Int) : Prop := m ∈ ns ∧ ∀ k ∈ ns, k ≤ m
theorem IsMin.uniq {m n : Int} {ns : List Int} (h : IsMin m ns) (k : IsMin n ns) : m = n := Int.le_antisymm (h.2 n k.1) (k.2 m h.1)
theorem IsMax.uniq {m n : Int} {ns : List Int} (h : IsMax m ns) (k : IsMax n ns) : m = n := Int.le_antisymm (k.2 m h.1) (h.2 n k.1)
def spBounds (K : PySem.W.Frag) : Sp := fun vs H Q _ => ∃ (x : V) (k : List Blk × List Blk), vs = [x] ∧ Dq K H x (knD k) ∧ k.1 ++ k.2 ≠ [] ∧ (k.1 ++ k.2).length ≤ 1000 ∧
  ∀ (m1 m2 : Int) (t : Addr) H', Same H H' → H t = none → IsMin m1 ((k.1 ++ k.2).map fun b => (b.1 : Int)) → IsMax m2 ((k.1 ++ k.2).map fun b => (b.2.1 : Int)) → H' t = some (.tup [.int m1, .int m2]) → Q (.ref t) H'
theorem knD_of {K : PySem.W.Frag} {H : Hp} {x : V} {k : List Blk × List Blk} (h : Dq K H x (knD k)) : ∃ (r : Addr) (y0 y1 : V), x = .ref r ∧ SqT K H r [y0, y1] ∧ Dq K H y0 (.tuple (k.1.map blkD)) ∧ Dq K H y1 (.tuple (k.2.map blkD)) := by
  unfold knD at h
  cases h with
  | @tup r xs ds h1 h2 =>
    cases h2 with
    | @cons y0 _ _ _ a h2 => cases h2 with
      | @cons y1 _ _ _ b h2 =>
        cases h2
        exact ⟨r, y0, y1, rfl, h1, a, b⟩
end XR
namespace K62
open PySem L2 XR KT
section
variable {P : Program} {w : World} {K : PySem.W.Frag} {mg : Str → Option Value} {base : Heap}
abbrev sBounds : Stmt := top 25
abbrev nBounds : List Str := ["knot", "blocks", "block"]
theorem scBounds : FnScope nBounds ["knot"] (defScope sBounds) := ⟨rfl, rfl, rfl, by decide +kernel, rfl, by decide +kernel, by decide +kernel⟩
theorem ok_bounds {f : Addr} {fd : FuncData} (F : Fun K "bounds_of" "bounds_of" sBounds f fd) (T : Blt mg) : FnOk P w K mg base CX0 1 f fd ["knot"] (spBounds K) := by
  refine F.ok scBounds (fun vs H Q E h => ?_) (fun cdv A outer s H vs Q E hr h => ?_)
  · obtain ⟨x, k, rfl, _⟩ := h
    rfl
  · obtain ⟨x, k, rfl, hx, hne, hlen, z⟩ := h
    refine ⟨_, pss_cons (ps_set (i := 1) scBounds.nd rfl (.inl rfl) (pe_op op_catA (pe_ix ix_tup (pv 0) pe_int (fun _ _ => rfl)) (pe_ix ix_tup (pv 0) pe_int (fun _ _ => rfl))))
      (pss_one (ps_ret (pe_tup (pa_cons (pe_callB (cr_min rfl) (by rfl) T.min (by decide +kernel) (pa_cons (pe_lc (own := [("block", 2)]) (g := gName 2) (tt := tYes) (te := tOp (rIxT K) (tVar 2) (tC (.int 0))) rfl scBounds.nd (pi_tup (pv 1))
            (blkOk_by (own := [("block", 2)]) (N := nBounds) (sc := defScope sBounds) (by decide +kernel)) (fun _ _ _ _ _ => pg_name (i := 2) scBounds.nd rfl (.inl rfl)) (fun _ _ _ _ _ => pts_nil) (fun _ _ _ _ _ => pe_ix ix_tup (pv 2) pe_int (fun _ _ => rfl))) pa_nil))
        (pa_cons (pe_callB (cr_max rfl) (by rfl) T.max (by decide +kernel) (pa_cons (pe_lc (own := [("block", 2)]) (g := gName 2) (tt := tYes) (te := tOp (rIxT K) (tVar 2) (tC (.int 1))) rfl scBounds.nd (pi_tup (pv 1))
            (blkOk_by (own := [("block", 2)]) (N := nBounds) (sc := defScope sBounds) (by decide +kernel)) (fun _ _ _ _ _ => pg_name (i := 2) scBounds.nd rfl (.inl rfl)) (fun _ _ _ _ _ => pts_nil) (fun _ _ _ _ _ => pe_ix ix_tup (pv 2) pe_int (fun _ _ => rfl))) pa_nil)) pa_nil))))), ?_⟩
    obtain ⟨r, y0, y1, rfl, hr1, d0, d1⟩ := knD_of hx
    refine ⟨_, rfl, r, _, _, _, rfl, rfl, hr1, atI_nat (j := 0) rfl, _, rfl, r, _, _, _, rfl, rfl, hr1, atI_nat (j := 1) rfl, ?_⟩
    refine cat_dq d0 d1 (by rw [List.length_map, List.length_map, ← List.length_append]; exact Nat.le_trans hlen (by decide)) fun t ys H1 s1 ht hys => ?_
    rw [← List.map_append] at hys
    have hta := ht
    have s1a : Same H1 H1 := fun _ _ h => h
    generalize k.1 ++ k.2 = bs at hne hlen z hys ⊢
    have lys : ys.length = bs.length := by rw [hys.length, List.length_map]
    have lpos : 0 < bs.length := by
      rcases Nat.eq_zero_or_pos bs.length with e | e
      · exact absurd (List.eq_nil_of_length_eq_zero e) hne
      · exact e
    refine ⟨_, rfl, t, rfl, ⟨_, ht⟩, fun D nD => ?_⟩
    refine lc_tup (K := K) (a := t) (xs := ys) (fun j Hx => Same H1 Hx ∧ Hx D = some (.lst (((bs.take j).map fun b => (b.1 : Int)).map V.int))) ⟨same_upd nD, upd_same⟩ (fun j Hx _ hh => XR.Same.tup hh.1 hta) ?_ ?_
    · rintro j x Hx hx ⟨sx, hD⟩
      obtain ⟨d, hd1, hd2⟩ := hys.get hx
      rw [List.getElem?_map] at hd1
      obtain ⟨b, hbj, rfl⟩ := Option.map_eq_some_iff.mp hd1
      obtain ⟨r, rfl, hr1⟩ := blk_of hd2
      have hr2 := XR.Same.tup (s1a.trans sx) hr1
      refine ⟨rfl, ?_⟩
      unfold tYes
      dsimp only
      rw [if_pos rfl]
      refine ⟨_, rfl, r, _, _, _, rfl, rfl, hr2, atI_nat (j := 0) rfl, _, hD, ?_, fun b' o' h => ?_, ?_⟩
      · rw [List.length_map, List.length_map, List.length_take]
        exact Nat.lt_of_le_of_lt (Nat.le_trans (Nat.min_le_right _ _) hlen) (by decide)
      · rw [upd_ne (ne_of_none h nD)]
        exact sx _ _ h
      · rw [upd_same, List.take_add_one, hbj, List.map_append, List.map_append]
        rfl
    rintro H2 ⟨s2, hD⟩
    rw [lys, List.take_length] at hD
    refine ⟨D, _, rfl, SqL.of hD, by rw [List.length_map]; exact lpos, fun m1 a1 a2 => ?_⟩
    have htb := XR.Same.tup s2 ht
    have s1b := s2
    refine ⟨_, rfl, t, rfl, ⟨_, htb⟩, fun D3 nD3 => ?_⟩
    refine lc_tup (K := K) (a := t) (xs := ys) (fun j Hx => Same H2 Hx ∧ Hx D3 = some (.lst (((bs.take j).map fun b => (b.2.1 : Int)).map V.int))) ⟨same_upd nD3, upd_same⟩ (fun j Hx _ hh => XR.Same.tup hh.1 htb) ?_ ?_
    · rintro j x Hx hx ⟨sx, hD⟩
      obtain ⟨d, hd1, hd2⟩ := hys.get hx
      rw [List.getElem?_map] at hd1
      obtain ⟨b, hbj, rfl⟩ := Option.map_eq_some_iff.mp hd1
      obtain ⟨r, rfl, hr1⟩ := blk_of hd2
      have hr2 := XR.Same.tup (s1b.trans sx) hr1
      refine ⟨rfl, ?_⟩
      unfold tYes
      dsimp only
      rw [if_pos rfl]
      refine ⟨_, rfl, r, _, _, _, rfl, rfl, hr2, atI_nat (j := 1) rfl, _, hD, ?_, fun b' o' h => ?_, ?_⟩
      · rw [List.length_map, List.length_map, List.length_take]
        exact Nat.lt_of_le_of_lt (Nat.le_trans (Nat.min_le_right _ _) hlen) (by decide)
      · rw [upd_ne (ne_of_none h nD3)]
        exact sx _ _ h
      · rw [upd_same, List.take_add_one, hbj, List.map_append, List.map_append]
        rfl
    rintro H3 ⟨s3, hD3⟩
    rw [lys, List.take_length] at hD3
    refine ⟨D3, _, rfl, SqL.of hD3, by rw [List.length_map]; exact lpos, fun m2 b1 b2 => ?_⟩
    refine ⟨ll20 (by show 2 ≤ 20; decide), fun q nq => ?_⟩
    exact z m1 m2 q _ (((s1.trans s2).trans s3).trans (same_upd nq)) (none_before ((s1.trans s2).trans s3) nq) ⟨a1, a2⟩ ⟨b1, b2⟩ upd_same
end
end K62
namespace XR
open PySem L2 KT
def OkS (ss : List Str) : Prop := ∀ s ∈ ss, PyData.strOk s = true
def goOnly (bs : List Blk) : Bool := (bs.map fun b => decide ((b.2.2.1 : Int) = (b.2.2.2 : Int))).all id
/-- the kind of a knot -/
def kindL (k : List Blk × List Blk) (ss1 ss2 : List Str) : Str :=
  if goOnly (k.1 ++ k.2) = true then "going" else if (k.1 ++ k.2).length = 1 then (if k.1.isEmpty then "two" else "one") else
    match k with
    | ([b], [c]) => if b.1 = c.1 ∧ b.2.1 = c.2.1 then (if seg ss1 b.2.2.1 b.2.2.2 = seg ss2 c.2.2.1 c.2.2.2 then "alike" else "clash") else "clash"
    | _ => "clash"
def InTx (bs : List Blk) (ss : List Str) : Prop := ∀ b ∈ bs, b.2.2.1 ≤ b.2.2.2 ∧ b.2.2.2 ≤ ss.length
def spKind (K : PySem.W.Frag) : Sp := fun vs H Q _ => ∃ (x y1 y2 : V) (k : List Blk × List Blk) (ss1 ss2 : List Str), vs = [x, y1, y2] ∧ Dq K H x (knD k) ∧ TxA K H y1 ss1 ∧ TxA K H y2 ss2 ∧ ss1.length ≤ 60 ∧ ss2.length ≤ 60 ∧ OkS ss1 ∧ OkS ss2 ∧ InTx k.1 ss1 ∧ InTx k.2 ss2 ∧ (k.1 ++ k.2).length ≤ 1000 ∧
  ∀ H', Same H H' → Q (.str (kindL k ss1 ss2)) H'
theorem strs_lay : ∀ {ss : List Str}, OkS ss → PyData.canLayAll0 (ss.map PyData.str) = true ∧ PyData.depthAll (ss.map PyData.str) ≤ 1
  | [], _ => ⟨by simp [PyData.canLayAll0], by simp [PyData.depthAll]⟩
  | s :: ss, h => by
    obtain ⟨h1, h2⟩ := strs_lay (ss := ss) fun x hx => h x (List.mem_cons_of_mem _ hx)
    have h0 := h s (List.mem_cons_self ..)
    exact ⟨by simp [PyData.canLayAll0, PyData.canLay0, h0, h1], by simp [PyData.depthAll, PyData.depth]; exact h2⟩
theorem strs_shaped {ss : List Str} (h : OkS ss) : SeqAt.shaped (.list (ss.map PyData.str)) = true := by
  obtain ⟨h1, h2⟩ := strs_lay h
  unfold SeqAt.shaped
  rw [Bool.and_eq_true, decide_eq_true_eq]
  refine ⟨by simp only [PyData.canLay0, h1], ?_⟩
  have e : (PyData.list (ss.map PyData.str)).depth = PyData.depthAll (ss.map PyData.str) + 1 := by simp only [PyData.depth]
  omega
theorem strs_dp {K : PySem.W.Frag} {H : Hp} : ∀ ss : List Str, DpAll K H (ss.map V.str) (ss.map PyData.str)
  | [] => .nil
  | s :: ss => .cons (.str s) (strs_dp ss)
theorem strs_eqv : ∀ as bs : List Str, PyData.eqvAll (as.map PyData.str) (bs.map PyData.str) = decide (as = bs)
  | [], [] => by simp [PyData.eqvAll]
  | [], b :: bs => by simp [PyData.eqvAll]
  | a :: as, [] => by simp [PyData.eqvAll]
  | a :: as, b :: bs => by
    rw [List.map_cons, List.map_cons, PyData.eqvAll, strs_eqv as bs]
    simp only [PyData.eqv]
    by_cases h1 : a = b
    · by_cases h2 : as = bs
      · subst h1 h2; simp
      · rw [decide_eq_false h2, Bool.and_false, decide_eq_false (fun e => h2 (by injection e))]
    · rw [show (a == b) = false from by simpa using h1, Bool.false_and, decide_eq_false (fun e => h1 (by injection e))]
theorem seg_ok {ss : List Str} (h : OkS ss) (a b : Nat) : OkS (seg ss a b) := fun s hs => h s (List.mem_of_mem_drop (List.mem_of_mem_take hs))
theorem two_shaped (a b : Int) : SeqAt.shaped (.tuple [.int a, .int b]) = true := by
  unfold SeqAt.shaped
  simp [PyData.canLay0, PyData.canLayAll0, PyData.depth, PyData.depthAll]
theorem two_eqv (a b c d : Nat) : PyData.eqv (.tuple [.int (a : Int), .int (b : Int)]) (.tuple [.int (c : Int), .int (d : Int)]) = decide (a = c ∧ b = d) := by
  simp only [PyData.eqv, PyData.eqvAll, Bool.and_true]
  by_cases h1 : a = c
  · by_cases h2 : b = d
    · subst h1 h2; simp
    · rw [decide_eq_false (fun e => h2 e.2), show ((b : Int) == (d : Int)) = false from by simpa using fun e => h2 (by omega), Bool.and_false]
  · rw [decide_eq_false (fun e => h1 e.1), show ((a : Int) == (c : Int)) = false from by simpa using fun e => h1 (by omega), Bool.false_and]
theorem tup_of {K : PySem.W.Frag} {H : Hp} {x : V} {ds : List PyData} (h : Dq K H x (.tuple ds)) : ∃ (a : Addr) (xs : List V), x = .ref a ∧ SqT K H a xs ∧ DqAll K H xs ds := by
  cases h with
  | tup h1 h2 => exact ⟨_, _, rfl, h1, h2⟩
theorem dec_i (i j : Int) : decide (V.int i = V.int j) = decide (i = j) := by
  by_cases e : i = j
  · rw [e, decide_eq_true rfl, decide_eq_true rfl]
  · rw [decide_eq_false e, decide_eq_false (fun h => e (by injection h))]
theorem cut2 (a b c d : V) : cutV [a, b, c, d] none (some 2) = [a, b] := by
  unfold cutV HT.sIx
  rfl
end XR
namespace K62
open PySem L2 XR KT
section
variable {P : Program} {w : World} {K : PySem.W.Frag} {mg : Str → Option Value} {base : Heap}
abbrev sKind : Stmt := top 28
abbrev nKind : List Str := ["knot", "one", "two", "ones", "twos", "_", "c", "d"]
theorem scKind : FnScope nKind ["knot", "one", "two"] (defScope sKind) := ⟨rfl, rfl, rfl, by decide +kernel, rfl, by decide +kernel, by decide +kernel⟩
theorem ok_kind {f fL : Addr} {fd fdL : FuncData} (F : Fun K "kind_of" "kind_of" sKind f fd) (T : Blt mg)
    (FL : Fun K "lines_come" "lines_come" sLines fL fdL) (GL : FnOk P w K mg base CX0 1 fL fdL ["text", "block"] (spLines K)) (bL : Binds K fdL ["text", "block"] []) (mL : mg "lines_come" = some (.ref fL)) : FnOk P w K mg base CX0 2 f fd ["knot", "one", "two"] (spKind K) := by
  refine F.ok scKind (fun vs H Q E h => ?_) (fun cdv A outer s H vs Q E hr h => ?_)
  · obtain ⟨x, y1, y2, k, ss1, ss2, rfl, _⟩ := h
    rfl
  · obtain ⟨x, y1, y2, k, ss1, ss2, rfl, hx, t1, t2, l1, l2, o1, o2, i1, i2, hlen, z⟩ := h
    refine ⟨_, pss_cons (ps_asg (pv 0) (pg_tup rfl (pgs_cons (pg_name (i := 3) scKind.nd rfl (.inl rfl)) (pgs_cons (pg_name (i := 4) scKind.nd rfl (.inl rfl)) pgs_nil))))
      (pss_cons (ps_if (pt_val (pe_callB (cr_all rfl) (by rfl) (T.all "all" (by decide)) (by decide +kernel) (pa_cons (pe_lc (own := [("_", 5), ("c", 6), ("d", 7)]) (g := gTup K 4 (gCons (gName 5) (gCons (gName 5) (gCons (gName 6) (gCons (gName 7) gNil))))) (tt := tYes) (te := tOp rEq (tVar 6) (tVar 7)) rfl scKind.nd (pi_tup (pe_op op_catA (pv 3) (pv 4)))
          (blkOk_by (own := [("_", 5), ("c", 6), ("d", 7)]) (N := nKind) (sc := defScope sKind) (by decide +kernel)) (fun _ _ _ _ _ => pg_tup rfl (pgs_cons (pg_name (i := 5) scKind.nd rfl (.inl rfl)) (pgs_cons (pg_name (i := 5) scKind.nd rfl (.inl rfl)) (pgs_cons (pg_name (i := 6) scKind.nd rfl (.inl rfl)) (pgs_cons (pg_name (i := 7) scKind.nd rfl (.inl rfl)) pgs_nil))))) (fun _ _ _ _ _ => pts_nil) (fun _ _ _ _ _ => pe_cmpR op_eq (pv 6) (pv 7) (nomark _))) pa_nil))) (pss_one (ps_ret pe_str)) pss_nil)
      (pss_cons (ps_if (pt_cmpR op_eq (pe_callB call_len_seq (by rfl) T.len PySem.boot_len (pa_cons (pe_op op_catA (pv 3) (pv 4)) pa_nil)) pe_int (nomark _)) (pss_one (ps_ret (pe_ifExp (pt_truth (pv 3) (fun _ => rfl)) pe_str pe_str))) pss_nil)
      (pss_cons (ps_if (PW.pt (pw_and (pt_chain op_eq op_eq (pe_callB call_len_seq (by rfl) T.len PySem.boot_len (pa_cons (pv 3) pa_nil)) (pe_callB call_len_seq (by rfl) T.len PySem.boot_len (pa_cons (pv 4) pa_nil)) pe_int)
            (pw_and1 (pt_cmpR (op_eqD hr.units) (pe_slice sl_tupA (pe_ix ix_tup (pv 3) pe_int (fun _ _ => rfl)) po_none (po_some pe_int)) (pe_slice sl_tupA (pe_ix ix_tup (pv 4) pe_int (fun _ _ => rfl)) po_none (po_some pe_int)) (nomark _)))))
          (pss_one (ps_ret (pe_ifExp (pt_cmpR (op_eqD hr.units) (pe_call GL hr rfl mL FL.kp bL .nil pass0 (pa_cons (pv 1) (pa_cons (pe_ix ix_tup (pv 3) pe_int (fun _ _ => rfl)) pa_nil))) (pe_call GL hr rfl mL FL.kp bL .nil pass0 (pa_cons (pv 2) (pa_cons (pe_ix ix_tup (pv 4) pe_int (fun _ _ => rfl)) pa_nil))) (nomark _)) pe_str pe_str))) pss_nil)
      (pss_one (ps_ret pe_str))))), ?_⟩
    obtain ⟨r, v0, v1, rfl, hr1, d0, d1⟩ := knD_of hx
    obtain ⟨a0, xs0, rfl, q0, e0⟩ := tup_of d0
    obtain ⟨a1, xs1, rfl, q1, e1⟩ := tup_of d1
    have len0 : xs0.length = k.1.length := by rw [e0.length, List.length_map]
    have len1 : xs1.length = k.2.length := by rw [e1.length, List.length_map]
    refine ⟨_, rfl, r, _, rfl, hr1, rfl, _, _, rfl, _, _, rfl, rfl, ?_⟩
    refine ⟨_, rfl, _, rfl, ?_⟩
    have hl2 : (k.1.map blkD).length + (k.2.map blkD).length ≤ sizeLine := by rw [List.length_map, List.length_map, ← List.length_append]; exact Nat.le_trans hlen (by decide)
    refine cat_dq d0 d1 hl2 fun t ys H1 s1 ht hys => ?_
    rw [← List.map_append] at hys
    have lys : ys.length = (k.1 ++ k.2).length := by rw [hys.length, List.length_map]
    refine ⟨t, rfl, ⟨_, ht⟩, fun D nD => ?_⟩
    refine lc_tup (K := K) (a := t) (xs := ys) (fun j Hx => Same H1 Hx ∧ Hx D = some (.lst ((((k.1 ++ k.2).take j).map fun b => decide ((b.2.2.1 : Int) = (b.2.2.2 : Int))).map V.bl))) ⟨same_upd nD, upd_same⟩ (fun j Hx _ hh => XR.Same.tup hh.1 ht) ?_ ?_
    · rintro j x Hx hx ⟨sx, hD⟩
      obtain ⟨d, hd1, hd2⟩ := hys.get hx
      rw [List.getElem?_map] at hd1
      obtain ⟨b, hbj, rfl⟩ := Option.map_eq_some_iff.mp hd1
      obtain ⟨r, rfl, hr2⟩ := blk_of hd2
      have hr3 := XR.Same.tup sx hr2
      refine ⟨r, _, rfl, hr3, rfl, _, _, rfl, _, _, rfl, _, _, rfl, _, _, rfl, rfl, rfl, ?_⟩
      unfold tYes
      dsimp only
      rw [if_pos rfl]
      refine ⟨_, rfl, _, rfl, rfl, _, hD, ?_, fun b' o' h => ?_, ?_⟩
      · rw [List.length_map, List.length_map, List.length_take]
        exact Nat.lt_of_le_of_lt (Nat.le_trans (Nat.min_le_right _ _) hlen) (by decide)
      · rw [upd_ne (ne_of_none h nD)]
        exact sx _ _ h
      · rw [upd_same, dec_i, List.take_add_one, hbj, List.map_append, List.map_append]
        rfl
    rintro H2 ⟨s2, hD⟩
    rw [lys, List.take_length] at hD
    have s12 := s1.trans s2
    refine ⟨D, _, rfl, SqL.of hD, _, rfl, ?_⟩
    by_cases cg : goOnly (k.1 ++ k.2) = true
    · have ek : kindL k ss1 ss2 = "going" := by unfold kindL; rw [if_pos cg]
      rw [ek] at z
      rw [show ((k.1 ++ k.2).map fun b => decide ((b.2.2.1 : Int) = (b.2.2.2 : Int))).all id = true from cg]
      exact iteT (z _ s12)
    have cg' : goOnly (k.1 ++ k.2) = false := by
      cases e : goOnly (k.1 ++ k.2) with
      | true => exact absurd e cg
      | false => rfl
    rw [show ((k.1 ++ k.2).map fun b => decide ((b.2.2.1 : Int) = (b.2.2.2 : Int))).all id = false from cg']
    refine iteF ⟨_, rfl, _, rfl, ?_⟩
    refine cat_dq (d0.same s12) (d1.same s12) hl2 fun t' ys' H3 s3 ht' hys' => ?_
    have lys' : ys'.length = (k.1 ++ k.2).length := by rw [hys'.length, List.length_append, List.length_append, List.length_map, List.length_map]
    have s13 := s12.trans s3
    refine ⟨t', _, rfl, .inr ht', rfl, _, rfl, ?_⟩
    rw [dec_i, lys']
    by_cases c1 : (k.1 ++ k.2).length = 1
    · rw [decide_eq_true (show ((k.1 ++ k.2).length : Int) = 1 by omega)]
      have q0' := XR.Same.tup s13 q0
      refine iteT ⟨_, rfl, !xs0.isEmpty, .inr (.inl ⟨xs0, q0', rfl⟩), ?_⟩
      have em : xs0.isEmpty = k.1.isEmpty := by
        cases hx0 : xs0 with
        | nil =>
          rw [hx0] at len0
          rw [List.eq_nil_of_length_eq_zero (show k.1.length = 0 from len0.symm)]
          rfl
        | cons y yt =>
          rw [hx0] at len0
          cases hk : k.1 with
          | nil => rw [hk] at len0; simp at len0
          | cons b bt => rfl
      rw [em]
      have ek : kindL k ss1 ss2 = if k.1.isEmpty then ("two" : Str) else ("one" : Str) := by unfold kindL; rw [if_neg cg, if_pos c1]
      rw [ek] at z
      cases hk : k.1.isEmpty with
      | true =>
        rw [hk] at z
        exact iteF (z _ s13)
      | false =>
        rw [hk] at z
        exact iteT (z _ s13)
    · rw [decide_eq_false (show ¬ ((k.1 ++ k.2).length : Int) = 1 by omega)]
      refine iteF ?_
      have q0' := XR.Same.tup s13 q0
      have q1' := XR.Same.tup s13 q1
      refine ⟨_, rfl, a0, xs0, rfl, .inr q0', _, rfl, a1, xs1, rfl, .inr q1', rfl, _, rfl, ?_⟩
      rw [dec_i, len0, len1]
      have clash : ∀ {H'}, Same H H' → ¬ (k.1.length = 1 ∧ k.2.length = 1) → Q (.str "clash") H' := fun {H'} sm n => by
        have ek : kindL k ss1 ss2 = "clash" := by
          unfold kindL
          rw [if_neg cg, if_neg c1]
          obtain ⟨k1, k2⟩ := k
          match k1, k2, n with
          | [], _, _ => rfl
          | [_], [], _ => rfl
          | [_], [_], n => exact absurd ⟨rfl, rfl⟩ n
          | [_], _ :: _ :: _, _ => rfl
          | _ :: _ :: _, _, _ => rfl
        rw [ek] at z
        exact z _ sm
      by_cases c2 : k.1.length = k.2.length
      · rw [decide_eq_true (show (k.1.length : Int) = (k.2.length : Int) by omega), if_pos rfl]
        refine ⟨rfl, _, rfl, ?_⟩
        rw [dec_i]
        by_cases c3 : k.2.length = 1
        · rw [decide_eq_true (show (k.2.length : Int) = 1 by omega)]
          refine iteT ?_
          obtain ⟨k1, k2⟩ := k
          dsimp only at c2 c3 len0 len1 e0 e1 i1 i2
          obtain ⟨b, rfl⟩ := List.length_eq_one_iff.mp (c2.trans c3)
          obtain ⟨c, rfl⟩ := List.length_eq_one_iff.mp c3
          obtain ⟨x0, rfl⟩ := List.length_eq_one_iff.mp (show xs0.length = 1 by rw [len0]; rfl)
          obtain ⟨x1, rfl⟩ := List.length_eq_one_iff.mp (show xs1.length = 1 by rw [len1]; rfl)
          have db : Dq K H x0 (blkD b) := by cases e0 with | cons h _ => exact h
          have dc : Dq K H x1 (blkD c) := by cases e1 with | cons h _ => exact h
          obtain ⟨rb, rfl, hb⟩ := blk_of (db.same s13)
          obtain ⟨rc, rfl, hc⟩ := blk_of (dc.same s13)
          refine ⟨_, rfl, a0, _, _, _, rfl, rfl, q0', atI_nat (j := 0) rfl, _, rfl, rb, _, rfl, hb, (fun hw => absurd (show (2 : Nat) = 4 from hw.2) (by decide)), fun _ p np => ?_⟩
          rw [cut2]
          have sp := same_upd (o := .tup [V.int (b.1 : Int), V.int (b.2.1 : Int)]) np
          have hp := upd_same (H := H3) (a := p) (o := .tup [V.int (b.1 : Int), V.int (b.2.1 : Int)])
          refine ⟨_, rfl, a1, _, _, _, rfl, rfl, XR.Same.tup sp q1', atI_nat (j := 0) rfl, _, rfl, rc, _, rfl, XR.Same.tup sp hc, (fun hw => absurd (show (2 : Nat) = 4 from hw.2) (by decide)), fun _ p2 np2 => ?_⟩
          rw [cut2]
          have sp2 := same_upd (o := .tup [V.int (c.1 : Int), V.int (c.2.1 : Int)]) np2
          have s14 := (s13.trans sp).trans sp2
          refine ⟨.tuple [.int (b.1 : Int), .int (b.2.1 : Int)], .tuple [.int (c.1 : Int), .int (c.2.1 : Int)], .tup (SqT.of (sp2 _ _ hp)) (.cons (.int _) (.cons (.int _) .nil)), .tup (SqT.of upd_same) (.cons (.int _) (.cons (.int _) .nil)), two_shaped _ _, two_shaped _ _, _, rfl, ?_⟩
          rw [two_eqv]
          by_cases c4 : b.1 = c.1 ∧ b.2.1 = c.2.1
          · rw [decide_eq_true c4]
            obtain ⟨ib1, ib2⟩ := i1 b (List.mem_singleton.mpr rfl)
            obtain ⟨ic1, ic2⟩ := i2 c (List.mem_singleton.mpr rfl)
            have q0n := XR.Same.tup (sp.trans sp2) q0'
            have q1n := XR.Same.tup (sp.trans sp2) q1'
            refine iteT ⟨_, rfl, _, rfl, a0, _, _, _, rfl, rfl, q0n, atI_nat (j := 0) rfl, _, _, ss1, b, rfl, t1.same s14, db.same s14, ib1, ib2, l1, fun la Ha sa na hla => ?_⟩
            have q1a := XR.Same.tup sa q1n
            have s1a := s14.trans sa
            refine ⟨_, rfl, _, rfl, a1, _, _, _, rfl, rfl, q1a, atI_nat (j := 0) rfl, _, _, ss2, c, rfl, t2.same s1a, dc.same s1a, ic1, ic2, l2, fun lb Hb sb nb hlb => ?_⟩
            refine ⟨.list ((seg ss1 b.2.2.1 b.2.2.2).map .str), .list ((seg ss2 c.2.2.1 c.2.2.2).map .str), .lst (SqL.of (sb _ _ hla)) (strs_dp _), .lst (SqL.of hlb) (strs_dp _), strs_shaped (seg_ok o1 _ _), strs_shaped (seg_ok o2 _ _), _, rfl, ?_⟩
            rw [show PyData.eqv (.list ((seg ss1 b.2.2.1 b.2.2.2).map .str)) (.list ((seg ss2 c.2.2.1 c.2.2.2).map .str)) = PyData.eqvAll ((seg ss1 b.2.2.1 b.2.2.2).map .str) ((seg ss2 c.2.2.1 c.2.2.2).map .str) from by simp [PyData.eqv], strs_eqv]
            have ek : kindL ([b], [c]) ss1 ss2 = if seg ss1 b.2.2.1 b.2.2.2 = seg ss2 c.2.2.1 c.2.2.2 then ("alike" : Str) else ("clash" : Str) := by
              unfold kindL
              rw [if_neg cg, if_neg c1]
              exact if_pos c4
            rw [ek] at z
            by_cases c5 : seg ss1 b.2.2.1 b.2.2.2 = seg ss2 c.2.2.1 c.2.2.2
            · rw [if_pos c5] at z
              rw [decide_eq_true c5]
              exact iteT (z _ (s1a.trans sb))
            · rw [if_neg c5] at z
              rw [decide_eq_false c5]
              exact iteF (z _ (s1a.trans sb))
          · rw [decide_eq_false c4]
            have ek : kindL ([b], [c]) ss1 ss2 = "clash" := by
              unfold kindL
              rw [if_neg cg, if_neg c1]
              exact if_neg c4
            rw [ek] at z
            exact iteF (z _ s14)
        · rw [decide_eq_false (show ¬ (k.2.length : Int) = 1 by omega)]
          exact iteF (clash s13 fun h => c3 h.2)
      · rw [decide_eq_false (show ¬ (k.1.length : Int) = (k.2.length : Int) by omega), if_neg (by decide)]
        exact ⟨_, rfl, iteF (clash s13 fun h => c2 (h.1.trans h.2.symm))⟩
end
end K62
namespace XR
open PySem L2 KT
theorem lc_out {J : It} {n : Nat} {G : Hp → Prop} {Y : Nat → Hp → V → Hp → Prop} (w : Walk J n G Y) {H0 : Hp} {Qd : Hp → Prop} {B : (Hp → Prop) → V → Hp → Prop} (Pv : Nat → Hp → Prop) (h0 : Pv 0 H0) (hG : ∀ i H, i ≤ n → Pv i H → G H)
    (hs : ∀ i x H H', i < n → Pv i H → Y i H x H' → B (Pv (i + 1)) x H') (hd : ∀ H, Pv n H → Qd H) :
    ∃ W : Nat → Nat → Hp → Prop, (∃ m, W 0 m H0) ∧ ∀ i m H, W i m H →
      (J.stop i H ∧ Qd H) ∨ (J.go i H ∧ ∃ Nx : Hp → Prop, (∀ H', Nx H' → ∃ m', m' < m ∧ W (i + 1) m' H') ∧ ∀ x H', J.yld i H x H' → B Nx x H') := by
  refine ⟨fun i m H => m = n - i ∧ i ≤ n ∧ Pv i H, ⟨n, by simp, Nat.zero_le _, h0⟩, ?_⟩
  rintro i m H ⟨rfl, hi, p⟩
  have q := hG i H hi p
  by_cases hlt : i < n
  · exact .inr ⟨w.goes i H hlt q, Pv (i + 1), fun H' h => ⟨n - (i + 1), by omega, rfl, hlt, h⟩, fun x H' y => hs i x H H' hlt p (w.yields i H x H' hlt q y)⟩
  · have e : i = n := by omega
    subst e
    exact .inl ⟨w.stops H q, hd H p⟩
theorem wipe_one {σ : St} {i : Nat} {x : Option V} : wipe ((wipe σ [i]).set i x) [i] = wipe σ [i] := by
  show ((σ.set i none).set i x).set i none = σ.set i none
  rw [List.set_set, List.set_set]
/-- the numbers that come in a block -/
def numB (b : Blk) : List Nat := (List.range (b.2.2.2 - b.2.2.1)).map fun i => b.2.2.1 + 1 + i
def numsB (bs : List Blk) : List Nat := bs.flatMap numB
theorem numB_mem {b : Blk} {x : Nat} : x ∈ numB b ↔ b.2.2.1 < x ∧ x ≤ b.2.2.2 := by
  unfold numB
  rw [List.mem_map]
  constructor
  · rintro ⟨i, hi, rfl⟩
    have := List.mem_range.mp hi
    omega
  · intro ⟨h1, h2⟩
    exact ⟨x - b.2.2.1 - 1, List.mem_range.mpr (by omega), by omega⟩
theorem numB_len (b : Blk) : (numB b).length = b.2.2.2 - b.2.2.1 := by unfold numB; rw [List.length_map, List.length_range]
theorem numsB_len {bs : List Blk} {m : Nat} (h : ∀ b ∈ bs, b.2.2.2 ≤ m) : (numsB bs).length ≤ m * bs.length := by
  induction bs with
  | nil => exact Nat.zero_le _
  | cons b bs ih =>
    have i := ih fun x hx => h x (List.mem_cons_of_mem _ hx)
    have h0 := h b (List.mem_cons_self ..)
    unfold numsB at i ⊢
    rw [List.flatMap_cons, List.length_append, numB_len, List.length_cons, Nat.mul_succ]
    omega
theorem intsV_app (a b : List Nat) : intsV (a ++ b) = intsV a ++ intsV b := by unfold intsV; rw [List.map_append]
/-- the numbers that come in some blocks, in a new list -/
def spNCome (K : PySem.W.Frag) : Sp := fun vs H Q _ => ∃ (x : V) (bs : List Blk), vs = [x] ∧ Dq K H x (.tuple (bs.map blkD)) ∧ (∀ b ∈ bs, b.2.2.1 ≤ b.2.2.2 ∧ b.2.2.2 ≤ 60) ∧ bs.length ≤ 100 ∧
  ∀ l H', Same H H' → H l = none → H' l = some (.lst (intsV (numsB bs))) → Q (.ref l) H'
end XR
namespace K62
open PySem L2 XR KT
section
variable {P : Program} {w : World} {K : PySem.W.Frag} {mg : Str → Option Value} {base : Heap}
abbrev sNCome : Stmt := top 35
abbrev nNCome : List Str := ["blocks", "_", "c", "d", "j"]
theorem scNCome : FnScope nNCome ["blocks"] (defScope sNCome) := ⟨rfl, rfl, rfl, by decide +kernel, rfl, by decide +kernel, by decide +kernel⟩
theorem ok_nCome {f : Addr} {fd : FuncData} (F : Fun K "numbers_come" "numbers_come" sNCome f fd) (T : Blt mg) : FnOk P w K mg base CX0 1 f fd ["blocks"] (spNCome K) := by
  refine F.ok scNCome (fun vs H Q E h => ?_) (fun cdv A outer s H vs Q E hr h => ?_)
  · obtain ⟨x, bs, rfl, _⟩ := h
    rfl
  · obtain ⟨x, bs, rfl, hx, hb, hlen, z⟩ := h
    refine ⟨_, pss_one (ps_ret (pe_lc2 (own := [("_", 1), ("c", 2), ("d", 3), ("j", 4)]) (vs1 := [4]) (g := gTup K 4 (gCons (gName 1) (gCons (gName 1) (gCons (gName 2) (gCons (gName 3) gNil))))) (tt := tYes)
        (wi1 := iRng2 (tCons (tOp (rI0 fun i j => V.int (i + j)) (tVar 2) (tC (V.int 1))) (tCons (tOp (rI0 fun i j => V.int (i + j)) (tVar 3) (tC (V.int 1))) tNil))) (g1 := gName 4) (tt1 := tYes) (te := tVar 4) rfl scNCome.nd (pi_tup (pv 0))
        (blkOk_by (own := [("_", 1), ("c", 2), ("d", 3), ("j", 4)]) (N := nNCome) (sc := defScope sNCome) (by decide +kernel)) (by decide)
        (fun _ _ _ _ _ => pg_tup rfl (pgs_cons (pg_name (i := 1) scNCome.nd rfl (.inl rfl)) (pgs_cons (pg_name (i := 1) scNCome.nd rfl (.inl rfl)) (pgs_cons (pg_name (i := 2) scNCome.nd rfl (.inl rfl)) (pgs_cons (pg_name (i := 3) scNCome.nd rfl (.inl rfl)) pgs_nil))))) (fun _ _ _ _ _ => pts_nil)
        (fun _ _ _ _ _ => pi_range2 rfl T.range (pa_cons (pe_op op_add (pv 2) pe_int) (pa_cons (pe_op op_add (pv 3) pe_int) pa_nil))) (fun _ _ _ _ _ => pg_name (i := 4) scNCome.nd rfl (.inl rfl)) (fun _ _ _ _ _ => pts_nil) (fun _ _ _ _ _ => pv 4))), ?_⟩
    obtain ⟨t, xs, rfl, ht, hxs⟩ := tup_of hx
    have lxs : xs.length = bs.length := by rw [hxs.length, List.length_map]
    refine ⟨_, rfl, t, rfl, ⟨_, ht⟩, fun D nD => ?_⟩
    have cap : ∀ i, (numsB (bs.take i)).length ≤ 6000 := fun i => by
      refine Nat.le_trans (numsB_len (m := 60) fun b hb' => (hb b (List.mem_of_mem_take hb')).2) ?_
      rw [List.length_take]
      omega
    refine lc_out (walk_tup (K := K) (a := t) (xs := xs)) (fun i H' => Same H H' ∧ H' D = some (.lst (intsV (numsB (bs.take i))))) ⟨same_upd nD, upd_same⟩ (fun i H' _ hh => XR.Same.tup hh.1 ht) ?_ ?_
    · rintro i x Ha Hb hi ⟨sm, hD⟩ ⟨rfl, hx⟩
      obtain ⟨e, he1, he2⟩ := hxs.get hx
      rw [List.getElem?_map] at he1
      obtain ⟨b, hbi, rfl⟩ := Option.map_eq_some_iff.mp he1
      obtain ⟨b1, b2⟩ := hb b (List.mem_of_getElem? hbi)
      obtain ⟨r, rfl, hr1⟩ := blk_of (he2.same sm)
      refine ⟨r, _, rfl, hr1, rfl, _, _, rfl, _, _, rfl, _, _, rfl, _, _, rfl, rfl, rfl, ?_⟩
      unfold tYes
      dsimp only
      rw [if_pos rfl]
      refine ⟨_, rfl, _, _, rfl, rfl, _, rfl, _, _, rfl, rfl, _, _, rfl, ⟨by omega, by omega, by omega, by omega⟩, ?_⟩
      rw [show ((b.2.2.2 : Int) + 1 - ((b.2.2.1 : Int) + 1)).toNat = b.2.2.2 - b.2.2.1 by omega]
      refine lc_out (walk_range (lo := (b.2.2.1 : Int) + 1) (n := b.2.2.2 - b.2.2.1)) (fun j H' => Same H H' ∧ H' D = some (.lst (intsV (numsB (bs.take i) ++ (numB b).take j)))) ⟨sm, by rw [List.take_zero, List.append_nil]; exact hD⟩ (fun _ _ _ _ => trivial) ?_ ?_
      · rintro j y Hc Hd hj ⟨sc, hD2⟩ ⟨rfl, rfl⟩
        refine ⟨rfl, ?_⟩
        rw [if_pos rfl]
        have hn : (numB b)[j]? = some (b.2.2.1 + 1 + j) := by
          unfold numB
          rw [List.getElem?_map, List.getElem?_range hj]
          rfl
        refine ⟨_, rfl, _, hD2, ?_, fun b' o' h => ?_, ?_⟩
        · unfold intsV
          rw [List.length_map, List.length_append, List.length_take, numB_len]
          have := cap i
          exact Nat.lt_of_le_of_lt (show _ ≤ 6100 by omega) (by decide)
        · rw [upd_ne (ne_of_none h nD)]
          exact sc _ _ h
        · rw [upd_same, List.take_add_one, hn, ← List.append_assoc, intsV_app (numsB (bs.take i) ++ (numB b).take j)]
          have e : (b.2.2.1 : Int) + 1 + (j : Int) = ((b.2.2.1 + 1 + j : Nat) : Int) := by omega
          dsimp only
          rw [e]
          rfl
      · rintro H' ⟨sc, hD2⟩
        refine ⟨sc, ?_⟩
        rw [hD2, ← numB_len, List.take_length, List.take_add_one, hbi]
        unfold numsB
        rw [List.flatMap_append]
        simp
    rintro H' ⟨sm, hD⟩
    rw [lxs, List.take_length] at hD
    exact z D H' sm nD hD
end
end K62
namespace XR
open PySem L2 KT
def leN (a b : Nat) : Bool := decide (a ≤ b)
/-- the numbers of the lines that a version has within: kept ones and those that come in blocks -/
def keptIn (ps : List (Nat × Nat)) (a b : Nat) : List Nat := (ps.filter fun q => decide (a < q.1 ∧ q.1 ≤ b)).map (·.2)
def withinN (ps : List (Nat × Nat)) (bs : List Blk) (a b : Nat) : List Nat := (keptIn ps a b ++ numsB bs).mergeSort leN
def withinL (ss : List Str) (ps : List (Nat × Nat)) (bs : List Blk) (a b : Nat) : List Str := (withinN ps bs a b).map fun j => ss.getD (j - 1) ""
theorem leN_trans : ∀ a b c : Nat, leN a b = true → leN b c = true → leN a c = true := fun a b c h1 h2 => by
  unfold leN at *
  exact decide_eq_true (Nat.le_trans (of_decide_eq_true h1) (of_decide_eq_true h2))
theorem leN_total : ∀ a b : Nat, (leN a b || leN b a) = true := fun a b => by
  unfold leN
  rw [Bool.or_eq_true, decide_eq_true_iff, decide_eq_true_iff]
  omega
theorem sortedN {ns : List Int} {l : List Nat} (p : ns.Perm (l.map fun i : Nat => (i : Int))) (s : ns.Pairwise (· ≤ ·)) : ns = (l.mergeSort leN).map fun i : Nat => (i : Int) := by
  refine List.Perm.eq_of_pairwise (le := (· ≤ ·)) (fun a b _ _ h1 h2 => by omega) s ?_ (p.trans ((List.mergeSort_perm l leN).symm.map _))
  rw [List.pairwise_map]
  exact (List.pairwise_mergeSort leN_trans leN_total l).imp fun h => by
    have := of_decide_eq_true h
    omega
theorem keptIn_snoc (ps : List (Nat × Nat)) (q : Nat × Nat) (a b : Nat) : keptIn (ps ++ [q]) a b = keptIn ps a b ++ (if a < q.1 ∧ q.1 ≤ b then [q.2] else []) := by
  unfold keptIn
  rw [List.filter_append, List.map_append]
  congr 1
  by_cases h : a < q.1 ∧ q.1 ≤ b
  · rw [if_pos h, List.filter_cons_of_pos (p := fun q : Nat × Nat => decide (a < q.1 ∧ q.1 ≤ b)) (decide_eq_true h)]
    rfl
  · rw [if_neg h, List.filter_cons_of_neg (p := fun q : Nat × Nat => decide (a < q.1 ∧ q.1 ≤ b)) (by rw [decide_eq_false h]; decide)]
    rfl
theorem keptIn_len (ps : List (Nat × Nat)) (a b : Nat) : (keptIn ps a b).length ≤ ps.length := by
  unfold keptIn
  rw [List.length_map]
  exact List.length_filter_le _ _
/-- the lines of a version within, in a tuple -/
def spLWithin (K : PySem.W.Frag) : Sp := fun vs H Q _ => ∃ (x v y : V) (ss0 ss : List Str) (ps : List (Nat × Nat)) (bs : List Blk) (a b : Nat), vs = [x, v, y, .int (a : Int), .int (b : Int)] ∧ TxA K H x ss ∧ DfV K H v ps ∧ IsDf ss0 ss ps ∧ Dq K H y (.tuple (bs.map blkD)) ∧
  (∀ c ∈ bs, c.2.2.1 ≤ c.2.2.2 ∧ c.2.2.2 ≤ ss.length) ∧ ss.length ≤ 60 ∧ ps.length ≤ 100 ∧ bs.length ≤ 100 ∧ ∀ t H', Same H H' → H t = none → H' t = some (.tup ((withinL ss ps bs a b).map V.str)) → Q (.ref t) H'
end XR
namespace K62
open PySem L2 XR KT
section
variable {P : Program} {w : World} {K : PySem.W.Frag} {mg : Str → Option Value} {base : Heap}
abbrev sLW : Stmt := top 36
abbrev nLW : List Str := ["text", "diff", "blocks", "a", "b", "kept", "i", "j"]
theorem scLW : FnScope nLW ["text", "diff", "blocks", "a", "b"] (defScope sLW) := ⟨rfl, rfl, rfl, by decide +kernel, rfl, by decide +kernel, by decide +kernel⟩
theorem ok_within {f fN : Addr} {fd fdN : FuncData} (F : Fun K "lines_within" "lines_within" sLW f fd) (T : Blt mg) (mS : mg "sorted" = none)
    (FN : Fun K "numbers_come" "numbers_come" sNCome fN fdN) (GN : FnOk P w K mg base CX0 1 fN fdN ["blocks"] (spNCome K)) (bN : Binds K fdN ["blocks"] []) (mN : mg "numbers_come" = some (.ref fN)) : FnOk P w K mg base CX0 2 f fd ["text", "diff", "blocks", "a", "b"] (spLWithin K) := by
  refine F.ok scLW (fun vs H Q E h => ?_) (fun cdv A outer s H vs Q E hr h => ?_)
  · obtain ⟨x, v, y, ss0, ss, ps, bs, a, b, rfl, _⟩ := h
    rfl
  · obtain ⟨x, v, y, ss0, ss, ps, bs, a, b, rfl, hx, hv, hd, hy, hbs, l60, lps, lbs, z⟩ := h
    refine ⟨_, pss_cons (ps_setLc (i := 5) (own := [("i", 6), ("j", 7)]) (g := gTup K 2 (gCons (gName 6) (gCons (gName 7) gNil))) (tt := tTest (tChain (rI0 fun i j => V.bl (decide (i < j))) (rI0 fun i j => V.bl (decide (i ≤ j))) (tVar 3) (tVar 6) (tVar 4))) (te := tVar 7) rfl scLW.nd rfl rfl (sw_true rfl rfl rfl (by decide +kernel)) (pi_tup (pv 1))
        (blkOk_by (own := [("i", 6), ("j", 7)]) (N := nLW) (sc := defScope sLW) (by decide +kernel)) (fun _ _ _ _ _ => pg_tup rfl (pgs_cons (pg_name (i := 6) scLW.nd rfl (.inl rfl)) (pgs_cons (pg_name (i := 7) scLW.nd rfl (.inl rfl)) pgs_nil)))
        (fun _ _ _ _ _ => pts_one (pt_chain op_lt op_le (pv 3) (pv 6) (pv 4))) (fun _ _ _ _ _ => pv 7))
      (pss_one (ps_ret (pe_callTy call_tuple_of (by rfl) (T.all "tuple" (by decide)) (by decide +kernel) (pa_cons (pe_lc (own := [("j", 7)]) (g := gName 7) (tt := tYes) (te := tOp (rIx K) (tVar 0) (tOp (rI0 fun i j => V.int (i - j)) (tVar 7) (tC (V.int 1)))) rfl scLW.nd
        (pi_list (pe_callB cr_sortedI (by rfl) mS (by decide +kernel) (pa_cons (pe_op op_cat (pv 5) (pe_call GN hr rfl mN FN.kp bN .nil pass0 (pa_cons (pv 2) pa_nil))) pa_nil)))
        (blkOk_by (own := [("j", 7)]) (N := nLW) (sc := defScope sLW) (by decide +kernel)) (fun _ _ _ _ _ => pg_name (i := 7) scLW.nd rfl (.inl rfl)) (fun _ _ _ _ _ => pts_nil) (fun _ _ _ _ _ => pe_ix ix_seq (pv 0) (pe_op op_sub (pv 7) pe_int) (fun _ _ => rfl))) pa_nil)))), ?_⟩
    obtain ⟨t, xs, rfl, ht, hl, hxs⟩ := hv.items
    refine ⟨_, rfl, t, rfl, ⟨_, ht⟩, fun D nD => ?_⟩
    refine lc_tup (K := K) (a := t) (xs := xs) (fun i H' => Same H H' ∧ H' D = some (.lst (intsV (keptIn (ps.take i) a b)))) ⟨same_upd nD, upd_same⟩ (fun i H' _ hh => XR.Same.tup hh.1 ht) ?_ ?_
    · rintro i x' Hx hi ⟨sm, hD⟩
      obtain ⟨q, r, hq, rfl, hr'⟩ := hxs i x' hi
      have tk : keptIn (ps.take (i + 1)) a b = keptIn (ps.take i) a b ++ (if a < q.1 ∧ q.1 ≤ b then [q.2] else []) := by
        rw [List.take_add_one, hq]
        exact keptIn_snoc _ _ _ _
      have lk : (keptIn (ps.take i) a b).length ≤ 100 := by
        refine Nat.le_trans (keptIn_len _ _ _) ?_
        rw [List.length_take]
        omega
      have no : ¬ (a < q.1 ∧ q.1 ≤ b) → Same H Hx ∧ Hx D = some (.lst (intsV (keptIn (ps.take (i + 1)) a b))) := fun n => by
        rw [tk, if_neg n, List.append_nil]
        exact ⟨sm, hD⟩
      refine ⟨r, _, rfl, XR.Same.tup sm hr', rfl, _, _, rfl, _, _, rfl, rfl, rfl, ?_⟩
      refine ⟨_, rfl, _, rfl, _, _, rfl, rfl, _, rfl, ?_⟩
      by_cases c1 : (a : Int) < (q.1 : Int)
      · rw [decide_eq_true c1, if_pos rfl]
        refine ⟨_, rfl, _, _, rfl, rfl, _, rfl, ?_⟩
        by_cases c2 : (q.1 : Int) ≤ (b : Int)
        · rw [decide_eq_true c2]
          dsimp only
          rw [if_pos rfl]
          refine ⟨_, rfl, _, hD, ?_, fun b' o h => ?_, ?_⟩
          · unfold intsV
            rw [List.length_map]
            exact Nat.lt_of_le_of_lt lk (by decide)
          · rw [upd_ne (ne_of_none h nD)]
            exact sm _ _ h
          · rw [upd_same, tk, if_pos ⟨by omega, by omega⟩, intsV_app]
            rfl
        · rw [decide_eq_false c2]
          dsimp only
          rw [if_neg (by decide)]
          exact no fun h => c2 (by omega)
      · rw [decide_eq_false c1, if_neg (by decide)]
        refine ⟨_, rfl, ?_⟩
        dsimp only
        rw [if_neg (by decide)]
        exact no fun h => c1 (by omega)
    rintro H1 ⟨s1, hD⟩
    rw [hl, List.take_length] at hD
    refine ⟨_, rfl, _, rfl, y, bs, rfl, hy.same s1, fun c hc => ⟨(hbs c hc).1, Nat.le_trans (hbs c hc).2 l60⟩, lbs, fun l H2 s2 nl hll => ?_⟩
    have s12 := s1.trans s2
    have lk := keptIn_len ps a b
    have ln : (numsB bs).length ≤ 60 * bs.length := numsB_len fun c hc => Nat.le_trans (hbs c hc).2 l60
    have lw : (withinN ps bs a b).length ≤ 6100 := by
      unfold withinN
      rw [List.length_mergeSort, List.length_append]
      omega
    refine ⟨D, l, _, _, rfl, rfl, s2 _ _ hD, hll, ?_, fun p np => ?_⟩
    · unfold intsV
      rw [List.length_map, List.length_map]
      exact Nat.le_trans (show _ ≤ 6100 by omega) (by decide)
    have sp := same_upd (o := .lst (intsV (keptIn ps a b) ++ intsV (numsB bs))) np
    refine ⟨p, (keptIn ps a b ++ numsB bs).map fun i : Nat => (i : Int), rfl, SqL.of (by rw [upd_same, ← intsV_app]; unfold intsV; rw [List.map_map]; rfl), fun ns g pm so ng => ?_⟩
    have en := sortedN pm so
    have sg := same_upd (o := HO.lst (ns.map V.int)) ng
    have s3 := (s12.trans sp).trans sg
    refine ⟨g, rfl, ⟨_, SqL.of upd_same⟩, fun D2 nD2 => ?_⟩
    have hwin : ∀ j ∈ withinN ps bs a b, 1 ≤ j ∧ j ≤ ss.length := fun j hj => by
      unfold withinN at hj
      rcases List.mem_append.mp (List.mem_mergeSort.mp hj) with h | h
      · obtain ⟨q, hq, rfl⟩ := List.mem_map.mp h
        obtain ⟨_, _, h1, h2, _⟩ := hd.1 q (List.mem_filter.mp hq).1
        exact ⟨h1, h2⟩
      · obtain ⟨c, hc, hj⟩ := List.mem_flatMap.mp h
        have := numB_mem.mp hj
        have := hbs c hc
        omega
    have en2 : ns = (withinN ps bs a b).map fun i : Nat => (i : Int) := en
    refine lc_list (K := K) (a := g) (xs := ns.map V.int) (fun i H' => Same H H' ∧ H' g = some (.lst (ns.map V.int)) ∧ H' D2 = some (.lst ((((withinN ps bs a b).take i).map fun j => ss.getD (j - 1) "").map V.str))) ⟨s3.trans (same_upd nD2), (by rw [upd_ne (ne_of_none upd_same nD2)]; exact upd_same), upd_same⟩ (fun i H' _ hh => SqL.of hh.2.1) ?_ ?_
    · rintro i x' Hx hi ⟨sm, hg, hD2⟩
      obtain ⟨j, rfl, hj⟩ : ∃ j : Nat, x' = V.int (j : Int) ∧ (withinN ps bs a b)[i]? = some j := by
        rw [en2, List.getElem?_map, List.getElem?_map] at hi
        obtain ⟨z1, e1, e2⟩ := Option.map_eq_some_iff.mp hi
        obtain ⟨z2, e3, e4⟩ := Option.map_eq_some_iff.mp e1
        exact ⟨z2, by rw [← e2, ← e4], e3⟩
      obtain ⟨j1, j2⟩ := hwin j (List.mem_of_getElem? hj)
      have hlt : j - 1 < ss.length := by omega
      have gD : g ≠ D2 := ne_of_none upd_same nD2
      refine ⟨wipe_one, ?_⟩
      unfold tYes
      dsimp only
      rw [if_pos rfl]
      refine ⟨_, rfl, _, rfl, _, _, rfl, rfl, ?_⟩
      refine (hx.same sm).ix (i := j - 1) (List.getElem?_eq_getElem hlt) (by omega) ?_
      refine ⟨_, hD2, ?_, fun b' o' h => ?_, ?_, ?_⟩
      · rw [List.length_map, List.length_map, List.length_take]
        exact Nat.lt_of_le_of_lt (show min i _ ≤ 6100 by omega) (by decide)
      · rw [upd_ne (ne_of_none (s3 _ _ h) nD2)]
        exact sm _ _ h
      · rw [upd_ne gD]
        exact hg
      · rw [upd_same, List.take_add_one, hj, List.map_append, List.map_append]
        show some (HO.lst (_ ++ [V.str ss[j - 1]])) = some (HO.lst (_ ++ [V.str (ss.getD (j - 1) "")]))
        rw [List.getD_eq_getElem?_getD, List.getElem?_eq_getElem hlt]
        rfl
    rintro H4 ⟨s4, _, hD2⟩
    rw [show (ns.map V.int).length = (withinN ps bs a b).length by rw [en2, List.length_map, List.length_map], List.take_length] at hD2
    refine ⟨D2, _, rfl, .inl ⟨SqL.of hD2, fun t' nt' => ?_⟩⟩
    exact z t' _ (s4.trans (same_upd nt')) (none_before s4 nt') upd_same
end
end K62
namespace XR
open PySem L2 KT
/-- the first and the last position that a knot covers -/
def firstK (k : List Blk × List Blk) : Int := (((k.1 ++ k.2).map fun b => (coverB b).1).min?).getD 0
def lastK (k : List Blk × List Blk) : Int := (((k.1 ++ k.2).map fun b => (coverB b).2).max?).getD 0
theorem firstK_of {k : List Blk × List Blk} {m : Int} (h : IsMin m ((k.1 ++ k.2).map fun b => (coverB b).1)) : m = firstK k := by
  unfold firstK
  rw [List.min?_eq_some_iff.mpr h]
  rfl
theorem lastK_of {k : List Blk × List Blk} {m : Int} (h : IsMax m ((k.1 ++ k.2).map fun b => (coverB b).2)) : m = lastK k := by
  unfold lastK
  rw [List.max?_eq_some_iff.mpr h]
  rfl
def spStretch (K : PySem.W.Frag) : Sp := fun vs H Q _ => ∃ (x : V) (k : List Blk × List Blk), vs = [x] ∧ Dq K H x (knD k) ∧ k.1 ++ k.2 ≠ [] ∧ (k.1 ++ k.2).length ≤ 1000 ∧ (∀ b ∈ k.1 ++ k.2, b.1 ≤ 100 ∧ b.2.1 ≤ 100) ∧
  ∀ (t : Addr) H', Same H H' → H t = none → H' t = some (.tup [.int (firstK k), .int (lastK k)]) → Q (.ref t) H'
end XR
namespace K62
open PySem L2 XR KT
section
variable {P : Program} {w : World} {K : PySem.W.Frag} {mg : Str → Option Value} {base : Heap}
abbrev sStretch : Stmt := top 26
abbrev nStretch : List Str := ["knot", "covered", "block", "first", "_", "last"]
theorem scStretch : FnScope nStretch ["knot"] (defScope sStretch) := ⟨rfl, rfl, rfl, by decide +kernel, rfl, by decide +kernel, by decide +kernel⟩
theorem ok_stretch {f fC : Addr} {fd fdC : FuncData} (F : Fun K "stretch_of" "stretch_of" sStretch f fd) (T : Blt mg)
    (FC : Fun K "covered_by" "covered_by" sCover fC fdC) (GC : FnOk P w K mg base CX0 1 fC fdC ["block"] (spCover K)) (bC : Binds K fdC ["block"] []) (mC : mg "covered_by" = some (.ref fC)) : FnOk P w K mg base CX0 2 f fd ["knot"] (spStretch K) := by
  refine F.ok scStretch (fun vs H Q E h => ?_) (fun cdv A outer s H vs Q E hr h => ?_)
  · obtain ⟨x, k, rfl, _⟩ := h
    rfl
  · obtain ⟨x, k, rfl, hx, hne, hlen, hlo, z⟩ := h
    refine ⟨_, pss_cons (ps_setLc (i := 1) (own := [("block", 2)]) (g := gName 2) (tt := tYes) (te := tCall (spCover K) [] E0 (tCons (tVar 2) tNil)) rfl scStretch.nd rfl rfl (sw_true rfl rfl rfl (by decide +kernel)) (pi_tup (pe_op op_catA (pe_ix ix_tup (pv 0) pe_int (fun _ _ => rfl)) (pe_ix ix_tup (pv 0) pe_int (fun _ _ => rfl))))
        (blkOk_by (own := [("block", 2)]) (N := nStretch) (sc := defScope sStretch) (by decide +kernel)) (fun _ _ _ _ _ => pg_name (i := 2) scStretch.nd rfl (.inl rfl)) (fun _ _ _ _ _ => pts_nil) (fun _ _ _ _ _ => pe_call GC hr rfl mC FC.kp bC .nil pass0 (pa_cons (pv 2) pa_nil)))
      (pss_one (ps_ret (pe_tup (pa_cons (pe_callB (cr_min rfl) (by rfl) T.min (by decide +kernel) (pa_cons (pe_lc (own := [("first", 3), ("_", 4)]) (g := gTup K 2 (gCons (gName 3) (gCons (gName 4) gNil))) (tt := tYes) (te := tVar 3) rfl scStretch.nd (pi_list (pv 1))
            (blkOk_by (own := [("first", 3), ("_", 4)]) (N := nStretch) (sc := defScope sStretch) (by decide +kernel)) (fun _ _ _ _ _ => pg_tup rfl (pgs_cons (pg_name (i := 3) scStretch.nd rfl (.inl rfl)) (pgs_cons (pg_name (i := 4) scStretch.nd rfl (.inl rfl)) pgs_nil))) (fun _ _ _ _ _ => pts_nil) (fun _ _ _ _ _ => pv 3)) pa_nil))
        (pa_cons (pe_callB (cr_max rfl) (by rfl) T.max (by decide +kernel) (pa_cons (pe_lc (own := [("_", 4), ("last", 5)]) (g := gTup K 2 (gCons (gName 4) (gCons (gName 5) gNil))) (tt := tYes) (te := tVar 5) rfl scStretch.nd (pi_list (pv 1))
            (blkOk_by (own := [("_", 4), ("last", 5)]) (N := nStretch) (sc := defScope sStretch) (by decide +kernel)) (fun _ _ _ _ _ => pg_tup rfl (pgs_cons (pg_name (i := 4) scStretch.nd rfl (.inl rfl)) (pgs_cons (pg_name (i := 5) scStretch.nd rfl (.inl rfl)) pgs_nil))) (fun _ _ _ _ _ => pts_nil) (fun _ _ _ _ _ => pv 5)) pa_nil)) pa_nil))))), ?_⟩
    obtain ⟨r, y0, y1, rfl, hr1, d0, d1⟩ := knD_of hx
    refine ⟨_, rfl, r, _, _, _, rfl, rfl, hr1, atI_nat (j := 0) rfl, _, rfl, r, _, _, _, rfl, rfl, hr1, atI_nat (j := 1) rfl, ?_⟩
    refine cat_dq d0 d1 (by rw [List.length_map, List.length_map, ← List.length_append]; exact Nat.le_trans hlen (by decide)) fun t ys H1 s1 ht hys => ?_
    rw [← List.map_append] at hys
    have fin : ∀ t H', Same H H' → H t = none → H' t = some (.tup [.int (firstK k), .int (lastK k)]) → Q (.ref t) H' := z
    have hK := @firstK_of k
    have hL := @lastK_of k
    generalize firstK k = mF at fin hK
    generalize lastK k = mL at fin hL
    clear z
    generalize k.1 ++ k.2 = bs at hne hlen hys hlo hK hL
    have lys : ys.length = bs.length := by rw [hys.length, List.length_map]
    have lpos : 0 < bs.length := by
      rcases Nat.eq_zero_or_pos bs.length with e | e
      · exact absurd (List.eq_nil_of_length_eq_zero e) hne
      · exact e
    refine ⟨t, rfl, ⟨_, ht⟩, fun D nD => ?_⟩
    refine lc_tup (K := K) (a := t) (xs := ys) (fun j Hx => Same H1 Hx ∧ ∃ us : List Addr, Hx D = some (.lst (refs us)) ∧ us.length = j ∧ ∀ (i : Nat) (u : Addr), us[i]? = some u → ∃ b, bs[i]? = some b ∧ Hx u = some (.tup [.int (coverB b).1, .int (coverB b).2])) ⟨same_upd nD, [], upd_same, rfl, fun i u e => by simp at e⟩ (fun j Hx _ hh => XR.Same.tup hh.1 ht) ?_ ?_
    · rintro j x Hx hx ⟨sx, us, hD, hul, hus⟩
      obtain ⟨d, hd1, hd2⟩ := hys.get hx
      rw [List.getElem?_map] at hd1
      obtain ⟨b, hbj, rfl⟩ := Option.map_eq_some_iff.mp hd1
      obtain ⟨r, rfl, hr1⟩ := blk_of (hd2.same sx)
      obtain ⟨q1, q2⟩ := hlo b (List.mem_of_getElem? hbj)
      refine ⟨wipe_one, ?_⟩
      unfold tYes
      dsimp only
      rw [if_pos rfl]
      refine ⟨_, rfl, r, b, rfl, hr1, q1, q2, fun u H3 s3 nu hu => ?_⟩
      have hj : j < bs.length := (List.getElem?_eq_some_iff.mp hbj).1
      have hD3 := s3 _ _ hD
      have keep : ∀ {q : Addr} {vs : List V}, H3 q = some (.tup vs) → upd H3 D (.lst (refs us ++ [V.ref u])) q = some (.tup vs) := fun {q vs} h => by
        rw [upd_ne (fun e => by rw [e, hD3] at h; cases h)]
        exact h
      refine ⟨_, hD3, ?_, fun b' o' h => ?_, us ++ [u], ?_, ?_, fun i v hv => ?_⟩
      · unfold refs
        rw [List.length_map, hul]
        exact Nat.lt_of_lt_of_le hj (Nat.le_trans hlen (by decide))
      · rw [upd_ne (ne_of_none h nD)]
        exact s3 _ _ (sx _ _ h)
      · rw [upd_same]; unfold refs; rw [List.map_append]; rfl
      · rw [List.length_append, hul]; rfl
      · by_cases ci : i < us.length
        · rw [List.getElem?_append_left ci] at hv
          obtain ⟨c, h1, h2⟩ := hus i v hv
          exact ⟨c, h1, keep (s3 _ _ h2)⟩
        · have ei : i = j := by
            have := (List.getElem?_eq_some_iff.mp hv).1
            rw [List.length_append] at this
            have t1 : ([u] : List Addr).length = 1 := rfl
            omega
          subst ei
          rw [List.getElem?_append_right (by omega), hul, Nat.sub_self] at hv
          cases Option.some.inj hv
          exact ⟨b, hbj, keep hu⟩
    rintro H2 ⟨s2, us, hD, hul, hus⟩
    rw [lys] at hul
    have s12 := s1.trans s2
    have lus : (refs us).length = bs.length := by unfold refs; rw [List.length_map, hul]
    have at_ : ∀ {i : Nat} {x : V}, (refs us)[i]? = some x → ∃ u b, x = .ref u ∧ bs[i]? = some b ∧ H2 u = some (.tup [.int (coverB b).1, .int (coverB b).2]) := fun {i x} e => by
      unfold refs at e
      rw [List.getElem?_map] at e
      obtain ⟨u, e1, rfl⟩ := Option.map_eq_some_iff.mp e
      obtain ⟨b, e2, e3⟩ := hus i u e1
      exact ⟨u, b, rfl, e2, e3⟩
    refine ⟨_, rfl, D, rfl, ⟨_, SqL.of hD⟩, fun D3 nD3 => ?_⟩
    refine lc_list (K := K) (a := D) (xs := refs us) (fun j Hx => Same H2 Hx ∧ Hx D3 = some (.lst (((bs.take j).map fun b => (coverB b).1).map V.int))) ⟨same_upd nD3, upd_same⟩ (fun j Hx _ hh => SqL.of (hh.1 _ _ hD)) ?_ ?_
    · rintro j x Hx hx ⟨sx, hD3⟩
      obtain ⟨u, b, rfl, hbj, hu⟩ := at_ hx
      refine ⟨u, _, rfl, SqT.of (sx _ _ hu), rfl, _, _, rfl, _, _, rfl, rfl, rfl, ?_⟩
      unfold tYes
      dsimp only
      rw [if_pos rfl]
      refine ⟨_, rfl, _, hD3, ?_, fun b' o' h => ?_, ?_⟩
      · rw [List.length_map, List.length_map, List.length_take]
        exact Nat.lt_of_le_of_lt (Nat.le_trans (Nat.min_le_right _ _) hlen) (by decide)
      · rw [upd_ne (ne_of_none h nD3)]
        exact sx _ _ h
      · rw [upd_same, List.take_add_one, hbj, List.map_append, List.map_append]
        rfl
    rintro H3 ⟨s3, hD3⟩
    rw [lus, List.take_length] at hD3
    refine ⟨D3, _, rfl, SqL.of hD3, by rw [List.length_map]; exact lpos, fun m1 a1 a2 => ?_⟩
    refine ⟨_, rfl, D, rfl, ⟨_, SqL.of (s3 _ _ hD)⟩, fun D4 nD4 => ?_⟩
    refine lc_list (K := K) (a := D) (xs := refs us) (fun j Hx => Same H3 Hx ∧ Hx D4 = some (.lst (((bs.take j).map fun b => (coverB b).2).map V.int))) ⟨same_upd nD4, upd_same⟩ (fun j Hx _ hh => SqL.of (hh.1 _ _ (s3 _ _ hD))) ?_ ?_
    · rintro j x Hx hx ⟨sx, hD4⟩
      obtain ⟨u, b, rfl, hbj, hu⟩ := at_ hx
      refine ⟨u, _, rfl, SqT.of (sx _ _ (s3 _ _ hu)), rfl, _, _, rfl, _, _, rfl, rfl, rfl, ?_⟩
      unfold tYes
      dsimp only
      rw [if_pos rfl]
      refine ⟨_, rfl, _, hD4, ?_, fun b' o' h => ?_, ?_⟩
      · rw [List.length_map, List.length_map, List.length_take]
        exact Nat.lt_of_le_of_lt (Nat.le_trans (Nat.min_le_right _ _) hlen) (by decide)
      · rw [upd_ne (ne_of_none h nD4)]
        exact sx _ _ h
      · rw [upd_same, List.take_add_one, hbj, List.map_append, List.map_append]
        rfl
    rintro H4 ⟨s4, hD4⟩
    rw [lus, List.take_length] at hD4
    refine ⟨D4, _, rfl, SqL.of hD4, by rw [List.length_map]; exact lpos, fun m2 b1 b2 => ?_⟩
    refine ⟨ll20 (by show 2 ≤ 20; decide), fun q nq => ?_⟩
    have s14 := (s12.trans s3).trans s4
    have e1 := hK ⟨a1, a2⟩
    have e2 := hL ⟨b1, b2⟩
    subst e1 e2
    exact fin q _ (s14.trans (same_upd nq)) (none_before s14 nq) upd_same
end
end K62
namespace XR
open PySem L2 KT
theorem DfV.nps {K : PySem.W.Frag} {H : Hp} {v : V} {ps : List (Nat × Nat)} (h : DfV K H v ps) : ∃ (t : Addr) (xs : List V), v = .ref t ∧ SqT K H t xs ∧ NPs K H xs ps := by
  obtain ⟨t, xs, rfl, ht, hl, hx⟩ := h.items
  refine ⟨t, xs, rfl, ht, hl, fun i q hq => ?_⟩
  have hi : i < xs.length := by rw [hl]; exact (List.getElem?_eq_some_iff.mp hq).1
  obtain ⟨q', r, e1, e2, e3⟩ := hx i _ (List.getElem?_eq_getElem hi)
  rw [hq] at e1
  cases e1
  exact ⟨r, by rw [List.getElem?_eq_getElem hi, e2], e3⟩
/-- the parts of a diff, by the law -/
def spLParts (K : PySem.W.Frag) : Sp := fun vs H Q _ => ∃ (v : V) (m n : Nat) (ps : List (Nat × Nat)), vs = [.int (m : Int), .int (n : Int), v] ∧ DfV K H v ps ∧ (∀ q ∈ ps, 1 ≤ q.1 ∧ 1 ≤ q.2) ∧ ps.length ≤ 60 ∧
  ∀ (l : Addr) (rs : List Addr) H', Same H H' → H l = none → H' l = some (.lst (refs rs)) → BsAt H' rs (blocksL m n ps) → Q (.ref l) H'
end XR
namespace K62
open PySem L2 XR KT
section
variable {P : Program} {w : World} {K : PySem.W.Frag} {mg : Str → Option Value} {base : Heap}
abbrev sLParts : Stmt := top 46
abbrev nLParts : List Str := ["_law_many", "_law_long", "_law_pairs", "_law_found", "_law_i", "_law_j", "_law_p", "_law_q"]
theorem scLParts : FnScope nLParts ["_law_many", "_law_long", "_law_pairs"] (defScope sLParts) := ⟨rfl, rfl, rfl, by decide +kernel, rfl, by decide +kernel, by decide +kernel⟩
theorem ok_lParts {f : Addr} {fd : FuncData} (F : Fun K "_law_parts" "_law_parts" sLParts f fd) (T : Blt mg) : FnOk P w K mg base CX0 1 f fd ["_law_many", "_law_long", "_law_pairs"] (spLParts K) := by
  refine F.ok scLParts (fun vs H Q E h => ?_) (fun cdv A outer s H vs Q E hr h => ?_)
  · obtain ⟨v, m, n, ps, rfl, _⟩ := h
    rfl
  · obtain ⟨v, m, n, ps, rfl, hv, hd, dl, z⟩ := h
    refine ⟨_, pss_cons (ps_par3 (i := 3) (j := 4) (l := 5) rfl scLParts.nd rfl rfl rfl (by decide) (by decide) (by decide) rfl rfl rfl (pa_cons (pe_lst pa_nil) (pa_cons pe_int (pa_cons pe_int pa_nil))) rfl)
      (pss_cons (ps_for PassesOwn.never rfl (pi_list (pe_op op_cat (pe_callTy call_list_of (by rfl) (T.all "list" (by decide)) (by decide +kernel) (pa_cons (pv 2) pa_nil)) (pe_lst (pa_cons (pe_tup (pa_cons (pe_op op_add (pv 0) pe_int) (pa_cons (pe_op op_add (pv 1) pe_int) pa_nil))) pa_nil))))
        (pg_tup rfl (pgs_cons (pg_name (i := 6) scLParts.nd rfl (.inl rfl)) (pgs_cons (pg_name (i := 7) scLParts.nd rfl (.inl rfl)) pgs_nil)))
        (pss_cons (ps_if (PW.pt (pw_or (pt_cmpR op_gt (pe_op op_sub (pv 6) pe_int) (pv 4) (nomark _)) (pw_or1 (pt_cmpR op_gt (pe_op op_sub (pv 7) pe_int) (pv 5) (nomark _)))))
            (pss_one (ps_expr (pe_bm PySem.F.plainAttrs_list PySem.F.slot_list_append PySem.F.type_list_append mt_append (pv 3) (pa_cons (pe_tup (pa_cons (pv 4) (pa_cons (pe_op op_sub (pv 6) pe_int) (pa_cons (pv 5) (pa_cons (pe_op op_sub (pv 7) pe_int) pa_nil))))) pa_nil)))) pss_nil)
        (pss_one (ps_par (i := 4) (j := 5) rfl scLParts.nd rfl rfl (by decide) rfl rfl (pa_cons (pv 6) (pa_cons (pv 7) pa_nil)) rfl))))
      (pss_one (ps_ret (pv 3)))), ?_⟩
    refine ⟨ll20 (by decide), fun f0 nf => ⟨_, _, _, rfl, ?_⟩⟩
    have s0 := same_upd (o := .lst []) nf
    have hf0 := upd_same (H := H) (a := f0) (o := .lst [])
    generalize upd H f0 (.lst []) = H0 at s0 hf0 ⊢
    obtain ⟨t, xs, rfl, ht, np⟩ := hv.nps
    refine ⟨_, rfl, t, xs, rfl, .inr (XR.Same.tup s0 ht), fun q nq => ?_⟩
    have sq := same_upd (o := .lst xs) nq
    have hq := upd_same (H := H0) (a := q) (o := .lst xs)
    have hf1 := sq _ _ hf0
    have s1 := s0.trans sq
    generalize upd H0 q (.lst xs) = H1 at hq hf1 s1 ⊢
    refine ⟨_, rfl, _, _, rfl, rfl, _, rfl, _, _, rfl, rfl, ll20 (by show 2 ≤ 20; decide), fun e0 ne => ⟨ll20 (by show 1 ≤ 20; decide), fun b0 nb => ?_⟩⟩
    have se := same_upd (o := .tup [V.int ((m : Int) + 1), V.int ((n : Int) + 1)]) ne
    have he := upd_same (H := H1) (a := e0) (o := .tup [V.int ((m : Int) + 1), V.int ((n : Int) + 1)])
    generalize upd H1 e0 (.tup [V.int ((m : Int) + 1), V.int ((n : Int) + 1)]) = H2 at se he nb ⊢
    have sb := same_upd (o := .lst [V.ref e0]) nb
    have hb := upd_same (H := H2) (a := b0) (o := .lst [V.ref e0])
    have he2 := sb _ _ he
    have s2 := s1.trans (se.trans sb)
    have hq2 := (se.trans sb) _ _ hq
    have hf2 := (se.trans sb) _ _ hf1
    generalize upd H2 b0 (.lst [V.ref e0]) = H3 at hb he2 s2 hq2 hf2 ⊢
    have xl := np.1
    refine ⟨_, _, _, _, rfl, rfl, hq2, hb, Nat.le_trans (show xs.length + 1 ≤ 61 by omega) (by decide), fun l nl => ⟨l, rfl, ⟨_, SqL.of upd_same⟩, ?_⟩⟩
    have sl := same_upd (o := .lst (xs ++ [V.ref e0])) nl
    have hl := upd_same (H := H3) (a := l) (o := .lst (xs ++ [V.ref e0]))
    have he3 := sl _ _ he2
    have hf3 := sl _ _ hf2
    have s3 := s2.trans sl
    have fl : f0 ≠ l := ne_of_none hf2 nl
    have nps : NPs K (upd H3 l (.lst (xs ++ [V.ref e0]))) (xs ++ [V.ref e0]) (ps ++ [(m + 1, n + 1)]) := (np.same s3).append (NPs.one (K := K) (q := (m + 1, n + 1)) (.inl (.inl he3)))
    generalize upd H3 l (.lst (xs ++ [V.ref e0])) = H4 at hl he3 hf3 s3 nps ⊢
    have glen : (gapsL m n ps).length = ps.length + 1 := gaps_len _ _ _ _
    have lB : (ps ++ [(m + 1, n + 1)] : List (Nat × Nat)).length = ps.length + 1 := by rw [List.length_append]; rfl
    have lX : (xs ++ [V.ref e0]).length = ps.length + 1 := by rw [List.length_append, xl]; rfl
    clear nl sl hb he2 hq2 sb se nb ne hq sq nq hf1 he hf2
    refine for_list (K := K) (a := l) (xs := xs ++ [V.ref e0]) (fun i σ H' => H' l = some (.lst (xs ++ [V.ref e0])) ∧ (∀ b o, H4 b = some o → b ≠ f0 → H' b = some o) ∧ ∃ (rs : List Addr) (b : Nat × Nat) (x6 x7 : Option V), (((0, 0) :: ps)[i]? = some b ∨ i = ps.length + 1) ∧ σ = [some (V.int (m : Int)), some (V.int (n : Int)), some (V.ref t), some (V.ref f0), some (V.int (b.1 : Int)), some (V.int (b.2 : Int)), x6, x7] ∧
        H' f0 = some (.lst (refs rs)) ∧ BsAt H' rs (((gapsL m n ps).take i).filter blkB))
      ⟨hl, fun _ _ h _ => h, [], (0, 0), _, _, .inl rfl, rfl, hf3, .nil⟩ (fun i σ H' _ hh => SqL.of hh.1) ?_ ?_
    · rintro i x σ Ha hx ⟨hla, hk, rs, b, x6, x7, hb, rfl, hfa, hbs⟩
      have hi : i < ps.length + 1 := by rw [← lX]; exact (List.getElem?_eq_some_iff.mp hx).1
      have hb : ((0, 0) :: ps)[i]? = some b := by
        rcases hb with h | h
        · exact h
        · omega
      obtain ⟨e, he⟩ : ∃ e, (ps ++ [(m + 1, n + 1)] : List (Nat × Nat))[i]? = some e := ⟨_, List.getElem?_eq_getElem (by omega)⟩
      obtain ⟨r, er, hr4⟩ := nps.2 i e he
      obtain rfl : x = V.ref r := Option.some.inj (hx.symm.trans er)
      have hgap := gaps_at m n ps (0, 0) i b e hb he
      have e1p : 1 ≤ e.1 ∧ 1 ≤ e.2 := by
        rcases List.mem_append.mp (List.mem_of_getElem? he) with h | h
        · exact hd _ h
        · rw [List.mem_singleton.mp h]; exact ⟨by simp, by simp⟩
      have hra : SqT K Ha r [.int (e.1 : Int), .int (e.2 : Int)] := by
        rcases hr4 with (h | ⟨q, h⟩) | h
        · exact .inl (.inl (hk _ _ h (fun c => by rw [c, hf3] at h; cases h)))
        · exact .inl (.inr ⟨q, hk _ _ h (fun c => by rw [c, hf3] at h; cases h)⟩)
        · exact .inr h
      have next : ((0, 0) :: ps)[i + 1]? = some e ∨ i + 1 = ps.length + 1 := by
        by_cases c : i < ps.length
        · left
          rw [List.getElem?_append_left c] at he
          rw [List.getElem?_cons_succ]
          exact he
        · right; omega
      have tk : ((gapsL m n ps).take (i + 1)).filter blkB = ((gapsL m n ps).take i).filter blkB ++ (if blkB (b.1, e.1 - 1, b.2, e.2 - 1) = true then [(b.1, e.1 - 1, b.2, e.2 - 1)] else []) := by
        rw [List.take_add_one]
        unfold gapsL at hgap ⊢
        rw [hgap, List.filter_append]
        congr 1
        show List.filter blkB [_] = _
        rw [List.filter_cons]
        rfl
      have klen : rs.length ≤ 61 := by
        rw [hbs.1]
        have := List.length_filter_le blkB ((gapsL m n ps).take i)
        rw [List.length_take] at this
        omega
      have en : HO.tup [V.int (b.1 : Int), V.int ((e.1 : Int) - 1), V.int (b.2 : Int), V.int ((e.2 : Int) - 1)] = fourV (b.1, e.1 - 1, b.2, e.2 - 1) := by
        show _ = HO.tup [V.int (b.1 : Int), V.int ((e.1 - 1 : Nat) : Int), V.int (b.2 : Int), V.int ((e.2 - 1 : Nat) : Int)]
        rw [show ((e.1 : Int) - 1) = ((e.1 - 1 : Nat) : Int) by omega, show ((e.2 : Int) - 1) = ((e.2 - 1 : Nat) : Int) by omega]
      refine ⟨r, _, rfl, hra, rfl, _, _, rfl, _, _, rfl, rfl, ?_⟩
      have grow : blkB (b.1, e.1 - 1, b.2, e.2 - 1) = true → ∀ u, Ha u = none →
          let Hz := upd (upd Ha u (.tup [V.int (b.1 : Int), V.int ((e.1 : Int) - 1), V.int (b.2 : Int), V.int ((e.2 : Int) - 1)])) f0 (.lst (refs rs ++ [V.ref u]))
          upd Ha u (.tup [V.int (b.1 : Int), V.int ((e.1 : Int) - 1), V.int (b.2 : Int), V.int ((e.2 : Int) - 1)]) f0 = some (.lst (refs rs)) ∧ (refs rs).length < sizeLine ∧ Hz l = some (.lst (xs ++ [V.ref e0])) ∧ (∀ b o, H4 b = some o → b ≠ f0 → Hz b = some o) ∧ Hz f0 = some (.lst (refs (rs ++ [u]))) ∧ BsAt Hz (rs ++ [u]) (((gapsL m n ps).take (i + 1)).filter blkB) := fun eb u nu => by
        rw [en]
        obtain ⟨k1, k2, k3⟩ := bsStep (b := (b.1, e.1 - 1, b.2, e.2 - 1)) hfa hbs nu
        refine ⟨k1, ?_, ?_, fun b' o' h n => ?_, k3, ?_⟩
        · unfold refs
          rw [List.length_map]
          exact Nat.lt_of_le_of_lt klen (by decide)
        · rw [upd_ne fl.symm]
          exact same_upd nu _ _ hla
        · rw [upd_ne n]
          exact same_upd nu _ _ (hk _ _ h n)
        · rw [tk, if_pos eb]
          exact k2
      have mk : blkB (b.1, e.1 - 1, b.2, e.2 - 1) = true → ∀ u, Ha u = none → _ := grow
      refine ⟨_, rfl, _, _, rfl, rfl, _, rfl, _, _, rfl, rfl, _, rfl, ?_⟩
      by_cases c1 : b.1 < e.1 - 1
      · rw [decide_eq_true (show (e.1 : Int) - 1 > (b.1 : Int) by omega)]
        refine iteT (iteT ⟨_, rfl, .inl ⟨rfl, _, SqL.of hfa⟩, _, rfl, _, rfl, _, _, rfl, rfl, _, rfl, _, rfl, _, _, rfl, rfl, ll20 (by show 4 ≤ 20; decide), fun u nu => ?_⟩)
        obtain ⟨g1, g2, g3, g4, g5, g6⟩ := grow (by unfold blkB; rw [decide_eq_true c1]; rfl) u nu
        exact ⟨f0, _, _, rfl, rfl, g1, g2, _, rfl, _, rfl, _, _, rfl, g3, g4, rs ++ [u], e, _, _, next, rfl, g5, g6⟩
      · rw [decide_eq_false (show ¬ ((e.1 : Int) - 1 > (b.1 : Int)) by omega)]
        refine iteF ⟨_, rfl, _, _, rfl, rfl, _, rfl, _, _, rfl, rfl, _, rfl, ?_⟩
        by_cases c2 : b.2 < e.2 - 1
        · rw [decide_eq_true (show (e.2 : Int) - 1 > (b.2 : Int) by omega)]
          refine iteT ⟨_, rfl, .inl ⟨rfl, _, SqL.of hfa⟩, _, rfl, _, rfl, _, _, rfl, rfl, _, rfl, _, rfl, _, _, rfl, rfl, ll20 (by show 4 ≤ 20; decide), fun u nu => ?_⟩
          obtain ⟨g1, g2, g3, g4, g5, g6⟩ := grow (by unfold blkB; rw [decide_eq_true c2, Bool.or_true]) u nu
          exact ⟨f0, _, _, rfl, rfl, g1, g2, _, rfl, _, rfl, _, _, rfl, g3, g4, rs ++ [u], e, _, _, next, rfl, g5, g6⟩
        · rw [decide_eq_false (show ¬ ((e.2 : Int) - 1 > (b.2 : Int)) by omega)]
          refine iteF ⟨_, rfl, _, rfl, _, _, rfl, hla, hk, rs, e, _, _, next, rfl, hfa, ?_⟩
          rw [tk, if_neg (by unfold blkB; rw [decide_eq_false c1, decide_eq_false c2]; decide), List.append_nil]
          exact hbs
    · rintro σ Ha ⟨hla, hk, rs, b, x6, x7, hb, rfl, hfa, hbs⟩
      rw [lX, ← glen, List.take_length] at hbs
      refine ⟨_, rfl, z f0 rs Ha (fun b o h => hk _ _ (s3 _ _ h) (ne_of_none h nf)) nf hfa hbs⟩
end
end K62
namespace XR
open PySem L2 KT
/-- addresses that stand for things -/
def LAt {α : Type} (R : Addr → α → Prop) (us : List Addr) (xs : List α) : Prop := us.length = xs.length ∧ ∀ (i : Nat) (x : α), xs[i]? = some x → ∃ u, us[i]? = some u ∧ R u x
theorem LAt.nil {α : Type} {R : Addr → α → Prop} : LAt R [] [] := ⟨rfl, fun i x h => by simp at h⟩
theorem LAt.mono {α : Type} {R S : Addr → α → Prop} {us : List Addr} {xs : List α} (h : LAt R us xs) (k : ∀ u x, u ∈ us → x ∈ xs → R u x → S u x) : LAt S us xs :=
  ⟨h.1, fun i x hx => let ⟨u, h1, h2⟩ := h.2 i x hx; ⟨u, h1, k u x (List.mem_of_getElem? h1) (List.mem_of_getElem? hx) h2⟩⟩
theorem LAt.append {α : Type} {R : Addr → α → Prop} {us vs : List Addr} {xs ys : List α} (h : LAt R us xs) (k : LAt R vs ys) : LAt R (us ++ vs) (xs ++ ys) := by
  refine ⟨by rw [List.length_append, List.length_append, h.1, k.1], fun i x hx => ?_⟩
  by_cases c : i < xs.length
  · rw [List.getElem?_append_left c] at hx
    rw [List.getElem?_append_left (by rw [h.1]; exact c)]
    exact h.2 i x hx
  · rw [List.getElem?_append_right (by omega)] at hx
    rw [List.getElem?_append_right (by rw [h.1]; omega), h.1]
    exact k.2 _ x hx
theorem LAt.one {α : Type} {R : Addr → α → Prop} {u : Addr} {x : α} (h : R u x) : LAt R [u] [x] := ⟨rfl, fun i y hy => by
  match i, hy with
  | 0, hy =>
    obtain rfl : x = y := Option.some.inj hy
    exact ⟨u, rfl, h⟩
  | i + 1, hy => simp at hy⟩
theorem LAt.at {α : Type} {R : Addr → α → Prop} {us : List Addr} {xs : List α} {i : Nat} {v : V} (h : LAt R us xs) (e : (refs us)[i]? = some v) : ∃ u x, v = .ref u ∧ us[i]? = some u ∧ xs[i]? = some x ∧ R u x := by
  unfold refs at e
  rw [List.getElem?_map] at e
  obtain ⟨u, e1, rfl⟩ := Option.map_eq_some_iff.mp e
  have hi : i < xs.length := by rw [← h.1]; exact (List.getElem?_eq_some_iff.mp e1).1
  obtain ⟨u', e2, e3⟩ := h.2 i _ (List.getElem?_eq_getElem hi)
  rw [e1] at e2
  cases e2
  exact ⟨u, _, rfl, e1, List.getElem?_eq_getElem hi, e3⟩
theorem LAt.len {α : Type} {R : Addr → α → Prop} {us : List Addr} {xs : List α} (h : LAt R us xs) : (refs us).length = xs.length := by unfold refs; rw [List.length_map, h.1]
theorem refs_snoc (us : List Addr) (u : Addr) : refs us ++ [V.ref u] = refs (us ++ [u]) := by unfold refs; rw [List.map_append]; rfl
theorem BsAt.lat {H : Hp} {rs : List Addr} {bs : List Blk} (h : BsAt H rs bs) : LAt (fun r b => H r = some (fourV b)) rs bs := h
/-- an item (side, block), and a group of them, in a list -/
def ItL (H : Hp) (u : Addr) (x : Itm) : Prop := ∃ r, H u = some (.tup [.int (x.1 : Int), .ref r]) ∧ H r = some (fourV x.2)
def GrL (H : Hp) (a : Addr) (g : List Itm) : Prop := ∃ us, H a = some (.lst (refs us)) ∧ LAt (ItL H) us g
def CovAt (H : Hp) (t : Addr) (b : Blk) : Prop := H t = some (.tup [.int (coverB b).1, .int (coverB b).2])
theorem ItL.same {H H' : Hp} {u : Addr} {x : Itm} (s : Same H H') (h : ItL H u x) : ItL H' u x := let ⟨r, h1, h2⟩ := h; ⟨r, s _ _ h1, s _ _ h2⟩
theorem ItL.updL {H : Hp} {u p : Addr} {x : Itm} {xs ys : List V} (h : ItL H u x) (k : H p = some (.lst xs)) : ItL (upd H p (.lst ys)) u x := by
  obtain ⟨r, h1, h2⟩ := h
  exact ⟨r, by rw [upd_ne (fun c => by rw [c, k] at h1; cases h1)]; exact h1, by rw [upd_ne (fun c => by rw [c, k] at h2; cases h2)]; exact h2⟩
theorem GrL.same {H H' : Hp} {a : Addr} {g : List Itm} (s : Same H H') (h : GrL H a g) : GrL H' a g := let ⟨us, h1, h2⟩ := h; ⟨us, s _ _ h1, h2.mono fun _ _ _ _ k => k.same s⟩
theorem GrL.updL {H : Hp} {a p : Addr} {g : List Itm} {xs ys : List V} (h : GrL H a g) (k : H p = some (.lst xs)) (n : a ≠ p) : GrL (upd H p (.lst ys)) a g := let ⟨us, h1, h2⟩ := h
  ⟨us, by rw [upd_ne n]; exact h1, h2.mono fun _ _ _ _ q => q.updL k⟩
/-- the items' numbers -/
def LowI (g : List Itm) : Prop := ∀ x ∈ g, x.2.1 ≤ 100 ∧ x.2.2.1 ≤ 100
def firstG (g : List Itm) : Int := ((g.map loI).min?).getD 0
theorem firstG_of {g : List Itm} {m : Int} (h : IsMin m (g.map loI)) : m = firstG g := by
  unfold firstG
  rw [List.min?_eq_some_iff.mpr h]
  rfl
theorem firstG_is {g : List Itm} (h : g ≠ []) : IsMin (firstG g) (g.map loI) := by
  unfold firstG
  cases e : (g.map loI).min? with
  | none =>
    rw [List.min?_eq_none_iff] at e
    exact absurd (List.map_eq_nil_iff.mp e) h
  | some m => exact List.min?_eq_some_iff.mp e
def metL (lo hi : Int) (g : List Itm) : Bool := (g.map fun y => decide ((coverB y.2).1 ≤ hi) && decide (lo ≤ (coverB y.2).2)).any id
def spMet : Sp := fun vs H Q _ => ∃ (a : Addr) (lo hi : Int) (g : List Itm), vs = [.ref a, .int lo, .int hi] ∧ GrL H a g ∧ LowI g ∧ g.length ≤ 1000 ∧ ∀ H', Same H H' → Q (.bl (metL lo hi g)) H'
def spFirst : Sp := fun vs H Q _ => ∃ (a : Addr) (g : List Itm), vs = [.ref a] ∧ GrL H a g ∧ LowI g ∧ g ≠ [] ∧ g.length ≤ 1000 ∧ ∀ H', Same H H' → Q (.int (firstG g)) H'
end XR
namespace K62
open PySem L2 XR KT
section
variable {P : Program} {w : World} {K : PySem.W.Frag} {mg : Str → Option Value} {base : Heap}
abbrev sLCover : Stmt := top 48
theorem scLCover : FnScope ["_law_part"] ["_law_part"] (defScope sLCover) := ⟨rfl, rfl, rfl, by decide +kernel, rfl, by decide +kernel, by decide +kernel⟩
theorem ok_lCover {f : Addr} {fd : FuncData} (F : Fun K "_law_cover" "_law_cover" sLCover f fd) : FnOk P w K mg base CX0 1 f fd ["_law_part"] (spCover K) := by
  refine F.ok scLCover (fun vs H Q E h => ?_) (fun cdv A outer s H vs Q E hr h => ?_)
  · obtain ⟨r, b, rfl, _⟩ := h
    rfl
  · obtain ⟨r, ⟨a, b, c, d⟩, rfl, hq, h1, h2, z⟩ := h
    dsimp only at hq h1 h2
    refine ⟨_, pss_one (ps_ret (pe_ifExp (pt_cmpR op_gt (pe_ix ix_tup (pv 0) pe_int (fun _ _ => rfl)) (pe_ix ix_tup (pv 0) pe_int (fun _ _ => rfl)) (nomark _)) (pe_tup (pa_cons (pe_op op_mul pe_int (pe_ix ix_tup (pv 0) pe_int (fun _ _ => rfl))) (pa_cons (pe_op op_mul pe_int (pe_ix ix_tup (pv 0) pe_int (fun _ _ => rfl))) pa_nil)))
        (pe_tup (pa_cons (pe_op op_add (pe_op op_mul pe_int (pe_ix ix_tup (pv 0) pe_int (fun _ _ => rfl))) pe_int) (pa_cons (pe_op op_sub (pe_op op_mul pe_int (pe_ix ix_tup (pv 0) pe_int (fun _ _ => rfl))) pe_int) pa_nil))))), ?_⟩
    refine ⟨_, rfl, r, _, _, _, rfl, rfl, hq, atI_nat (j := 3) rfl, _, rfl, r, _, _, _, rfl, rfl, hq, atI_nat (j := 2) rfl, _, _, rfl, rfl, _, rfl, ?_⟩
    have m1 : CMul 2 (a : Int) := .inl ⟨by omega, by omega⟩
    have m2 : CMul 2 (b : Int) := .inl ⟨by omega, by omega⟩
    by_cases hc : c < d
    · have ec : coverB (a, b, c, d) = (2 * (a : Int), 2 * (b : Int)) := if_pos hc
      rw [ec] at z
      rw [decide_eq_true (show (d : Int) > (c : Int) by omega)]
      refine iteT ⟨_, rfl, r, _, _, _, rfl, rfl, hq, atI_nat (j := 0) rfl, _, _, rfl, rfl, m1, _, rfl, r, _, _, _, rfl, rfl, hq, atI_nat (j := 1) rfl, _, _, rfl, rfl, m2, ll20 (by show 2 ≤ 20; decide), fun t nt => ?_⟩
      exact z t _ (same_upd nt) nt upd_same
    · have ec : coverB (a, b, c, d) = (2 * (a : Int) + 1, 2 * (b : Int) - 1) := if_neg hc
      rw [ec] at z
      rw [decide_eq_false (show ¬ (d : Int) > (c : Int) by omega)]
      refine iteF ⟨_, rfl, r, _, _, _, rfl, rfl, hq, atI_nat (j := 0) rfl, _, _, rfl, rfl, m1, _, _, rfl, rfl, _, rfl, r, _, _, _, rfl, rfl, hq, atI_nat (j := 1) rfl, _, _, rfl, rfl, m2, _, _, rfl, rfl, ll20 (by show 2 ≤ 20; decide), fun t nt => ?_⟩
      exact z t _ (same_upd nt) nt upd_same
end
end K62
namespace K62
open PySem L2 XR KT
section
variable {P : Program} {w : World} {K : PySem.W.Frag} {mg : Str → Option Value} {base : Heap}
abbrev sMet : Stmt := top 50
abbrev nMet : List Str := ["_law_group", "_law_low", "_law_high", "_law_spans", "_law_side", "_law_part", "_law_span"]
theorem scMet : FnScope nMet ["_law_group", "_law_low", "_law_high"] (defScope sMet) := ⟨rfl, rfl, rfl, by decide +kernel, rfl, by decide +kernel, by decide +kernel⟩
theorem ok_met {f fC : Addr} {fd fdC : FuncData} (F : Fun K "_law_is_met" "_law_is_met" sMet f fd) (T : Blt mg) (mA : mg "any" = none)
    (FC : Fun K "_law_cover" "_law_cover" sLCover fC fdC) (GC : FnOk P w K mg base CX0 1 fC fdC ["_law_part"] (spCover K)) (bC : Binds K fdC ["_law_part"] []) (mC : mg "_law_cover" = some (.ref fC)) : FnOk P w K mg base CX0 2 f fd ["_law_group", "_law_low", "_law_high"] spMet := by
  refine F.ok scMet (fun vs H Q E h => ?_) (fun cdv A outer s H vs Q E hr h => ?_)
  · obtain ⟨a, lo, hi, g, rfl, _⟩ := h
    rfl
  · obtain ⟨a, lo, hi, g, rfl, ⟨us, ha, hus⟩, low, glen, z⟩ := h
    refine ⟨_, pss_cons (ps_setLc (i := 3) (own := [("_law_side", 4), ("_law_part", 5)]) (g := gTup K 2 (gCons (gName 4) (gCons (gName 5) gNil))) (tt := tYes) (te := tCall (spCover K) [] E0 (tCons (tVar 5) tNil)) rfl scMet.nd rfl rfl (sw_true rfl rfl rfl (by decide +kernel))
          (pi_list (pv 0)) (blkOk_by (own := [("_law_side", 4), ("_law_part", 5)]) (N := nMet) (sc := defScope sMet) (by decide +kernel)) (fun _ _ _ _ _ => pg_tup rfl (pgs_cons (pg_name (i := 4) scMet.nd rfl (.inl rfl)) (pgs_cons (pg_name (i := 5) scMet.nd rfl (.inl rfl)) pgs_nil))) (fun _ _ _ _ _ => pts_nil)
          (fun _ _ _ _ _ => pe_call GC hr rfl mC FC.kp bC .nil pass0 (pa_cons (pv 5) pa_nil)))
      (pss_one (ps_ret (pe_callB (cr_any rfl) (by rfl) mA (by decide +kernel) (pa_cons (pe_lc (own := [("_law_span", 6)]) (g := gName 6) (tt := tYes)
          (te := tAndV (tOp (rI0 fun i j => V.bl (decide (i ≤ j))) (tOp (rIxT K) (tVar 6) (tC (.int 0))) (tVar 2)) (tOp (rI0 fun i j => V.bl (decide (i ≤ j))) (tVar 1) (tOp (rIxT K) (tVar 6) (tC (.int 1))))) rfl scMet.nd (pi_list (pv 3))
          (blkOk_by (own := [("_law_span", 6)]) (N := nMet) (sc := defScope sMet) (by decide +kernel)) (fun _ _ _ _ _ => pg_name (i := 6) scMet.nd rfl (.inl rfl)) (fun _ _ _ _ _ => pts_nil)
          (fun _ _ _ _ _ => pe_and (pe_cmpR op_le (pe_ix ix_tup (pv 6) pe_int (fun _ _ => rfl)) (pv 2) (nomark _)) (pe_one (pe_cmpR op_le (pv 1) (pe_ix ix_tup (pv 6) pe_int (fun _ _ => rfl)) (nomark _))))) pa_nil)))), ?_⟩
    refine ⟨_, rfl, a, rfl, ⟨_, SqL.of ha⟩, fun D nD => ?_⟩
    refine lc_list (K := K) (a := a) (xs := refs us) (fun j Hx => Same H Hx ∧ ∃ ts, Hx D = some (.lst (refs ts)) ∧ LAt (fun t (x : Itm) => CovAt Hx t x.2) ts (g.take j)) ⟨same_upd nD, [], upd_same, .nil⟩ (fun j Hx _ hh => SqL.of (hh.1 _ _ ha)) ?_ ?_
    · rintro j x Hx hx ⟨sx, ts, hD, hts⟩
      obtain ⟨u, y, rfl, _, hy, r, h1, h2⟩ := hus.at hx
      have h1' := sx _ _ h1
      have h2' := sx _ _ h2
      have lw := low y (List.mem_of_getElem? hy)
      refine ⟨u, _, rfl, SqT.of h1', rfl, _, _, rfl, _, _, rfl, rfl, rfl, ?_⟩
      unfold tYes
      dsimp only
      rw [if_pos rfl]
      refine ⟨_, rfl, r, y.2, rfl, fourV_sq h2', lw.1, lw.2, fun t H2 s2 nt ht => ?_⟩
      have hD2 := s2 _ _ hD
      refine ⟨_, hD2, ?_, fun b o h => ?_, ts ++ [t], ?_, ?_⟩
      · rw [hts.len, List.length_take]
        exact Nat.lt_of_le_of_lt (Nat.le_trans (Nat.min_le_right _ _) glen) (by decide)
      · rw [upd_ne (ne_of_none h nD)]
        exact s2 _ _ (sx _ _ h)
      · rw [upd_same, refs_snoc]
      · rw [List.take_add_one, hy]
        have ne : ∀ {b : Addr} {c : Blk}, CovAt H2 b c → CovAt (upd H2 D (.lst (refs ts ++ [V.ref t]))) b c := fun {b c} e => by
          unfold CovAt at e ⊢
          rw [upd_ne (fun q => by rw [q, hD2] at e; cases e)]
          exact e
        exact (hts.mono fun u x _ _ k => ne (s2 _ _ k)).append (.one (ne ht))
    rintro H2 ⟨s2, ts, hD, hts⟩
    rw [hus.len, List.take_length] at hts
    refine ⟨_, rfl, D, rfl, ⟨_, SqL.of hD⟩, fun D2 nD2 => ?_⟩
    refine lc_list (K := K) (a := D) (xs := refs ts) (fun j Hx => Same H2 Hx ∧ Hx D2 = some (.lst (((g.take j).map fun y => decide ((coverB y.2).1 ≤ hi) && decide (lo ≤ (coverB y.2).2)).map V.bl))) ⟨same_upd nD2, upd_same⟩ (fun j Hx _ hh => SqL.of (hh.1 _ _ hD)) ?_ ?_
    · rintro j x Hx hx ⟨sx, hDx⟩
      obtain ⟨t, y, rfl, _, hy, ht⟩ := hts.at hx
      have ht' := sx _ _ ht
      have fin : ∀ c : Bool, c = (decide ((coverB y.2).1 ≤ hi) && decide (lo ≤ (coverB y.2).2)) → ∃ acc, Hx D2 = some (.lst acc) ∧ acc.length < sizeLine ∧ Same H2 (upd Hx D2 (.lst (acc ++ [V.bl c]))) ∧ upd Hx D2 (.lst (acc ++ [V.bl c])) D2 = some (.lst (((g.take (j + 1)).map fun y => decide ((coverB y.2).1 ≤ hi) && decide (lo ≤ (coverB y.2).2)).map V.bl)) := fun c hc => by
        refine ⟨_, hDx, ?_, fun b o h => ?_, ?_⟩
        · rw [List.length_map, List.length_map, List.length_take]
          exact Nat.lt_of_le_of_lt (Nat.le_trans (Nat.min_le_right _ _) glen) (by decide)
        · rw [upd_ne (ne_of_none h nD2)]
          exact sx _ _ h
        · rw [upd_same, List.take_add_one, hy, List.map_append, List.map_append, hc]
          rfl
      refine ⟨rfl, ?_⟩
      unfold tYes
      dsimp only
      rw [if_pos rfl]
      refine ⟨_, rfl, t, _, _, _, rfl, rfl, SqT.of ht', atI_nat (j := 0) rfl, _, rfl, _, _, rfl, rfl, _, rfl, ?_⟩
      by_cases c : (coverB y.2).1 ≤ hi
      · rw [decide_eq_true c, if_pos rfl]
        refine ⟨_, rfl, _, rfl, t, _, _, _, rfl, rfl, SqT.of ht', atI_nat (j := 1) rfl, _, _, rfl, rfl, ?_⟩
        exact fin _ (by rw [decide_eq_true c, Bool.true_and])
      · rw [decide_eq_false c, if_neg (by decide)]
        exact fin _ (by rw [decide_eq_false c, Bool.false_and])
    rintro H3 ⟨s3, hD3⟩
    rw [hts.len, List.take_length] at hD3
    refine ⟨D2, _, rfl, SqL.of hD3, ?_⟩
    exact z _ (s2.trans s3)
abbrev sFirst : Stmt := top 51
abbrev nFirst : List Str := ["_law_group", "_law_side", "_law_part"]
theorem scFirst : FnScope nFirst ["_law_group"] (defScope sFirst) := ⟨rfl, rfl, rfl, by decide +kernel, rfl, by decide +kernel, by decide +kernel⟩
theorem ok_first {f fC : Addr} {fd fdC : FuncData} (F : Fun K "_law_first_place" "_law_first_place" sFirst f fd) (T : Blt mg)
    (FC : Fun K "_law_cover" "_law_cover" sLCover fC fdC) (GC : FnOk P w K mg base CX0 1 fC fdC ["_law_part"] (spCover K)) (bC : Binds K fdC ["_law_part"] []) (mC : mg "_law_cover" = some (.ref fC)) : FnOk P w K mg base CX0 2 f fd ["_law_group"] spFirst := by
  refine F.ok scFirst (fun vs H Q E h => ?_) (fun cdv A outer s H vs Q E hr h => ?_)
  · obtain ⟨a, g, rfl, _⟩ := h
    rfl
  · obtain ⟨a, g, rfl, ⟨us, ha, hus⟩, low, gne, glen, z⟩ := h
    refine ⟨_, pss_one (ps_ret (pe_callB (cr_min rfl) (by rfl) T.min (by decide +kernel) (pa_cons (pe_lc (own := [("_law_side", 1), ("_law_part", 2)]) (g := gTup K 2 (gCons (gName 1) (gCons (gName 2) gNil))) (tt := tYes) (te := tOp (rIxT K) (tCall (spCover K) [] E0 (tCons (tVar 2) tNil)) (tC (.int 0))) rfl scFirst.nd
          (pi_list (pv 0)) (blkOk_by (own := [("_law_side", 1), ("_law_part", 2)]) (N := nFirst) (sc := defScope sFirst) (by decide +kernel)) (fun _ _ _ _ _ => pg_tup rfl (pgs_cons (pg_name (i := 1) scFirst.nd rfl (.inl rfl)) (pgs_cons (pg_name (i := 2) scFirst.nd rfl (.inl rfl)) pgs_nil))) (fun _ _ _ _ _ => pts_nil)
          (fun _ _ _ _ _ => pe_ix ix_tup (pe_call GC hr rfl mC FC.kp bC .nil pass0 (pa_cons (pv 2) pa_nil)) pe_int (fun _ _ => rfl))) pa_nil))), ?_⟩
    refine ⟨_, rfl, a, rfl, ⟨_, SqL.of ha⟩, fun D nD => ?_⟩
    refine lc_list (K := K) (a := a) (xs := refs us) (fun j Hx => Same H Hx ∧ Hx D = some (.lst (((g.take j).map loI).map V.int))) ⟨same_upd nD, upd_same⟩ (fun j Hx _ hh => SqL.of (hh.1 _ _ ha)) ?_ ?_
    · rintro j x Hx hx ⟨sx, hD⟩
      obtain ⟨u, y, rfl, _, hy, r, h1, h2⟩ := hus.at hx
      have h1' := sx _ _ h1
      have h2' := sx _ _ h2
      have lw := low y (List.mem_of_getElem? hy)
      refine ⟨u, _, rfl, SqT.of h1', rfl, _, _, rfl, _, _, rfl, rfl, rfl, ?_⟩
      unfold tYes
      dsimp only
      rw [if_pos rfl]
      refine ⟨_, rfl, r, y.2, rfl, fourV_sq h2', lw.1, lw.2, fun t H2 s2 nt ht => ?_⟩
      have hD2 := s2 _ _ hD
      refine ⟨t, _, _, _, rfl, rfl, SqT.of ht, atI_nat (j := 0) rfl, _, hD2, ?_, fun b o h => ?_, ?_⟩
      · rw [List.length_map, List.length_map, List.length_take]
        exact Nat.lt_of_le_of_lt (Nat.le_trans (Nat.min_le_right _ _) glen) (by decide)
      · rw [upd_ne (ne_of_none h nD)]
        exact s2 _ _ (sx _ _ h)
      · rw [upd_same, List.take_add_one, hy, List.map_append, List.map_append]
        rfl
    rintro H2 ⟨s2, hD⟩
    rw [hus.len, List.take_length] at hD
    refine ⟨D, _, rfl, SqL.of hD, ?_, fun m a1 a2 => ?_⟩
    · rw [List.length_map]
      exact List.length_pos_iff.mpr gne
    · have e := firstG_of ⟨a1, a2⟩
      rw [e]
      exact z _ s2
end
end K62
/-! enumerate(x, start=1) of a list or a tuple. -/
namespace PySem
open Sem (wp)
theorem meets_enum1 {v : Value} {o : Obj} {H : Heap → Prop} (B : Begins v o H) :
    Meets (Builtin.«enumerate.__new__» ⟨[.type "enumerate", v], []⟩) (fun _ R s => H s.heap ∧
      R (.ok (.ret (.ref (s.heap.push o).objs.size))) { s with heap := (s.heap.push o).push { cls := .type "enumerate", data := .fields #[.none, .bool false, .ref s.heap.objs.size, rawInt 0, .none, .none] } }) :=
  .of_wp fun prog w A R s h => by
    obtain ⟨hp, g, d, tk, os⟩ := s; obtain ⟨h1, h⟩ := h
    have hsub := sub_enumerate
    have q1 : ∀ {A' : Around} {E : Value → Shared → Prop} {Q : Value → Shared → Prop}, Q (.ref hp.objs.size) ⟨hp.push o, g, d, tk, os⟩ → wpAny (model prog w) A' (pyIter v) Q E ⟨hp, g, d, tk, os⟩ :=
      fun q => B.iter prog w _ _ ⟨hp, g, d, tk, os⟩ _ h1 q
    wp_walk using q1
    refine wpAny_stack_any fun st => wpAny_pure ?_
    split
    · rename_i c _ _ _ _ _
      cases (c == Value.type "enumerate")
      · wp_walk using q1
        exact ⟨_, rfl, h⟩
      · wp_walk using q1
        exact ⟨_, rfl, h⟩
    · wp_walk using q1
      exact ⟨_, rfl, h⟩
section
variable {prog : Program} {w : World} {A : Around} {E : Value → Shared → Prop} {s : Shared}
theorem call_enum1 {v : Value} {o : Obj} {H : Heap → Prop} {Q : Value → Shared → Prop} (B : Begins v o H) (h1 : H s.heap)
    (h : ∀ h', IsEnum h' (s.heap.objs.size + 1) s.heap.objs.size 0 .none → h'.get? s.heap.objs.size = some o → h'.objs.size = s.heap.objs.size + 2 →
      (∀ b o, s.heap.get? b = some o → h'.get? b = some o) → Q (.ref (s.heap.objs.size + 1)) { s with heap := h' }) :
    wpAny (model prog w) A (call (.type "enumerate") [v]) Q E s := by
  refine callType_new F.called_enumerate (by decide) (F.typeCall_enumerate_1 _) (F.newCall_enumerate_1 _) (fun obj => F.args_object_init_2 obj _) F.entry_enumerate_new
    (meets_enum1 B) ⟨h1, ?_⟩
  have hz : (s.heap.push o).objs.size = s.heap.objs.size + 1 := Heap.size_push ..
  show _ ∧ _
  rw [hz]
  have he : IsEnum ((s.heap.push o).push { cls := .type "enumerate", data := .fields #[.none, .bool false, .ref s.heap.objs.size, rawInt 0, .none, .none] }) (s.heap.objs.size + 1) s.heap.objs.size 0 .none := by
    have := Heap.get?_push_size (s.heap.push o) (o := { cls := .type "enumerate", data := .fields #[.none, .bool false, .ref s.heap.objs.size, rawInt 0, .none, .none] }) rfl
    rw [hz] at this; exact this
  refine ⟨⟨_, he, rfl⟩, h _ he (Heap.get?_push_of_some _ (Heap.get?_push_size _ B.free)) (by rw [Heap.size_push, hz]) fun b o x => Heap.get?_push_of_some _ (Heap.get?_push_of_some _ x)⟩
end
end PySem
namespace XR
open PyProof.Rows hiding St
open PySem L2
section
variable {M : Model} {A : Around} {E : Value → Shared → Prop} {s : Shared} {env : Env}
theorem callWith_typeKw {pos : Pos} {T : String} {first : List Value} {args : List (Bool × Sem Value)} {keywords : List (Option Str × Sem Value)} {Q : Value → Shared → Prop}
    (hplain : args.any (·.1) = false) (hkw : keywords.any (·.1.isNone) = false)
    (h : wpAny M A (evalArgs (.type T) true args keywords) (fun a s₁ => wpAny M A (call (.type T) (first ++ a.pos) a.kw) Q E s₁) E s) :
    wpAny M A (callWith pos (.type T) first args keywords) Q E s := by
  unfold callWith
  refine wpAny_bind (wpAny_holding (wpAny_mono h (fun a s₁ h₁ => wpAny_bind (wpAny_standAt ?_)) fun _ _ x => x))
  simp only [hplain, hkw, Bool.or_false]
  refine wpAny_bind (wpAny_pure ?_)
  exact wpAny_bind (wpAny_mono h₁ (fun r s₂ hr => wpAny_bind (wpAny_holding (wpAny_point (wpAny_pure hr)))) fun _ _ x => x)
theorem callWith_tkw {pos : Pos} {T : String} {e : Expr} {rest : List Expr} {kws : List Keyword} {Q : Value → Shared → Prop}
    (h : wpAny M A (spliced (backTo pos (starEach (e :: rest) env))) (fun vs s₁ => wpAny M A (evalAll ((backToKw pos (keywordEach kws env)).map (·.2)))
      (fun kvs s₂ => wpAny M A (call (.type T) vs (((backToKw pos (keywordEach kws env)).filterMap (·.1)).zip kvs)) Q E s₂) E s₁) E s)
    (he : backTo pos (starEach (e :: rest) env) = (false, eval e env) :: backTo pos (starEach rest env) := by rfl)
    (hplain : (backTo pos (starEach (e :: rest) env)).any (·.1) = false := by rfl)
    (hall : (backToKw pos (keywordEach kws env)).all (·.1.isSome) = true := by rfl)
    (hkw : (backToKw pos (keywordEach kws env)).any (·.1.isNone) = false := by rfl) :
    wpAny M A (callWith pos (.type T) [] (backTo pos (starEach (e :: rest) env)) (backToKw pos (keywordEach kws env))) Q E s := by
  refine callWith_typeKw hplain hkw ?_
  rw [he] at h ⊢
  exact evalArgs_kwB hall h
end
/-- a list (true) or a tuple (false) -/
def SqW (K : PySem.W.Frag) : Bool → Hp → Addr → List V → Prop
  | true => fun H a xs => SqL K H a xs
  | false => fun H a xs => SqT K H a xs
def IteW (K : PySem.W.Frag) (a : Addr) (b : Bool) (n0 : Nat) : It :=
  ⟨fun i H => ∃ (xs : List V) (x : V), SqW K b H a xs ∧ xs[i]? = some x, fun i H v H' => ∃ T x, v = .ref T ∧ H T = none ∧ H' = L2.upd H T (.tup [.int ((i + n0 : Nat) : Int), x]) ∧ ∀ xs, SqW K b H a xs → xs[i]? = some x, fun i H => ∃ xs : List V, SqW K b H a xs ∧ xs.length ≤ i⟩
section
variable {prog : Program} {w : World} {A : Around} {E : Value → Shared → Prop} {s : Shared}
theorem enum_tuple_end {e it t : Addr} {i : Int} {j : Nat} {items : Array Value} {old : Value} {Q : Option Value → Shared → Prop} (hh : A.handled = none)
    (he : IsEnum s.heap e it i old) (hit : s.heap.IsTupleIter it t j) (ht : s.heap.IsTuple t items) (hx : items[j]? = none)
    (hQ : ∀ h', Heap.ExtBut it s.heap h' → Q none { s with heap := h' }) : wpAny (model prog w) A (pyNext (.ref e)) Q E s := by
  have hT : s.TypeIs (.ref e) "enumerate" := ⟨_, he, rfl⟩
  unfold pyNext
  refine wpAny_bind (wpAny_attempt (wpAny_callSpecial?_slot (name := Str.ofString "__next__") hT F.slot_enumerate_next
    (wpAny_call_entry F.slot_enumerate_next hT F.entry_enumerate_next ?_ (F.args_enumerate_next_1 _))))
  show wpAny _ _ (field (.ref e) 2 >>= _) _ _ _
  refine wpAny_bind (wpAny_field he rfl (x := .ref it) rfl ?_)
  refine wpAny_bind (wpAny_nextOf_tuple_end hh hit ht hx fun h' x he' hx' => ?_)
  obtain ⟨o, ho, hc⟩ := hx'
  refine wpAny_bind (wpAny_isInstance (T := "StopIteration") (b := true) ⟨o, ho, hc⟩ isSubtype_stop ?_)
  exact wpAny_pure (hQ _ he')
end
section
variable {prog : Program} {w : World} {A : Around} {E : Value → Shared → Prop} {s : Shared}
theorem enum_list_end {e it t : Addr} {i : Int} {j : Nat} {items : Array Value} {old : Value} {Q : Option Value → Shared → Prop} (hh : A.handled = none)
    (he : IsEnum s.heap e it i old) (hit : s.heap.IsListIter it t j) (ht : s.heap.IsList t items) (hx : items[j]? = none)
    (hQ : ∀ h', Heap.ExtBut it s.heap h' → Q none { s with heap := h' }) : wpAny (model prog w) A (pyNext (.ref e)) Q E s := by
  have hT : s.TypeIs (.ref e) "enumerate" := ⟨_, he, rfl⟩
  unfold pyNext
  refine wpAny_bind (wpAny_attempt (wpAny_callSpecial?_slot (name := Str.ofString "__next__") hT F.slot_enumerate_next
    (wpAny_call_entry F.slot_enumerate_next hT F.entry_enumerate_next ?_ (F.args_enumerate_next_1 _))))
  show wpAny _ _ (field (.ref e) 2 >>= _) _ _ _
  refine wpAny_bind (wpAny_field he rfl (x := .ref it) rfl ?_)
  refine wpAny_bind (wpAny_nextOf_list_end hh hit ht hx fun h' x he' hx' => ?_)
  obtain ⟨o, ho, hc⟩ := hx'
  refine wpAny_bind (wpAny_isInstance (T := "StopIteration") (b := true) ⟨o, ho, hc⟩ isSubtype_stop ?_)
  exact wpAny_pure (hQ _ he')
end
theorem turn_enumL1 {P : Program} {w : World} {K : PySem.W.Frag} {elts : List Expr} {kk : Nat} {tpos : Pos} {n0 : Nat} (a e it : Addr) :
    Turn P w K (.Tuple elts kk tpos) (IteW K a true n0) [e, it] e (fun i h => (∃ old, IsEnum h e it ((i + n0 : Nat) : Int) old) ∧ h.IsListIter it a i ∧ e ≠ it ∧ e ≠ a ∧ a ≠ it) where
  mem := by simp
  obj := fun i h st b hb => by
    obtain ⟨⟨old, he⟩, ⟨o, ho, hc, hd⟩, _⟩ := st
    have e' : b = e ∨ b = it := by simpa using hb
    rcases e' with z | z
    · rw [z]; exact ⟨_, he, fun v q => nomatch q⟩
    · rw [z]; exact ⟨o, ho, fun v q => by rw [hd] at q; cases q⟩
  keep := fun i h h' st k => let ⟨⟨old, he⟩, hi, hne⟩ := st; ⟨⟨old, k e (by simp) _ he⟩, hi.at fun o q => k it (by simp) o q, hne⟩
  item := by
    intro X hP hw hK hc i pins s σ H E I hf st hg
    subst hP hw hK
    obtain ⟨⟨old, he⟩, hit, hne, hea, hai⟩ := st
    obtain ⟨xs, x, hq, hx⟩ := hg
    have hq : SqL X.K H a xs := hq
    obtain ⟨its, rv, p, hz⟩ := I.list hq
    have p' : s.heap.IsList a its.toArray := p.isList
    obtain ⟨u, hu, ru⟩ := rv.get hx
    have hel : e < s.heap.objs.size := Heap.lt_size he
    have hil : it < s.heap.objs.size := by obtain ⟨_, q, _⟩ := hit; exact Heap.lt_size q
    have hlt : i < its.toArray.size := by
      have := (List.getElem?_eq_some_iff.mp hu).1
      simpa using this
    refine wpAny_pyNext_enum_itemC (Draws.list (A := X.A.in1) (I.ok.hd hc) it a hai its.toArray) he ⟨hit, p'⟩ hlt hne (by simp [hne, hea]) fun u' h' tk hu' ho hst' hT hsz hk => ?_
    obtain ⟨hit', _⟩ := hst'
    have eu : u' = u := by
      have h1 : its[i]? = some u' := by simpa using hu'
      rw [hu] at h1
      exact (Option.some.inj h1).symm
    subst eu
    refine ⟨_, rfl, wpAny_letOwnedTupleGo_enum (s := { s with heap := h', toks := tk + 1 }) ho fun h'' he' sb => ?_⟩
    have hT2 : h''.get? s.heap.objs.size = some { cls := .type "tuple", data := .seq #[.int ((i + n0 : Nat) : Int) tk, u'] } := (sb.2 _ (Nat.ne_of_gt hel)).trans hT
    have new : ObjOk X.prog X.w (L2.upd H s.heap.objs.size (.tup [.int ((i + n0 : Nat) : Int), x])) h'' s.heap.objs.size (.tup [.int ((i + n0 : Nat) : Int), x]) :=
      ⟨by show 2 ≤ sizeLine; decide, [.int ((i + n0 : Nat) : Int) tk, u'], .cons ⟨_, rfl⟩ (.cons ru .nil), ⟨_, hT2, rfl, _, rfl⟩⟩
    have I1 : Inv X pins σ (L2.upd H s.heap.objs.size (.tup [.int ((i + n0 : Nat) : Int), x])) { s with heap := h'', toks := tk + 1 } :=
      I.turnedNew (ch := [e, it]) (fun b ob hb q => (sb.2 b (fun z => hb (by simp [z]))).trans (hk b ob (fun z => hb (by simp [z])) (fun z => hb (by simp [z])) q)) hf (Nat.le_refl _) new
    refine ⟨.ref s.heap.objs.size, _, I1, rfl, ⟨_, x, rfl, I.hok.fresh (Nat.le_refl _), rfl, fun ys hy => by rw [I.list_inj hy hq]; exact hx⟩, ⟨⟨u', ?_⟩, hit'.at fun o q => (sb.2 it (Ne.symm hne)).trans q, hne, hea, hai⟩, fun b hb => ?_⟩
    · have e1 : ((i + 1 + n0 : Nat) : Int) = ((i + n0 : Nat) : Int) + 1 := by omega
      rw [e1]; exact he'
    · have hb' : b < s.heap.objs.size := by
        have e' : b = e ∨ b = it := by simpa using hb
        rcases e' with z | z
        · rw [z]; exact hel
        · rw [z]; exact hil
      rw [upd_ne (Nat.ne_of_lt hb')]
      exact (hf b hb).1
  done := by
    intro X hP hw hK hc i pins s σ H E I hf st hg
    subst hP hw hK
    obtain ⟨⟨old, he⟩, hit, hne⟩ := st
    obtain ⟨xs, hq, hx⟩ := hg
    have hq : SqL X.K H a xs := hq
    obtain ⟨its, rv, p, hz⟩ := I.list hq
    obtain ⟨f0, f1, f2, f3, f4, f5⟩ := hf it (by simp)
    have hl := rv.length
    exact enum_list_end (I.ok.hd hc) he hit p.isList (by simp; omega) fun h' eb => ⟨rfl, I.turned (t' := s.toks) (fun b o hb q => eb b o hb q) f0 f1 f3 f4 f5⟩
  self := fun A i s Q E st h => let ⟨⟨_, he⟩, _⟩ := st; wpAny_pyIter_enum he h
theorem turn_enumT1 {P : Program} {w : World} {K : PySem.W.Frag} {elts : List Expr} {kk : Nat} {tpos : Pos} {n0 : Nat} (a e it : Addr) :
    Turn P w K (.Tuple elts kk tpos) (IteW K a false n0) [e, it] e (fun i h => (∃ old, IsEnum h e it ((i + n0 : Nat) : Int) old) ∧ h.IsTupleIter it a i ∧ e ≠ it ∧ e ≠ a ∧ a ≠ it) where
  mem := by simp
  obj := fun i h st b hb => by
    obtain ⟨⟨old, he⟩, ⟨o, ho, hc, hd⟩, _⟩ := st
    have e' : b = e ∨ b = it := by simpa using hb
    rcases e' with z | z
    · rw [z]; exact ⟨_, he, fun v q => nomatch q⟩
    · rw [z]; exact ⟨o, ho, fun v q => by rw [hd] at q; cases q⟩
  keep := fun i h h' st k => let ⟨⟨old, he⟩, hi, hne⟩ := st; ⟨⟨old, k e (by simp) _ he⟩, hi.at fun o q => k it (by simp) o q, hne⟩
  item := by
    intro X hP hw hK hc i pins s σ H E I hf st hg
    subst hP hw hK
    obtain ⟨⟨old, he⟩, hit, hne, hea, hai⟩ := st
    obtain ⟨xs, x, hq, hx⟩ := hg
    have hq : SqT X.K H a xs := hq
    obtain ⟨its, rv, p, hz⟩ := I.tuple hq
    have p' : s.heap.IsTuple a its.toArray := p
    obtain ⟨u, hu, ru⟩ := rv.get hx
    have hel : e < s.heap.objs.size := Heap.lt_size he
    have hil : it < s.heap.objs.size := by obtain ⟨_, q, _⟩ := hit; exact Heap.lt_size q
    have hlt : i < its.toArray.size := by
      have := (List.getElem?_eq_some_iff.mp hu).1
      simpa using this
    refine wpAny_pyNext_enum_itemC (Draws.tuple (A := X.A.in1) (I.ok.hd hc) it a hai its.toArray) he ⟨hit, p'⟩ hlt hne (by simp [hne, hea]) fun u' h' tk hu' ho hst' hT hsz hk => ?_
    obtain ⟨hit', _⟩ := hst'
    have eu : u' = u := by
      have h1 : its[i]? = some u' := by simpa using hu'
      rw [hu] at h1
      exact (Option.some.inj h1).symm
    subst eu
    refine ⟨_, rfl, wpAny_letOwnedTupleGo_enum (s := { s with heap := h', toks := tk + 1 }) ho fun h'' he' sb => ?_⟩
    have hT2 : h''.get? s.heap.objs.size = some { cls := .type "tuple", data := .seq #[.int ((i + n0 : Nat) : Int) tk, u'] } := (sb.2 _ (Nat.ne_of_gt hel)).trans hT
    have new : ObjOk X.prog X.w (L2.upd H s.heap.objs.size (.tup [.int ((i + n0 : Nat) : Int), x])) h'' s.heap.objs.size (.tup [.int ((i + n0 : Nat) : Int), x]) :=
      ⟨by show 2 ≤ sizeLine; decide, [.int ((i + n0 : Nat) : Int) tk, u'], .cons ⟨_, rfl⟩ (.cons ru .nil), ⟨_, hT2, rfl, _, rfl⟩⟩
    have I1 : Inv X pins σ (L2.upd H s.heap.objs.size (.tup [.int ((i + n0 : Nat) : Int), x])) { s with heap := h'', toks := tk + 1 } :=
      I.turnedNew (ch := [e, it]) (fun b ob hb q => (sb.2 b (fun z => hb (by simp [z]))).trans (hk b ob (fun z => hb (by simp [z])) (fun z => hb (by simp [z])) q)) hf (Nat.le_refl _) new
    refine ⟨.ref s.heap.objs.size, _, I1, rfl, ⟨_, x, rfl, I.hok.fresh (Nat.le_refl _), rfl, fun ys hy => by rw [I.tuple_inj hy hq]; exact hx⟩, ⟨⟨u', ?_⟩, hit'.at fun o q => (sb.2 it (Ne.symm hne)).trans q, hne, hea, hai⟩, fun b hb => ?_⟩
    · have e1 : ((i + 1 + n0 : Nat) : Int) = ((i + n0 : Nat) : Int) + 1 := by omega
      rw [e1]; exact he'
    · have hb' : b < s.heap.objs.size := by
        have e' : b = e ∨ b = it := by simpa using hb
        rcases e' with z | z
        · rw [z]; exact hel
        · rw [z]; exact hil
      rw [upd_ne (Nat.ne_of_lt hb')]
      exact (hf b hb).1
  done := by
    intro X hP hw hK hc i pins s σ H E I hf st hg
    subst hP hw hK
    obtain ⟨⟨old, he⟩, hit, hne⟩ := st
    obtain ⟨xs, hq, hx⟩ := hg
    have hq : SqT X.K H a xs := hq
    obtain ⟨its, rv, p, hz⟩ := I.tuple hq
    obtain ⟨f0, f1, f2, f3, f4, f5⟩ := hf it (by simp)
    have hl := rv.length
    exact enum_tuple_end (I.ok.hd hc) he hit (show s.heap.IsTuple a its.toArray from p) (by simp; omega) fun h' eb => ⟨rfl, I.turned (t' := s.toks) (fun b o hb q => eb b o hb q) f0 f1 f3 f4 f5⟩
  self := fun A i s Q E st h => let ⟨⟨_, he⟩, _⟩ := st; wpAny_pyIter_enum he h
def iEnumW (K : PySem.W.Frag) (ta : TA) : TI := fun σ H R => ta σ H fun vs H1 => ∃ a xs b, vs = [.ref a] ∧ SqW K b H1 a xs ∧ R (IteW K a b 1) H1
theorem pi_enumW {X : Cx} {e ev : Expr} {ta : TA} {p pos tpos kp : Pos} {elts : List Expr} {kk : Nat} (hg : Gl X "enumerate") (hm : X.mg "enumerate" = none) (ha : PA X [e] ta) (hv : PE X ev (tC (V.int 1))) (hs : starEach [e] X.env = [(false, eval e X.env)] := by rfl) :
    PI X (.Tuple elts kk tpos) (.Call (.Name "enumerate" p) [e] [⟨some "start", ev, kp⟩] pos) (iEnumW X.K ta) := by
  refine ⟨fun pins s σ H R I h => ?_⟩
  refine wpAny_Call_Name_kw (ld_blt I hg hm boot_enumerate ?_)
  refine callWith_tkw (thn (ha.run pos pins s σ H _ I h) fun us s1 ⟨vs, H1, I1, r1, q1⟩ => ?_) (by rw [hs]; rfl) (by rw [hs]; rfl)
  obtain ⟨a, xs, b, ex, hq, q⟩ := q1
  subst ex
  cases r1 with
  | cons r rr =>
    cases rr
    cases r
    refine kws_cons (thn (hv.run pins s1 σ H1 (fun x Hx => x = V.int 1 ∧ Hx = H1) I1 ⟨rfl, rfl⟩) fun u s2 ⟨x, H2, I2, ru, ex, eH⟩ => ?_)
    subst ex eH
    obtain ⟨tt, rfl⟩ : ∃ tt, u = .int 1 tt := ru
    refine kws_nil ?_
    show wpAny _ _ (call (.type "enumerate") [.ref a] [(Str.ofString "start", .int 1 tt)]) _ _ s2
    have fp : ∀ {h' : Heap}, (∀ b o, s2.heap.get? b = some o → h'.get? b = some o) → Inv X pins σ H2 { s2 with heap := h' } → ∀ b, b ∈ [s2.heap.objs.size + 1, s2.heap.objs.size] → FpOk X pins H2 b := fun {h'} hk I3 b hb => by
      have e' : b = s2.heap.objs.size + 1 ∨ b = s2.heap.objs.size := by simpa using hb
      have hle : s2.heap.objs.size ≤ b := by
        rcases e' with z | z
        · rw [z]; exact Nat.le_add_right _ _
        · rw [z]; exact Nat.le_refl _
      exact I2.fpOk hle (I2.hok.fresh hle)
    cases b with
    | true =>
      have hq' : SqL X.K H2 a xs := hq
      obtain ⟨its, rv, p', hz⟩ := I2.list hq'
      have hal : a < s2.heap.objs.size := by obtain ⟨_, q, _⟩ := p'.isList; exact Heap.lt_size q
      refine enum_begins_start (begins_list a its.toArray) p'.isList (by decide) (by decide) fun h' he hit hsz hk => wpAny_pyIter_enum he ?_
      have I3 : Inv X pins σ H2 { s2 with heap := h' } := I2.kept (t' := s2.toks) hk
      exact ⟨s2.heap.objs.size + 1, [s2.heap.objs.size + 1, s2.heap.objs.size], _, _, H2, rfl, I3, turn_enumL1 (n0 := 1) a (s2.heap.objs.size + 1) s2.heap.objs.size, ⟨⟨.none, he⟩, ⟨_, hit, rfl, rfl⟩, Nat.succ_ne_self _, Nat.ne_of_gt (Nat.lt_succ_of_lt hal), Nat.ne_of_lt hal⟩, fp hk I3, q⟩
    | false =>
      have hq' : SqT X.K H2 a xs := hq
      obtain ⟨its, rv, p', hz⟩ := I2.tuple hq'
      have p'' : s2.heap.IsTuple a its.toArray := p'
      have hal : a < s2.heap.objs.size := by obtain ⟨_, q, _⟩ := p''; exact Heap.lt_size q
      refine enum_begins_start (begins_tuple a its.toArray) p'' (by decide) (by decide) fun h' he hit hsz hk => wpAny_pyIter_enum he ?_
      have I3 : Inv X pins σ H2 { s2 with heap := h' } := I2.kept (t' := s2.toks) hk
      exact ⟨s2.heap.objs.size + 1, [s2.heap.objs.size + 1, s2.heap.objs.size], _, _, H2, rfl, I3, turn_enumT1 (n0 := 1) a (s2.heap.objs.size + 1) s2.heap.objs.size, ⟨⟨.none, he⟩, ⟨_, hit, rfl, rfl⟩, Nat.succ_ne_self _, Nat.ne_of_gt (Nat.lt_succ_of_lt hal), Nat.ne_of_lt hal⟩, fp hk I3, q⟩
def iEnumW0 (K : PySem.W.Frag) (ta : TA) : TI := fun σ H R => ta σ H fun vs H1 => ∃ a xs b, vs = [.ref a] ∧ SqW K b H1 a xs ∧ R (IteW K a b 0) H1
theorem pi_enumW0 {X : Cx} {e : Expr} {ta : TA} {p pos tpos : Pos} {elts : List Expr} {kk : Nat} (hg : Gl X "enumerate") (hm : X.mg "enumerate" = none) (ha : PA X [e] ta) (hs : starEach [e] X.env = [(false, eval e X.env)] := by rfl) :
    PI X (.Tuple elts kk tpos) (.Call (.Name "enumerate" p) [e] [] pos) (iEnumW0 X.K ta) := by
  refine ⟨fun pins s σ H R I h => ?_⟩
  refine Call_ (ld_blt I hg hm boot_enumerate (PyProof.Rows.callWith_type1 (thn (ha.run pos pins s σ H _ I h) fun us s2 ⟨vs, H2, I2, r1, q1⟩ => ?_) hs rfl))
  obtain ⟨a, xs, b, ex, hq, q⟩ := q1
  subst ex
  cases r1 with
  | cons r rr =>
    cases rr
    cases r
    have fp : ∀ {h' : Heap}, (∀ b o, s2.heap.get? b = some o → h'.get? b = some o) → Inv X pins σ H2 { s2 with heap := h' } → ∀ b, b ∈ [s2.heap.objs.size + 1, s2.heap.objs.size] → FpOk X pins H2 b := fun {h'} hk I3 b hb => by
      have e' : b = s2.heap.objs.size + 1 ∨ b = s2.heap.objs.size := by simpa using hb
      have hle : s2.heap.objs.size ≤ b := by
        rcases e' with z | z
        · rw [z]; exact Nat.le_add_right _ _
        · rw [z]; exact Nat.le_refl _
      exact I2.fpOk hle (I2.hok.fresh hle)
    cases b with
    | true =>
      have hq' : SqL X.K H2 a xs := hq
      obtain ⟨its, rv, p', hz⟩ := I2.list hq'
      have hal : a < s2.heap.objs.size := by obtain ⟨_, q, _⟩ := p'.isList; exact Heap.lt_size q
      refine call_enum1 (begins_list a its.toArray) p'.isList fun h' he hit hsz hk => wpAny_pyIter_enum he ?_
      have I3 : Inv X pins σ H2 { s2 with heap := h' } := I2.kept (t' := s2.toks) hk
      exact ⟨s2.heap.objs.size + 1, [s2.heap.objs.size + 1, s2.heap.objs.size], _, _, H2, rfl, I3, turn_enumL1 (n0 := 0) a (s2.heap.objs.size + 1) s2.heap.objs.size, ⟨⟨.none, he⟩, ⟨_, hit, rfl, rfl⟩, Nat.succ_ne_self _, Nat.ne_of_gt (Nat.lt_succ_of_lt hal), Nat.ne_of_lt hal⟩, fp hk I3, q⟩
    | false =>
      have hq' : SqT X.K H2 a xs := hq
      obtain ⟨its, rv, p', hz⟩ := I2.tuple hq'
      have p'' : s2.heap.IsTuple a its.toArray := p'
      have hal : a < s2.heap.objs.size := by obtain ⟨_, q, _⟩ := p''; exact Heap.lt_size q
      refine call_enum1 (begins_tuple a its.toArray) p'' fun h' he hit hsz hk => wpAny_pyIter_enum he ?_
      have I3 : Inv X pins σ H2 { s2 with heap := h' } := I2.kept (t' := s2.toks) hk
      exact ⟨s2.heap.objs.size + 1, [s2.heap.objs.size + 1, s2.heap.objs.size], _, _, H2, rfl, I3, turn_enumT1 (n0 := 0) a (s2.heap.objs.size + 1) s2.heap.objs.size, ⟨⟨.none, he⟩, ⟨_, hit, rfl, rfl⟩, Nat.succ_ne_self _, Nat.ne_of_gt (Nat.lt_succ_of_lt hal), Nat.ne_of_lt hal⟩, fp hk I3, q⟩
theorem walk_enumW {K : PySem.W.Frag} {a : Addr} {b : Bool} {n0 : Nat} {xs : List V} : Walk (IteW K a b n0) xs.length (fun H => SqW K b H a xs) (YPair (fun i => some (.int ((i + n0 : Nat) : Int))) (fun i => xs[i]?)) := by
  refine ⟨fun i _ hi q => ⟨xs, xs[i], q, by simp [hi]⟩, fun _ q => ⟨xs, q, Nat.le_refl _⟩, fun i H v H' _ q y => ?_⟩
  obtain ⟨T, x, h1, h2, h3, h4⟩ := y
  exact ⟨T, .int ((i + n0 : Nat) : Int), x, h1, h2, h3, rfl, h4 xs q⟩
theorem SqW.same {K : PySem.W.Frag} {b : Bool} {H H' : Hp} {a : Addr} {xs : List V} (s : Same H H') (h : SqW K b H a xs) : SqW K b H' a xs := by
  cases b with
  | true => exact L2.Same.seq s h
  | false => exact XR.Same.tup s h
end XR
/-! zip of two, each a list or a tuple, of any lengths. -/
namespace XR
open PyProof.Rows hiding St
open PySem L2
def IterW : Bool → Heap → Addr → Addr → Nat → Prop
  | true => fun h it a i => h.IsListIter it a i
  | false => fun h it a i => h.IsTupleIter it a i
def IsW : Bool → Heap → Addr → Array Value → Prop
  | true => fun h a its => h.IsList a its
  | false => fun h a its => h.IsTuple a its
def itObj : Bool → Addr → Obj
  | true => fun a => { cls := .type "list_iterator", data := .fields #[.ref a, .int 0 0] }
  | false => fun a => { cls := .type "tuple_iterator", data := .fields #[.ref a, .int 0 0] }
theorem begins_w (b : Bool) (a : Addr) (its : Array Value) : Begins (.ref a) (itObj b a) fun h => IsW b h a its := by
  cases b with
  | true => exact begins_list a its
  | false => exact begins_tuple a its
theorem iterW_of {b : Bool} {h : Heap} {it a : Addr} (e : h.get? it = some (itObj b a)) : IterW b h it a 0 := by
  cases b with
  | true => exact ⟨_, e, rfl, rfl⟩
  | false => exact ⟨_, e, rfl, rfl⟩
theorem IterW.obj {b : Bool} {h : Heap} {it a : Addr} {i : Nat} (e : IterW b h it a i) : ∃ o, h.get? it = some o ∧ ∀ v, o.data ≠ .cell v := by
  cases b with
  | true => obtain ⟨o, e1, _, d1⟩ := e; exact ⟨o, e1, fun _ e => by rw [d1] at e; cases e⟩
  | false => obtain ⟨o, e1, _, d1⟩ := e; exact ⟨o, e1, fun _ e => by rw [d1] at e; cases e⟩
theorem IterW.at {b : Bool} {h h' : Heap} {it a : Addr} {i : Nat} (e : IterW b h it a i) (k : ∀ o, h.get? it = some o → h'.get? it = some o) : IterW b h' it a i := by
  cases b with
  | true => exact Heap.IsListIter.at e k
  | false => exact Heap.IsTupleIter.at e k
theorem drawsW {prog : Program} {w : World} {A : Around} (hh : A.handled = none) (b : Bool) (it a : Addr) (hne : a ≠ it) (items : Array Value) :
    Draws prog w A it [it, a] items.size (fun i v => items[i]? = some v) (fun i h => IterW b h it a i ∧ IsW b h a items) := by
  cases b with
  | true => exact Draws.list hh it a hne items
  | false => exact Draws.tuple hh it a hne items
theorem seqW {X : Cx} {pins : List (Addr × Obj)} {σ : L2.St} {H : Hp} {s : Shared} {b : Bool} {a : Addr} {xs : List V} (I : Inv X pins σ H s) (h : SqW X.K b H a xs) :
    ∃ its, Vals xs its ∧ IsW b s.heap a its.toArray ∧ a < s.heap.objs.size := by
  cases b with
  | true => obtain ⟨its, rv, p, _⟩ := I.list h; exact ⟨its, rv, p.isList, p.lt⟩
  | false =>
    obtain ⟨its, rv, p, _⟩ := I.tuple h
    have p' : s.heap.IsTuple a its.toArray := p
    exact ⟨its, rv, p', by obtain ⟨_, e, _⟩ := id p'; exact Heap.lt_size e⟩
theorem injW {X : Cx} {pins : List (Addr × Obj)} {σ : L2.St} {H : Hp} {s : Shared} {b : Bool} {a : Addr} {xs ys : List V} (I : Inv X pins σ H s) (h : SqW X.K b H a xs) (k : SqW X.K b H a ys) : xs = ys := by
  cases b with
  | true => exact I.list_inj h k
  | false => exact I.tuple_inj h k
def IzW (K : PySem.W.Frag) (a b : Addr) (ba bb : Bool) : It :=
  ⟨fun i H => ∃ (xs ys : List V) (x y : V), (SqW K ba H a xs ∧ SqW K bb H b ys) ∧ xs[i]? = some x ∧ ys[i]? = some y,
   fun i H v H' => ∃ T x y, v = .ref T ∧ H T = none ∧ H' = L2.upd H T (.tup [x, y]) ∧ (∀ xs ys, SqW K ba H a xs → SqW K bb H b ys → xs[i]? = some x ∧ ys[i]? = some y),
   fun i H => ∃ (xs ys : List V), (SqW K ba H a xs ∧ SqW K bb H b ys) ∧ i ≤ xs.length ∧ i ≤ ys.length ∧ (i = xs.length ∨ i = ys.length)⟩
theorem turn_zipW {P : Program} {w : World} {K : PySem.W.Frag} {elts : List Expr} {kk : Nat} {tpos : Pos} {a b z p q j1 j2 : Addr} {ba bb : Bool} (S : ZipSep2 z p q j1 j2 [j1, a] [j2, b]) (na : a ≠ j1) (nb : b ≠ j2) :
    Turn P w K (.Tuple elts kk tpos) (IzW K a b ba bb) [z, p, q, j1, j2] z (fun i h => IsZip h z p q .none ∧ IsTupOf2 h p (.ref j1) (.ref j2) ∧ (∃ u v, IsTupOf2 h q u v) ∧ IterW ba h j1 a i ∧ IterW bb h j2 b i) where
  mem := by simp
  obj := fun i h st c hc => by
    obtain ⟨m1, m2, ⟨u, v, m3⟩, e1, e2⟩ := st
    simp only [List.mem_cons, List.not_mem_nil, or_false] at hc
    rcases hc with rfl | rfl | rfl | rfl | rfl
    · exact ⟨_, m1, fun _ e => nomatch e⟩
    · exact ⟨_, m2, fun _ e => nomatch e⟩
    · exact ⟨_, m3, fun _ e => nomatch e⟩
    · exact e1.obj
    · exact e2.obj
  keep := fun i h h' st k => by
    obtain ⟨m1, m2, ⟨u, v, m3⟩, m4, m5⟩ := st
    exact ⟨k z (by simp) _ m1, k p (by simp) _ m2, ⟨u, v, k q (by simp) _ m3⟩, m4.at fun o e => k j1 (by simp) o e, m5.at fun o e => k j2 (by simp) o e⟩
  item := by
    intro X hP hw hK hc i pins s σ H E I hf st hg
    subst hP hw hK
    obtain ⟨m1, m2, ⟨u, v, m3⟩, m4, m5⟩ := st
    obtain ⟨xs, ys, x, y, ⟨hx, hy⟩, ex, ey⟩ := hg
    obtain ⟨us, ru, pu, _⟩ := seqW I hx
    obtain ⟨ws, rw', pw, _⟩ := seqW I hy
    obtain ⟨g, hg1, rg⟩ := ru.get ex
    obtain ⟨k, hk1, rk⟩ := rw'.get ey
    have lu : i < us.toArray.size := by
      have := (List.getElem?_eq_some_iff.mp hg1).1
      simpa using this
    have lw : i < ws.toArray.size := by
      have := (List.getElem?_eq_some_iff.mp hk1).1
      simpa using this
    have lz : z < s.heap.objs.size := Heap.lt_size m1
    refine wpAny_pyNext_zipD2_item S (drawsW (A := X.A.in1) (I.ok.hd hc) ba j1 a na us.toArray) (drawsW (A := X.A.in1) (I.ok.hd hc) bb j2 b nb ws.toArray) m1 m2 m3 ⟨m4, pu⟩ ⟨m5, pw⟩ lu lw
      fun g' k' h' tk eg ek mz mq st1 st2 hT hsz keep => ?_
    obtain rfl : g' = g := by
      have h1 : us[i]? = some g' := by simpa using eg
      rw [hg1] at h1
      exact (Option.some.inj h1).symm
    obtain rfl : k' = k := by
      have h1 : ws[i]? = some k' := by simpa using ek
      rw [hk1] at h1
      exact (Option.some.inj h1).symm
    refine ⟨_, rfl, wpAny_letOwnedTupleGo_zip (s := { s with heap := h', toks := tk }) mz fun h'' mz' sb => ?_⟩
    have hT2 : h''.get? s.heap.objs.size = some { cls := .type "tuple", data := .seq #[g', k'] } := (sb.2 _ (Nat.ne_of_gt lz)).trans hT
    have fresh : ObjOk X.prog X.w (L2.upd H s.heap.objs.size (.tup [x, y])) h'' s.heap.objs.size (.tup [x, y]) :=
      ⟨by show 2 ≤ sizeLine; decide, [g', k'], .cons rg (.cons rk .nil), ⟨_, hT2, rfl, _, rfl⟩⟩
    have J : Inv X pins σ (L2.upd H s.heap.objs.size (.tup [x, y])) { s with heap := h'', toks := tk } :=
      I.turnedNew (ch := [z, p, q, j1, j2]) (fun c o nc e => (sb.2 c (fun w' => nc (by simp [w']))).trans (keep c o (fun w' => nc (by simp [w'])) (fun w' => nc (by simp [w'])) (fun w' => nc (by simp [w'])) (fun w' => nc (by simp [w'])) e)) hf (Nat.le_refl _) fresh
    refine ⟨.ref s.heap.objs.size, _, J, rfl, ⟨_, x, y, rfl, I.hok.fresh (Nat.le_refl _), rfl, fun xs' ys' h1 h2 => ?_⟩, ⟨mz', ?_, ⟨g', k', ?_⟩, ?_, ?_⟩, fun c hcm => ?_⟩
    · rw [injW I h1 hx, injW I h2 hy]
      exact ⟨ex, ey⟩
    · exact (sb.2 _ S.TIz).trans (keep _ _ S.TIz S.TITO S.TIi1 S.TIi2 m2)
    · exact (sb.2 _ S.TOz).trans mq
    · exact st1.1.at fun o e => (sb.2 _ (fun w' => S.zf1 (by rw [← w']; simp))).trans e
    · exact st2.1.at fun o e => (sb.2 _ (fun w' => S.zf2 (by rw [← w']; simp))).trans e
    · have small : c < s.heap.objs.size := by
        simp only [List.mem_cons, List.not_mem_nil, or_false] at hcm
        rcases hcm with rfl | rfl | rfl | rfl | rfl
        · exact lz
        · exact Heap.lt_size m2
        · exact Heap.lt_size m3
        · obtain ⟨_, e1, _⟩ := m4.obj; exact Heap.lt_size e1
        · obtain ⟨_, e1, _⟩ := m5.obj; exact Heap.lt_size e1
      rw [upd_ne (Nat.ne_of_lt small)]
      exact (hf c hcm).1
  done := by
    intro X hP hw hK hc i pins s σ H E I hf st hg
    subst hP hw hK
    obtain ⟨m1, m2, ⟨u, v, m3⟩, m4, m5⟩ := st
    obtain ⟨xs, ys, ⟨hx, hy⟩, lx, ly, le⟩ := hg
    obtain ⟨us, ru, pu, _⟩ := seqW I hx
    obtain ⟨ws, rw', pw, _⟩ := seqW I hy
    have l1 := ru.length
    have l2 := rw'.length
    refine wpAny_pyNext_zipD2_end S (drawsW (A := X.A.in1) (I.ok.hd hc) ba j1 a na us.toArray) (drawsW (A := X.A.in1) (I.ok.hd hc) bb j2 b nb ws.toArray) m1 m2 m3 ⟨m4, pu⟩ ⟨m5, pw⟩ (by simp; omega) (by simp; omega) (by simp; omega) fun h' tk keep => ?_
    exact ⟨rfl, I.turnedL (t' := tk) (ch := [z, p, q, j1, j2]) (fun c o nc e => keep c o (fun w' => nc (by simp [w'])) (fun w' => nc (by simp [w'])) (fun w' => nc (by simp [w'])) (fun w' => nc (by simp [w'])) e) hf⟩
  self := fun A i s Q E st h => wpAny_pyIter_zip st.1 h
theorem nin2 {x y z : Nat} (h1 : x ≠ y) (h2 : x ≠ z) : x ∉ [y, z] := by simp [h1, h2]
theorem five_apart (n a b : Nat) (la : a < n) (lb : b < n) : ZipSep2 (n + 4) (n + 2) (n + 3) n (n + 1) [n, a] [n + 1, b] :=
  ⟨show (n + 2 : Nat) ≠ n + 4 by omega, show (n + 3 : Nat) ≠ n + 4 by omega, show (n + 2 : Nat) ≠ n + 3 by omega, show (n + 2 : Nat) ≠ n by omega, List.mem_cons_self .., nin2 (by omega) (by omega), nin2 (by omega) (by omega),
   show (n + 2 : Nat) ≠ n + 1 by omega, List.mem_cons_self .., nin2 (by omega) (by omega), nin2 (by omega) (by omega), nin2 (by omega) (by omega), nin2 (by omega) (by omega)⟩
theorem five_le (n c : Nat) (h : c ∈ [n + 4, n + 2, n + 3, n, n + 1]) : n ≤ c := by
  simp only [List.mem_cons, List.not_mem_nil, or_false] at h
  omega
def iZipW (K : PySem.W.Frag) (ta : TA) : TI := fun σ H R => ta σ H fun vs H1 => ∃ a b xs ys ba bb, vs = [.ref a, .ref b] ∧ SqW K ba H1 a xs ∧ SqW K bb H1 b ys ∧ R (IzW K a b ba bb) H1
theorem pi_zipW {X : Cx} {e e2 : Expr} {ta : TA} {p pos tpos : Pos} {elts : List Expr} {kk : Nat} (hg : Gl X "zip") (hm : X.mg "zip" = none) (ha : PA X [e, e2] ta)
    (h1 : starEach [e, e2] X.env = (false, eval e X.env) :: starEach [e2] X.env := by rfl) (h2 : (backTo pos (starEach [e2] X.env)).any (·.1) = false := by rfl) :
    PI X (.Tuple elts kk tpos) (.Call (.Name "zip" p) [e, e2] [] pos) (iZipW X.K ta) := by
  refine ⟨fun pins s σ H R I h => ?_⟩
  refine Call_ (ld_blt I hg hm PyProof.Rows.boot_zip (PyProof.Rows.callWith_type1 (thn (ha.run pos pins s σ H _ I h) fun us s1 ⟨vs, H1, I1, r1, q1⟩ => ?_) h1 h2))
  obtain ⟨a, b, xs, ys, ba, bb, ev, hx, hy, q⟩ := q1
  subst ev
  cases r1 with
  | cons ra rr =>
    cases rr with
    | cons rb rr =>
      cases rr
      cases ra
      cases rb
      obtain ⟨us, ru, pu, la⟩ := seqW I1 hx
      obtain ⟨ws, rw', pw, lb⟩ := seqW I1 hy
      refine zip_begins2 (begins_w ba a us.toArray) (begins_w bb b ws.toArray) pu pw fun h' mz mT mO b1 b2 hsz hk => wpAny_pyIter_zip mz ?_
      have I2 : Inv X pins σ H1 { s1 with heap := h' } := I1.kept (t' := s1.toks) hk
      refine ⟨s1.heap.objs.size + 4, [s1.heap.objs.size + 4, s1.heap.objs.size + 2, s1.heap.objs.size + 3, s1.heap.objs.size, s1.heap.objs.size + 1], _, _, H1, rfl, I2, turn_zipW (p := s1.heap.objs.size + 2) (q := s1.heap.objs.size + 3) (j1 := s1.heap.objs.size) (j2 := s1.heap.objs.size + 1) (five_apart _ _ _ la lb) (Nat.ne_of_lt la) (Nat.ne_of_lt (Nat.lt_succ_of_lt lb)), ⟨mz, mT, ⟨_, _, mO⟩, iterW_of b1, iterW_of b2⟩, fun c hcm => ?_, q⟩
      have hle : s1.heap.objs.size ≤ c := five_le _ _ hcm
      exact I1.fpOk hle (I1.hok.fresh hle)
theorem walk_zipW {K : PySem.W.Frag} {a b : Addr} {ba bb : Bool} {xs ys : List V} {n : Nat} (hn : n = min xs.length ys.length) : Walk (IzW K a b ba bb) n (fun H => SqW K ba H a xs ∧ SqW K bb H b ys) (YPair (fun i => xs[i]?) fun i => ys[i]?) := by
  refine ⟨fun i _ hi q => ?_, fun _ q => ⟨xs, ys, q, by omega, by omega, by omega⟩, fun i H v H' _ q y => ?_⟩
  · have l1 : i < xs.length := by omega
    have l2 : i < ys.length := by omega
    exact ⟨xs, ys, xs[i], ys[i], q, by simp [l1], by simp [l2]⟩
  · obtain ⟨T, x, y, e1, e2, e3, e4⟩ := y
    exact ⟨T, x, y, e1, e2, e3, (e4 xs ys q.1 q.2).1, (e4 xs ys q.1 q.2).2⟩
end XR
namespace XR
open PySem L2 KT
theorem valV_pos {k : Key} {v : V} {kvs : List (Key × V)} : valV ((k, v) :: kvs) k = some v := by
  unfold valV
  simp
theorem valV_neg {k k' : Key} {v : V} {kvs : List (Key × V)} (h : k' ≠ k) : valV ((k', v) :: kvs) k = valV kvs k := by
  unfold valV
  rw [List.find?_cons_of_neg (by simpa using h)]
structure CaseD where
  (s0 s1 s2 : List Str) (ps qs : List (Nat × Nat)) (ws : List Str)
def caseK (ra ta da wa : Addr) : List (Key × V) := [(Sum.inr "root", .ref ra), (Sum.inr "texts", .ref ta), (Sum.inr "diffs", .ref da), (Sum.inr "words", .ref wa)]
theorem case_root {ra ta da wa : Addr} : valV (caseK ra ta da wa) (Sum.inr "root") = some (.ref ra) := valV_pos
theorem case_texts {ra ta da wa : Addr} : valV (caseK ra ta da wa) (Sum.inr "texts") = some (.ref ta) := by
  unfold caseK
  rw [valV_neg (by decide +kernel), valV_pos]
theorem case_diffs {ra ta da wa : Addr} : valV (caseK ra ta da wa) (Sum.inr "diffs") = some (.ref da) := by
  unfold caseK
  rw [valV_neg (by decide +kernel), valV_neg (by decide +kernel), valV_pos]
/-- the law's case: a dict of lists -/
structure CaseAt' (H : Hp) (c ra ta da wa t1 t2 d1 d2 : Addr) (C : CaseD) : Prop where
  h : H c = some (.dK (caseK ra ta da wa))
  r : H ra = some (.lst (C.s0.map .str))
  t : H ta = some (.lst [.ref t1, .ref t2])
  x : H t1 = some (.lst (C.s1.map .str))
  y : H t2 = some (.lst (C.s2.map .str))
  d : H da = some (.lst [.ref d1, .ref d2])
  p : DfAt H d1 C.ps
  q : DfAt H d2 C.qs
  w : H wa = some (.lst (C.ws.map .str))
theorem CaseAt'.same {H H' : Hp} {c ra ta da wa t1 t2 d1 d2 : Addr} {C : CaseD} (s : Same H H') (h : CaseAt' H c ra ta da wa t1 t2 d1 d2 C) : CaseAt' H' c ra ta da wa t1 t2 d1 d2 C :=
  ⟨s _ _ h.h, s _ _ h.r, s _ _ h.t, s _ _ h.x, s _ _ h.y, s _ _ h.d, let ⟨r, a, b⟩ := h.p; ⟨r, s _ _ a, b.same s⟩, let ⟨r, a, b⟩ := h.q; ⟨r, s _ _ a, b.same s⟩, s _ _ h.w⟩
/-- what is true of a case -/
structure CaseOk (C : CaseD) : Prop where
  p : IsDf C.s0 C.s1 C.ps
  q : IsDf C.s0 C.s2 C.qs
  l0 : C.s0.length ≤ 7
  l1 : C.s1.length ≤ 24
  l2 : C.s2.length ≤ 24
  lp : C.ps.length ≤ 7
  lq : C.qs.length ≤ 7
def blk1 (C : CaseD) : List Blk := blocksL C.s0.length C.s1.length C.ps
def blk2 (C : CaseD) : List Blk := blocksL C.s0.length C.s2.length C.qs
/-- the blocks of both, in a new list of lists -/
def spBoth : Sp := fun vs H Q _ => ∃ (c ra ta da wa t1 t2 d1 d2 : Addr) (C : CaseD), vs = [.ref c] ∧ CaseAt' H c ra ta da wa t1 t2 d1 d2 C ∧ CaseOk C ∧
  ∀ (l l1 l2 : Addr) (rs1 rs2 : List Addr) H', Same H H' → H' l = some (.lst [.ref l1, .ref l2]) → H' l1 = some (.lst (refs rs1)) → BsAt H' rs1 (blk1 C) → H' l2 = some (.lst (refs rs2)) → BsAt H' rs2 (blk2 C) → Q (.ref l) H'
theorem df_pos {ss1 ss2 : List Str} {ps : List (Nat × Nat)} (h : IsDf ss1 ss2 ps) : ∀ q ∈ ps, 1 ≤ q.1 ∧ 1 ≤ q.2 := fun q hq => by
  obtain ⟨a1, a2, b1, b2, _⟩ := h.1 q hq
  exact ⟨a1, b1⟩
end XR
namespace K62
open PySem L2 XR KT
section
variable {P : Program} {w : World} {K : PySem.W.Frag} {mg : Str → Option Value} {base : Heap}
abbrev sBoth : Stmt := top 47
abbrev nBoth : List Str := ["_law_case_here", "_law_many", "_law_made", "_law_pairs"]
theorem scBoth : FnScope nBoth ["_law_case_here"] (defScope sBoth) := ⟨rfl, rfl, rfl, by decide +kernel, rfl, by decide +kernel, by decide +kernel⟩
theorem ok_both {f fP : Addr} {fd fdP : FuncData} (F : Fun K "_law_both_parts" "_law_both_parts" sBoth f fd) (T : Blt mg)
    (FP : Fun K "_law_parts" "_law_parts" sLParts fP fdP) (GP : FnOk P w K mg base CX0 1 fP fdP ["_law_many", "_law_long", "_law_pairs"] (spLParts K)) (bP : Binds K fdP ["_law_many", "_law_long", "_law_pairs"] []) (mP : mg "_law_parts" = some (.ref fP)) : FnOk P w K mg base CX0 2 f fd ["_law_case_here"] spBoth := by
  refine F.ok scBoth (fun vs H Q E h => ?_) (fun cdv A outer s H vs Q E hr h => ?_)
  · obtain ⟨c, ra, ta, da, wa, t1, t2, d1, d2, C, rfl, _⟩ := h
    rfl
  · obtain ⟨c, ra, ta, da, wa, t1, t2, d1, d2, C, rfl, hc, ok, z⟩ := h
    have hu := hu_of hr
    refine ⟨_, pss_cons (ps_set (i := 1) scBoth.nd rfl (.inr rfl) (pe_callB call_len_seq (by rfl) T.len PySem.boot_len (pa_cons (pe_dget hu (pv 0) pe_str (fun _ _ => rfl)) pa_nil)))
      (pss_one (ps_ret (pe_lc (own := [("_law_made", 2), ("_law_pairs", 3)]) (g := gTup K 2 (gCons (gName 2) (gCons (gName 3) gNil))) (tt := tYes) (te := tCall (spLParts K) [] E0 (tCons (tVar 1) (tCons (tCB (fun xs H Q => ∃ p ys, xs = [.ref p] ∧ (SqL K H p ys ∨ SqT K H p ys) ∧ Q (.int ys.length) H) (tCons (tVar 2) tNil)) (tCons (tVar 3) tNil)))) rfl scBoth.nd
          (pi_zipW rfl (T.all "zip" (by decide)) (pa_cons (pe_dget hu (pv 0) pe_str (fun _ _ => rfl)) (pa_cons (pe_dget hu (pv 0) pe_str (fun _ _ => rfl)) pa_nil)))
          (blkOk_by (own := [("_law_made", 2), ("_law_pairs", 3)]) (N := nBoth) (sc := defScope sBoth) (by decide +kernel)) (fun _ _ _ _ _ => pg_tup rfl (pgs_cons (pg_name (i := 2) scBoth.nd rfl (.inl rfl)) (pgs_cons (pg_name (i := 3) scBoth.nd rfl (.inl rfl)) pgs_nil))) (fun _ _ _ _ _ => pts_nil)
          (fun _ _ _ _ _ => pe_call GP hr rfl mP FP.kp bP .nil pass0 (pa_cons (pv 1) (pa_cons (pe_callB call_len_seq (by rfl) T.len PySem.boot_len (pa_cons (pv 2) pa_nil)) (pa_cons (pv 3) pa_nil))))))), ?_⟩
    have g1 : DGet H c (.str "root") (some (.ref ra)) := by
      have := DGet.k (k := Sum.inr "root") hc.h
      rw [case_root] at this
      exact this
    have g2 : DGet H c (.str "texts") (some (.ref ta)) := by
      have := DGet.k (k := Sum.inr "texts") hc.h
      rw [case_texts] at this
      exact this
    have g3 : DGet H c (.str "diffs") (some (.ref da)) := by
      have := DGet.k (k := Sum.inr "diffs") hc.h
      rw [case_diffs] at this
      exact this
    refine ⟨_, rfl, c, _, rfl, g1, ra, _, rfl, .inl (SqL.of hc.r), ?_⟩
    refine ⟨_, rfl, c, _, rfl, g2, _, rfl, c, _, rfl, g3, ta, da, _, _, true, true, rfl, SqL.of hc.t, SqL.of hc.d, fun D nD => ?_⟩
    have sD := same_upd (o := .lst []) nD
    refine lc_it (walk_zipW (n := 2) rfl) (fun i H' => Same H H' ∧ ∃ ls, H' D = some (.lst (refs ls)) ∧ LAt (fun l (bs : List Blk) => ∃ rs, H' l = some (.lst (refs rs)) ∧ BsAt H' rs bs ∧ l ≠ D) ls ([blk1 C, blk2 C].take i)) ⟨sD, [], upd_same, .nil⟩ (fun i H' _ hh => ⟨SqL.of (hh.1 _ _ hc.t), SqL.of (hh.1 _ _ hc.d)⟩) ?_ ?_
    · rintro i x Ha Hb hi ⟨sm, ls, hD, hls⟩ ⟨T0, y1, y2, rfl, nT, rfl, e1, e2⟩
      obtain ⟨t', d', ss, qs, ey1, ey2, ht, hd, hq, hl, hk⟩ : ∃ (t' d' : Addr) (ss : List Str) (qs : List (Nat × Nat)), y1 = .ref t' ∧ y2 = .ref d' ∧ H t' = some (.lst (ss.map .str)) ∧ DfAt H d' qs ∧ IsDf C.s0 ss qs ∧ qs.length ≤ 7 ∧ [blk1 C, blk2 C][i]? = some (blocksL C.s0.length ss.length qs) := by
        match i, e1, e2, hi with
        | 0, e1, e2, _ =>
          cases e1
          cases e2
          exact ⟨t1, d1, C.s1, C.ps, rfl, rfl, hc.x, hc.p, ok.p, ok.lp, rfl⟩
        | 1, e1, e2, _ =>
          cases e1
          cases e2
          exact ⟨t2, d2, C.s2, C.qs, rfl, rfl, hc.y, hc.q, ok.q, ok.lq, rfl⟩
      subst ey1 ey2
      have sT := same_upd (o := .tup [V.ref t', V.ref d']) nT
      have hT := upd_same (H := Ha) (a := T0) (o := .tup [V.ref t', V.ref d'])
      have hD1 := sT _ _ hD
      have sa := sm.trans sT
      have hls1 : LAt (fun l (bs : List Blk) => ∃ rs, upd Ha T0 (.tup [V.ref t', V.ref d']) l = some (.lst (refs rs)) ∧ BsAt (upd Ha T0 (.tup [V.ref t', V.ref d'])) rs bs ∧ l ≠ D) ls ([blk1 C, blk2 C].take i) := hls.mono fun u x _ _ ⟨rs, k1, k2, k3⟩ => ⟨rs, sT _ _ k1, k2.same sT, k3⟩
      generalize upd Ha T0 (.tup [V.ref t', V.ref d']) = H1 at hT hD1 sa hls1 ⊢
      refine ⟨T0, _, rfl, SqT.of hT, rfl, _, _, rfl, _, _, rfl, rfl, rfl, ?_⟩
      unfold tYes
      dsimp only
      rw [if_pos rfl]
      refine ⟨_, rfl, _, rfl, ⟨t', _, rfl, .inl (SqL.of (sa _ _ ht)), _, rfl, _, C.s0.length, ss.length, qs, ?_, (hd.v).same sa, df_pos hq, by omega, fun l rs H2 s2 nl hl2 hbs => ?_⟩⟩
      · rw [List.length_map, List.length_map]; rfl
      · have hD2 := s2 _ _ hD1
        have nel : l ≠ D := (ne_of_none hD1 nl).symm
        refine ⟨_, hD2, ?_, fun b o h => ?_, ls ++ [l], ?_, ?_⟩
        · rw [hls1.len, List.length_take]
          exact Nat.lt_of_le_of_lt (Nat.min_le_right _ _) (show 2 < sizeLine by decide)
        · rw [upd_ne (ne_of_none h nD)]
          exact s2 _ _ (sa _ _ h)
        · rw [upd_same, refs_snoc]
        · rw [List.take_add_one, hk]
          refine (hls1.mono fun u x _ _ ⟨rs, k1, k2, k3⟩ => ⟨rs, by rw [upd_ne k3]; exact s2 _ _ k1, (k2.same s2).updL hD2, k3⟩).append (.one ⟨rs, ?_, ?_, nel⟩)
          · rw [upd_ne nel]; exact hl2
          · exact hbs.updL hD2
    rintro H2 ⟨s2, ls, hD, hls⟩
    obtain ⟨l1, e1, rs1, k1, k2, _⟩ := hls.2 0 _ rfl
    obtain ⟨l2, e2, rs2, k3, k4, _⟩ := hls.2 1 _ rfl
    have ll := hls.1
    match ls, e1, e2, ll with
    | [a, b], e1, e2, _ =>
      cases e1
      cases e2
      exact z D l1 l2 rs1 rs2 H2 s2 hD k1 k2 k3 k4
end
end K62
namespace XR
open PySem L2 KT
/-- a knot as it stands: a tuple of two tuples of blocks -/
def KOut (H : Hp) (w : Addr) (k : List Blk × List Blk) : Prop := ∃ a b rs0 rs1, H w = some (.tup [.ref a, .ref b]) ∧ H a = some (.tup (refs rs0)) ∧ BsAt H rs0 k.1 ∧ H b = some (.tup (refs rs1)) ∧ BsAt H rs1 k.2
theorem KOut.same {H H' : Hp} {w : Addr} {k : List Blk × List Blk} (s : Same H H') (h : KOut H w k) : KOut H' w k := let ⟨a, b, r0, r1, h1, h2, h3, h4, h5⟩ := h; ⟨a, b, r0, r1, s _ _ h1, s _ _ h2, h3.same s, s _ _ h4, h5.same s⟩
theorem KOut.updL {H : Hp} {p w : Addr} {k : List Blk × List Blk} {xs ys : List V} (h : KOut H w k) (e : H p = some (.lst xs)) : KOut (upd H p (.lst ys)) w k := by
  obtain ⟨a, b, r0, r1, h1, h2, h3, h4, h5⟩ := h
  have ne : ∀ {c : Addr} {zs : List V}, H c = some (.tup zs) → upd H p (.lst ys) c = some (.tup zs) := fun {c zs} q => by
    rw [upd_ne (fun z => by rw [z, e] at q; cases q)]; exact q
  exact ⟨a, b, r0, r1, ne h1, ne h2, h3.updL e, ne h4, h5.updL e⟩
theorem bsAt_dq {K : PySem.W.Frag} {H : Hp} : ∀ {rs : List Addr} {bs : List Blk}, BsAt H rs bs → DqAll K H (refs rs) (bs.map blkD)
  | [], [], _ => .nil
  | [], b :: bs, h => by have := h.1; simp at this
  | r :: rs, [], h => by have := h.1; simp at this
  | r :: rs, b :: bs, h => by
    obtain ⟨r', e1, e2⟩ := h.2 0 b rfl
    obtain rfl : r = r' := Option.some.inj e1
    exact .cons (.tup (fourV_sq e2) (.cons (.int _) (.cons (.int _) (.cons (.int _) (.cons (.int _) .nil))))) (bsAt_dq ⟨by simpa using h.1, fun i q hq => h.2 (i + 1) q hq⟩)
theorem KOut.dq {K : PySem.W.Frag} {H : Hp} {w : Addr} {k : List Blk × List Blk} (h : KOut H w k) : Dq K H (.ref w) (knD k) := by
  obtain ⟨a, b, r0, r1, h1, h2, h3, h4, h5⟩ := h
  exact .tup (SqT.of h1) (.cons (.tup (SqT.of h2) (bsAt_dq h3)) (.cons (.tup (SqT.of h4) (bsAt_dq h5)) .nil))
def spAsKnot : Sp := fun vs H Q _ => ∃ (a : Addr) (g : List Itm), vs = [.ref a] ∧ GrL H a g ∧ g.length ≤ 1000 ∧ ∀ t H', Same H H' → H t = none → KOut H' t (asKnot g) → Q (.ref t) H'
theorem side_take {v : Nat} {g : List Itm} {j : Nat} {x : Itm} (h : g[j]? = some x) : side v (g.take (j + 1)) = side v (g.take j) ++ (if x.1 = v then [x.2] else []) := by
  rw [List.take_add_one, h]
  exact side_snoc v _ x
theorem side_len (v : Nat) (g : List Itm) : (side v g).length ≤ g.length := by
  unfold side
  rw [List.length_map]
  exact List.length_filter_le _ _
theorem zip_refs {R : Addr → Blk → Prop} : ∀ {Z : List (V × Blk)}, (∀ z ∈ Z, ∃ r, z.1 = .ref r ∧ R r z.2) → ∃ rs, Z.map (·.1) = refs rs ∧ LAt R rs (Z.map (·.2))
  | [], _ => ⟨[], rfl, .nil⟩
  | z :: Z, h => by
    obtain ⟨rs, e, l⟩ := zip_refs (Z := Z) fun y hy => h y (List.mem_cons_of_mem _ hy)
    obtain ⟨r, e1, h1⟩ := h z (List.mem_cons_self ..)
    refine ⟨r :: rs, ?_, (LAt.one h1).append l⟩
    rw [List.map_cons, e, e1]
    rfl
theorem lat_zip {R : Addr → Blk → Prop} {rs : List Addr} {bs : List Blk} (h : LAt R rs bs) : ∀ z ∈ (refs rs).zip bs, ∃ r, z.1 = .ref r ∧ R r z.2 := fun z hz => by
  obtain ⟨i, hi⟩ := List.getElem?_of_mem hz
  rw [List.getElem?_zip_eq_some] at hi
  obtain ⟨u, h1, h2⟩ := h.2 i z.2 hi.2
  have := hi.1
  unfold refs at this
  rw [List.getElem?_map, h1] at this
  exact ⟨u, (Option.some.inj this).symm, h2⟩
end XR
namespace K62
open PySem L2 XR KT
section
variable {P : Program} {w : World} {K : PySem.W.Frag} {mg : Str → Option Value} {base : Heap}
abbrev sAsKnot : Stmt := top 52
abbrev nAsKnot : List Str := ["_law_group", "_law_own", "_law_side", "_law_part"]
abbrev rTupOf (K : PySem.W.Frag) : List V → Hp → VK → Prop := fun xs H Q => ∃ p ys, xs = [.ref p] ∧ ((SqL K H p ys ∧ ∀ u, H u = none → Q (.ref u) (upd H u (.tup ys))) ∨ (SqT K H p ys ∧ Q (.ref p) H))
theorem scAsKnot : FnScope nAsKnot ["_law_group"] (defScope sAsKnot) := ⟨rfl, rfl, rfl, by decide +kernel, rfl, by decide +kernel, by decide +kernel⟩
theorem ok_asKnot {f : Addr} {fd : FuncData} (F : Fun K "_law_as_knot" "_law_as_knot" sAsKnot f fd) (T : Blt mg) (mS : mg "sorted" = none) : FnOk P w K mg base CX0 1 f fd ["_law_group"] spAsKnot := by
  refine F.ok scAsKnot (fun vs H Q E h => ?_) (fun cdv A outer s H vs Q E hr h => ?_)
  · obtain ⟨a, g, rfl, _⟩ := h
    rfl
  · obtain ⟨a, g, rfl, ⟨us, ha, hus⟩, glen, z⟩ := h
    refine ⟨_, pss_one (ps_ret (pe_callTy call_tuple_of (by rfl) (T.all "tuple" (by decide)) (by decide +kernel) (pa_cons (pe_lc (own := [("_law_own", 1)]) (g := gName 1) (tt := tYes)
          (te := tCB (rTupOf K) (tCons (tCB (rSortedDt K blkD) (tCons (tLc (iList K (tVar 0)) (gTup K 2 (gCons (gName 2) (gCons (gName 3) gNil))) (tTest (tOp rEq (tVar 2) (tVar 1))) (tVar 3) [2, 3]) tNil)) tNil)) rfl scAsKnot.nd
          (pi_tup (pe_tup (pa_cons pe_int (pa_cons pe_int pa_nil))))
          (blkOk_by (own := [("_law_own", 1)]) (N := nAsKnot) (sc := defScope sAsKnot) (by decide +kernel)) (fun _ _ _ _ _ => pg_name (i := 1) scAsKnot.nd rfl (.inr rfl)) (fun _ _ _ _ _ => pts_nil)
          (fun _ _ _ _ _ => pe_callTy call_tuple_of (by rfl) (T.all "tuple" (by decide)) (by decide +kernel) (pa_cons (pe_callB (cr_sortedDt (enc := blkD) hr) (by rfl) mS (by decide +kernel) (pa_cons
            (pe_lc (own := [("_law_side", 2), ("_law_part", 3)]) (g := gTup K 2 (gCons (gName 2) (gCons (gName 3) gNil))) (tt := tTest (tOp rEq (tVar 2) (tVar 1))) (te := tVar 3) rfl scAsKnot.nd (pi_list (pv 0))
              (blkOk_by (own := [("_law_side", 2), ("_law_part", 3)]) (N := nAsKnot) (by rfl))
              (fun _ _ _ _ _ => pg_tup rfl (pgs_cons (pg_name (i := 2) scAsKnot.nd rfl (.inl rfl)) (pgs_cons (pg_name (i := 3) scAsKnot.nd rfl (.inl rfl)) pgs_nil))) (fun _ _ _ _ _ => pts_one (pt_cmpR op_eq (pv 2) (pv 1) (nomark _))) (fun _ _ _ _ _ => pv 3)) pa_nil)) pa_nil))) pa_nil))), ?_⟩
    refine ⟨ll20 (by show 2 ≤ 20; decide), fun T nT => ⟨T, rfl, ⟨_, SqT.of upd_same⟩, fun D nD => ?_⟩⟩
    have sT := same_upd (o := .tup [V.int 0, V.int 1]) nT
    have hT := upd_same (H := H) (a := T) (o := .tup [V.int 0, V.int 1])
    generalize upd H T (.tup [V.int 0, V.int 1]) = H1 at sT hT nD ⊢
    refine lc_tup (K := K) (a := T) (xs := [V.int 0, V.int 1]) (fun j Hx => Same H1 Hx ∧ ∃ ts, Hx D = some (.lst (refs ts)) ∧ LAt (fun t (v : Nat) => ∃ rs, Hx t = some (.tup (refs rs)) ∧ BsAt Hx rs ((side v g).mergeSort leB)) ts ([0, 1].take j)) ⟨same_upd nD, [], upd_same, .nil⟩ (fun j Hx _ hh => SqT.of (hh.1 _ _ hT)) ?_ ?_
    · rintro j x Hx hx ⟨sx, ts, hD, hts⟩
      obtain ⟨v, ex, hv⟩ : ∃ v : Nat, x = .int (v : Int) ∧ [0, 1][j]? = some v := by
        match j, hx with
        | 0, hx =>
          cases hx
          exact ⟨0, rfl, rfl⟩
        | 1, hx =>
          cases hx
          exact ⟨1, rfl, rfl⟩
      subst ex
      have sHx := sT.trans sx
      refine ⟨rfl, ?_⟩
      unfold tYes
      dsimp only
      rw [if_pos rfl]
      refine ⟨_, rfl, a, rfl, ⟨_, SqL.of (sHx _ _ ha)⟩, fun E1 nE => ?_⟩
      refine lc_list (K := K) (a := a) (xs := refs us) (fun i Hy => Same Hx Hy ∧ ∃ rs, Hy E1 = some (.lst (refs rs)) ∧ BsAt Hy rs (side v (g.take i))) ⟨same_upd nE, [], upd_same, .nil⟩ (fun i Hy _ hh => SqL.of (hh.1 _ _ (sHx _ _ ha))) ?_ ?_
      · rintro i y Hy hy ⟨sy, rs, hE, hrs⟩
        obtain ⟨u, q, rfl, _, hq, r, h1, h2⟩ := hus.at hy
        have h1' := sy _ _ (sHx _ _ h1)
        have h2' := sy _ _ (sHx _ _ h2)
        refine ⟨u, _, rfl, SqT.of h1', rfl, _, _, rfl, _, _, rfl, rfl, rfl, _, rfl, _, rfl, rfl, _, rfl, ?_⟩
        rw [dec_i]
        have sl := side_len v (g.take i)
        rw [List.length_take] at sl
        by_cases c : q.1 = v
        · rw [decide_eq_true (show (q.1 : Int) = (v : Int) by omega)]
          refine iteT ⟨_, rfl, _, hE, ?_, fun b o h => ?_, rs ++ [r], ?_, ?_⟩
          · unfold refs
            rw [List.length_map, hrs.1]
            exact Nat.lt_of_le_of_lt (Nat.le_trans sl (Nat.le_trans (Nat.min_le_right _ _) glen)) (by decide)
          · rw [upd_ne (ne_of_none h nE)]
            exact sy _ _ h
          · rw [upd_same, refs_snoc]
          · rw [side_take hq, if_pos c]
            exact (hrs.snoc h2').updL hE
        · rw [decide_eq_false (show ¬ (q.1 : Int) = (v : Int) by omega)]
          refine iteF ⟨sy, rs, hE, ?_⟩
          rw [side_take hq, if_neg c, List.append_nil]
          exact hrs
      rintro H2 ⟨s2, rs, hE, hrs⟩
      rw [hus.len, List.take_length] at hrs
      have zf : ((refs rs).zip (side v g)).map (·.1) = refs rs := List.map_fst_zip (by unfold refs; rw [List.length_map, hrs.1]; exact Nat.le_refl _)
      have zs2 : ((refs rs).zip (side v g)).map (·.2) = side v g := List.map_snd_zip (by unfold refs; rw [List.length_map, hrs.1]; exact Nat.le_refl _)
      have zz := lat_zip hrs.lat
      refine ⟨E1, (refs rs).zip (side v g), rfl, by rw [zf]; exact SqL.of hE, fun w hw => ?_, ?_, ?_, fun w hw => ?_, fun p np => ?_⟩
      · obtain ⟨u, e, hu⟩ := zz w hw
        rw [e]
        exact .tup (fourV_sq hu) (.cons (.int _) (.cons (.int _) (.cons (.int _) (.cons (.int _) .nil))))
      · intro d hd d' hd'
        obtain ⟨w, _, rfl⟩ := List.mem_map.mp hd
        obtain ⟨w', _, rfl⟩ := List.mem_map.mp hd'
        exact alike_blk _ _
      · left
        intro d hd
        obtain ⟨w, _, rfl⟩ := List.mem_map.mp hd
        exact ⟨_, _, rfl⟩
      · show (blkD w.2).depth ≤ 60
        simp [blkD, intsB, PyData.depth, PyData.depthAll]
      have hZ2 : (((refs rs).zip (side v g)).mergeSort (PySem.W.dataLe false fun z => blkD z.2)).map (·.2) = (side v g).mergeSort leB := by
        conv => rhs; rw [← zs2]
        exact PySem.W.sort_maps (fun z : V × Blk => z.2) fun _ _ _ _ => rfl
      obtain ⟨qs, eq1, hqs⟩ := zip_refs (R := fun r b => H2 r = some (fourV b)) (Z := ((refs rs).zip (side v g)).mergeSort (PySem.W.dataLe false fun z => blkD z.2)) fun w hw => zz w ((List.mergeSort_perm _ _).mem_iff.mp hw)
      rw [hZ2] at hqs
      rw [eq1]
      have sp := same_upd (o := .lst (refs qs)) np
      have hp := upd_same (H := H2) (a := p) (o := .lst (refs qs))
      have hqs2 := hqs.mono (S := fun r b => upd H2 p (.lst (refs qs)) r = some (fourV b)) fun u x _ _ k => sp _ _ k
      have s23 := s2.trans sp
      generalize upd H2 p (.lst (refs qs)) = H3 at sp hp hqs2 s23 ⊢
      refine ⟨p, _, rfl, .inl ⟨SqL.of hp, fun t nt => ?_⟩⟩
      have st := same_upd (o := .tup (refs qs)) nt
      have s3 := s23.trans st
      have hD3 := s3 _ _ hD
      have bq : BsAt (upd H3 t (.tup (refs qs))) qs ((side v g).mergeSort leB) := hqs2.mono fun u x _ _ k => st _ _ k
      refine ⟨_, hD3, ?_, fun b o h => ?_, ts ++ [t], ?_, ?_⟩
      · rw [hts.len, List.length_take]
        exact Nat.lt_of_le_of_lt (Nat.min_le_right _ _) (by decide)
      · rw [upd_ne (ne_of_none h nD)]
        exact s3 _ _ (sx _ _ h)
      · rw [upd_same, refs_snoc]
      · rw [List.take_add_one, hv]
        have ne : ∀ {c : Addr} {zs : List V}, upd H3 t (.tup (refs qs)) c = some (.tup zs) → upd (upd H3 t (.tup (refs qs))) D (.lst (refs ts ++ [V.ref t])) c = some (.tup zs) := fun {c zs} q => by
          rw [upd_ne (fun z => by rw [z, hD3] at q; cases q)]; exact q
        exact (hts.mono fun u x _ _ ⟨rs, k1, k2⟩ => ⟨rs, ne (s3 _ _ k1), (k2.same s3).updL hD3⟩).append (.one ⟨qs, ne upd_same, bq.updL hD3⟩)
    rintro H2 ⟨s2, ts, hD, hts⟩
    obtain ⟨t1, e1, rs1, k1, k2⟩ := hts.2 0 _ rfl
    obtain ⟨t2, e2, rs2, k3, k4⟩ := hts.2 1 _ rfl
    have ll := hts.1
    match ts, e1, e2, ll with
    | [x, y], e1, e2, _ =>
      cases e1
      cases e2
      refine ⟨D, _, rfl, .inl ⟨SqL.of hD, fun t nt => ?_⟩⟩
      have st := same_upd (o := .tup (refs [t1, t2])) nt
      exact z t _ ((sT.trans s2).trans st) (none_before (sT.trans s2) nt) ⟨t1, t2, rs1, rs2, upd_same, st _ _ k1, k2.same st, st _ _ k3, k4.same st⟩
end
end K62
namespace XR
open PySem L2 KT
theorem any_same {α : Type} {p q : α → Bool} : ∀ {g : List α}, (∀ y ∈ g, p y = q y) → g.any p = g.any q
  | [], _ => rfl
  | y :: g, h => by
    rw [List.any_cons, List.any_cons, h y (List.mem_cons_self ..), any_same fun z hz => h z (List.mem_cons_of_mem _ hz)]
theorem met_eq {x : Itm} {g : List Itm} (gx : GoodB x.2) (gg : ∀ y ∈ g, GoodB y.2) : metL (coverB x.2).1 (coverB x.2).2 g = metB loI hiI x g := by
  unfold metL metB
  rw [List.any_map]
  refine any_same fun y hy => ?_
  show (decide ((coverB y.2).1 ≤ (coverB x.2).2) && decide ((coverB x.2).1 ≤ (coverB y.2).2)) = _
  rw [← hi_good gx, ← hi_good (gg y hy)]
  rfl
/-- a group as data -/
def itD (x : Itm) : PyData := .tuple [.int (x.1 : Int), blkD x.2]
def grD (g : List Itm) : PyData := .list (g.map itD)
theorem ItL.dp {K : PySem.W.Frag} {H : Hp} {u : Addr} {x : Itm} (h : ItL H u x) : Dp K H (.ref u) (itD x) := by
  obtain ⟨r, h1, h2⟩ := h
  exact .tup (SqT.of h1) (.cons (.int _) (.cons (.tup (fourV_sq h2) (.cons (.int _) (.cons (.int _) (.cons (.int _) (.cons (.int _) .nil))))) .nil))
theorem lat_dp {K : PySem.W.Frag} {H : Hp} {α : Type} {R : Addr → α → Prop} {enc : α → PyData} (d : ∀ u x, R u x → Dp K H (.ref u) (enc x)) : ∀ {us : List Addr} {xs : List α}, LAt R us xs → DpAll K H (refs us) (xs.map enc)
  | [], [], _ => .nil
  | [], b :: bs, h => by have := h.1; simp at this
  | r :: rs, [], h => by have := h.1; simp at this
  | r :: rs, b :: bs, h => by
    obtain ⟨r', e1, e2⟩ := h.2 0 b rfl
    obtain rfl : r = r' := Option.some.inj e1
    exact .cons (d _ _ e2) (lat_dp d ⟨by simpa using h.1, fun i q hq => h.2 (i + 1) q hq⟩)
theorem GrL.dp {K : PySem.W.Frag} {H : Hp} {a : Addr} {g : List Itm} (h : GrL H a g) : Dp K H (.ref a) (grD g) := by
  obtain ⟨us, h1, h2⟩ := h
  exact .lst (SqL.of h1) (lat_dp (fun _ _ k => k.dp) h2)
theorem itD_eqv (x y : Itm) : PyData.eqv (itD x) (itD y) = decide (x = y) := by
  obtain ⟨a, b, c, d, e⟩ := x
  obtain ⟨a', b', c', d', e'⟩ := y
  rw [Bool.eq_iff_iff, decide_eq_true_iff]
  simp only [itD, blkD, intsB, List.map_cons, List.map_nil, PyData.eqv, PyData.eqvAll, Bool.and_true, Bool.and_eq_true, beq_iff_eq, Int.ofNat_inj, Prod.mk.injEq, Int.natCast_inj]
theorem its_eqv : ∀ g h : List Itm, PyData.eqvAll (g.map itD) (h.map itD) = decide (g = h)
  | [], [] => by simp [PyData.eqvAll]
  | [], b :: bs => by simp [PyData.eqvAll]
  | a :: as, [] => by simp [PyData.eqvAll]
  | a :: as, b :: bs => by
    rw [List.map_cons, List.map_cons, PyData.eqvAll, its_eqv as bs, itD_eqv, Bool.eq_iff_iff, Bool.and_eq_true, decide_eq_true_iff, decide_eq_true_iff, decide_eq_true_iff, List.cons.injEq]
theorem gr_eqv (g h : List Itm) : PyData.eqv (grD g) (grD h) = decide (g = h) := by
  unfold grD
  simp only [PyData.eqv]
  exact its_eqv g h
theorem layAll {k : Nat} : ∀ {ds : List PyData}, (∀ d ∈ ds, PyData.canLay0 d = true ∧ PyData.depth d ≤ k) → PyData.canLayAll0 ds = true ∧ PyData.depthAll ds ≤ k
  | [], _ => ⟨by simp [PyData.canLayAll0], by simp [PyData.depthAll]⟩
  | d :: ds, h => by
    obtain ⟨h1, h2⟩ := layAll (ds := ds) fun x hx => h x (List.mem_cons_of_mem _ hx)
    obtain ⟨h3, h4⟩ := h d (List.mem_cons_self ..)
    exact ⟨by simp [PyData.canLayAll0, h3, h1], by simp [PyData.depthAll]; omega⟩
theorem itD_lay (x : Itm) : PyData.canLay0 (itD x) = true ∧ PyData.depth (itD x) ≤ 3 := by
  constructor
  · simp [itD, blkD, intsB, PyData.canLay0, PyData.canLayAll0]
  · simp [itD, blkD, intsB, PyData.depth, PyData.depthAll]
theorem grD_lay (g : List Itm) : PyData.canLay0 (grD g) = true ∧ PyData.depth (grD g) ≤ 4 := by
  obtain ⟨h1, h2⟩ := layAll (k := 3) (ds := g.map itD) fun d hd => by
    obtain ⟨x, _, rfl⟩ := List.mem_map.mp hd
    exact itD_lay x
  unfold grD
  refine ⟨by simp only [PyData.canLay0, h1], ?_⟩
  have e : (PyData.list (g.map itD)).depth = PyData.depthAll (g.map itD) + 1 := by simp only [PyData.depth]
  omega
theorem gr_shaped (g : List Itm) : SeqAt.shaped (grD g) = true := by
  obtain ⟨h1, h2⟩ := grD_lay g
  unfold SeqAt.shaped
  rw [Bool.and_eq_true, decide_eq_true_eq]
  exact ⟨h1, by omega⟩
theorem grs_shaped (gs : List (List Itm)) : SeqAt.shaped (.list (gs.map grD)) = true := by
  obtain ⟨h1, h2⟩ := layAll (k := 4) (ds := gs.map grD) fun d hd => by
    obtain ⟨x, _, rfl⟩ := List.mem_map.mp hd
    exact grD_lay x
  unfold SeqAt.shaped
  rw [Bool.and_eq_true, decide_eq_true_eq]
  refine ⟨by simp only [PyData.canLay0, h1], ?_⟩
  have e : (PyData.list (gs.map grD)).depth = PyData.depthAll (gs.map grD) + 1 := by simp only [PyData.depth]
  omega
theorem in_grs (g : List Itm) (gs : List (List Itm)) : ((gs.map grD).any fun z => PyData.eqv z (grD g)) = decide (g ∈ gs) := by
  rw [List.any_map, Bool.eq_iff_iff, decide_eq_true_iff, List.any_eq_true]
  constructor
  · rintro ⟨h, h1, h2⟩
    have h2 : PyData.eqv (grD h) (grD g) = true := h2
    rw [gr_eqv] at h2
    rw [← of_decide_eq_true h2]
    exact h1
  · intro h
    exact ⟨g, h, by show PyData.eqv (grD g) (grD g) = true; rw [gr_eqv, decide_eq_true rfl]⟩
theorem len_flat {α : Type} : ∀ {L : List (List α)}, (∀ g ∈ L, g ≠ []) → L.length ≤ L.flatten.length
  | [], _ => Nat.le_refl _
  | g :: L, h => by
    have := len_flat (L := L) fun x hx => h x (List.mem_cons_of_mem _ hx)
    have := List.length_pos_iff.mpr (h g (List.mem_cons_self ..))
    rw [List.flatten_cons, List.length_append, List.length_cons]
    omega
theorem groups_snoc (xs : List Itm) (x : Itm) : groups loI hiI (xs ++ [x]) = stepG loI hiI (groups loI hiI xs) x := by
  unfold groups
  rw [List.foldl_append]
  rfl
theorem groups_in {xs : List Itm} {g : List Itm} (h : g ∈ groups loI hiI xs) : ∀ y ∈ g, y ∈ xs := fun y hy =>
  (groups_inv (lo := loI) (hi := hiI) lo_hi xs).pm.mem_iff.mp (List.mem_flatten.mpr ⟨g, h, hy⟩)
theorem groups_len (xs : List Itm) : (groups loI hiI xs).length ≤ xs.length := by
  have I := groups_inv (lo := loI) (hi := hiI) lo_hi xs
  have := len_flat I.ne
  rw [I.pm.length_eq] at this
  exact this
theorem group_len {xs : List Itm} {g : List Itm} (h : g ∈ groups loI hiI xs) : g.length ≤ xs.length := by
  have I := groups_inv (lo := loI) (hi := hiI) lo_hi xs
  rw [← I.pm.length_eq]
  exact (List.sublist_flatten_of_mem h).length_le
def toldI (S0 S1 : List Blk) : Nat → List Itm
  | 0 => []
  | 1 => itm0 0 S0
  | _ => told S0 S1
end XR
namespace XR
open PySem L2 KT
theorem sub_flat {α : Type} : ∀ {a b : List (List α)}, a.Sublist b → a.flatten.length ≤ b.flatten.length
  | _, _, .slnil => Nat.le_refl _
  | _, _, .cons _ h => by
    have := sub_flat h
    rw [List.flatten_cons, List.length_append]
    omega
  | _, _, .cons₂ _ h => by
    have := sub_flat h
    rw [List.flatten_cons, List.length_append, List.flatten_cons, List.length_append]
    omega
theorem lat_zipA {α : Type} {R : Addr → α → Prop} {rs : List Addr} {bs : List α} (h : LAt R rs bs) : ∀ z ∈ (refs rs).zip bs, ∃ r, z.1 = .ref r ∧ R r z.2 := fun z hz => by
  obtain ⟨i, hi⟩ := List.getElem?_of_mem hz
  rw [List.getElem?_zip_eq_some] at hi
  obtain ⟨u, h1, h2⟩ := h.2 i z.2 hi.2
  have := hi.1
  unfold refs at this
  rw [List.getElem?_map, h1] at this
  exact ⟨u, (Option.some.inj this).symm, h2⟩
theorem zip_refsA {α : Type} {R : Addr → α → Prop} : ∀ {Z : List (V × α)}, (∀ z ∈ Z, ∃ r, z.1 = .ref r ∧ R r z.2) → ∃ rs, Z.map (·.1) = refs rs ∧ LAt R rs (Z.map (·.2))
  | [], _ => ⟨[], rfl, .nil⟩
  | z :: Z, h => by
    obtain ⟨rs, e, l⟩ := zip_refsA (Z := Z) fun y hy => h y (List.mem_cons_of_mem _ hy)
    obtain ⟨r, e1, h1⟩ := h z (List.mem_cons_self ..)
    refine ⟨r :: rs, ?_, (LAt.one h1).append l⟩
    rw [List.map_cons, e, e1]
    rfl
theorem un65 {k : Nat} {A : Around} (r : Room k A) : A.units + 65 < cLine := by have := r.un; omega
/-- the knots of a case, in a new list -/
def spGroups : Sp := fun vs H Q _ => ∃ (c ra ta da wa t1 t2 d1 d2 : Addr) (C : CaseD), vs = [.ref c] ∧ CaseAt' H c ra ta da wa t1 t2 d1 d2 C ∧ CaseOk C ∧
  ∀ (l : Addr) (ts : List Addr) H', Same H H' → H l = none → H' l = some (.lst (refs ts)) → LAt (KOut H') ts (knotsL (blk1 C) (blk2 C)) → Q (.ref l) H'
end XR
namespace K62
open PySem L2 XR KT
section
variable {P : Program} {w : World} {K : PySem.W.Frag} {mg : Str → Option Value} {base : Heap}
abbrev sGroups : Stmt := top 49
abbrev nGroups : List Str := ["_law_case_here", "_law_groups_here", "_law_side", "_law_parts_here", "_law_part", "_law_own", "_law_low", "_law_high", "_law_met", "_law_group"]
theorem scGroups : FnScope nGroups ["_law_case_here"] (defScope sGroups) := ⟨rfl, rfl, rfl, by decide +kernel, rfl, by decide +kernel, by decide +kernel⟩
theorem ok_groups {f fB fC fM fF fA : Addr} {fd fdB fdC fdM fdF fdA : FuncData} (F : Fun K "_law_groups" "_law_groups" sGroups f fd) (T : Blt mg) (mS : mg "sorted" = none)
    (FB : Fun K "_law_both_parts" "_law_both_parts" sBoth fB fdB) (GB : FnOk P w K mg base CX0 2 fB fdB ["_law_case_here"] spBoth) (bB : Binds K fdB ["_law_case_here"] []) (mB : mg "_law_both_parts" = some (.ref fB))
    (FC : Fun K "_law_cover" "_law_cover" sLCover fC fdC) (GC : FnOk P w K mg base CX0 1 fC fdC ["_law_part"] (spCover K)) (bC : Binds K fdC ["_law_part"] []) (mC : mg "_law_cover" = some (.ref fC))
    (FM : Fun K "_law_is_met" "_law_is_met" sMet fM fdM) (GM : FnOk P w K mg base CX0 2 fM fdM ["_law_group", "_law_low", "_law_high"] spMet) (bM : Binds K fdM ["_law_group", "_law_low", "_law_high"] []) (mM : mg "_law_is_met" = some (.ref fM))
    (FF : Fun K "_law_first_place" "_law_first_place" sFirst fF fdF) (GF : FnOk P w K mg base CX0 2 fF fdF ["_law_group"] spFirst) (bF : Binds K fdF ["_law_group"] []) (mF : mg "_law_first_place" = some (.ref fF))
    (FA : Fun K "_law_as_knot" "_law_as_knot" sAsKnot fA fdA) (GA : FnOk P w K mg base CX0 1 fA fdA ["_law_group"] spAsKnot) (bA : Binds K fdA ["_law_group"] []) (mA : mg "_law_as_knot" = some (.ref fA)) : FnOk P w K mg base CX0 5 f fd ["_law_case_here"] spGroups := by
  have RF : FnR P w K mg base CX0 2 fF spFirst := (GF.raw bF .nil).imp fun vs H Q E h => by rw [List.append_nil]; exact h
  refine F.ok scGroups (fun vs H Q E h => ?_) (fun cdv A outer s H vs Q E hr h => ?_)
  · obtain ⟨c, ra, ta, da, wa, t1, t2, d1, d2, C, rfl, _⟩ := h
    rfl
  · obtain ⟨c, ra, ta, da, wa, t1, t2, d1, d2, C, rfl, hc, ok, z⟩ := h
    have hr2 := hr.mono (show 2 ≤ 4 by decide)
    have hr1 := hr.mono (show 1 ≤ 4 by decide)
    refine ⟨_, pss_cons (ps_set (i := 1) scGroups.nd rfl (.inl rfl) (pe_lst pa_nil))
      (pss_cons (ps_for PassesOwn.never rfl (pi_enumW0 rfl (T.all "enumerate" (by decide)) (pa_cons (pe_call GB hr2 rfl mB FB.kp bB .nil pass0 (pa_cons (pv 0) pa_nil)) pa_nil))
          (pg_tup rfl (pgs_cons (pg_name (i := 2) scGroups.nd rfl (.inl rfl)) (pgs_cons (pg_name (i := 3) scGroups.nd rfl (.inl rfl)) pgs_nil)))
        (pss_one (ps_for PassesOwn.never rfl (pi_list (pv 3)) (pg_name (i := 4) scGroups.nd rfl (.inl rfl))
          (pss_cons (ps_set (i := 5) scGroups.nd rfl (.inl rfl) (pe_lst (pa_cons (pe_tup (pa_cons (pv 2) (pa_cons (pv 4) pa_nil))) pa_nil)))
          (pss_cons (ps_asg (pe_call GC hr1 rfl mC FC.kp bC .nil pass0 (pa_cons (pv 4) pa_nil)) (pg_tup rfl (pgs_cons (pg_name (i := 6) scGroups.nd rfl (.inr rfl)) (pgs_cons (pg_name (i := 7) scGroups.nd rfl (.inr rfl)) pgs_nil))))
          (pss_cons (ps_set (i := 8) scGroups.nd rfl (.inr rfl) (pe_lc (own := [("_law_group", 9)]) (g := gName 9) (tt := tB (tCall spMet [] E0 (tCons (tVar 9) (tCons (tVar 6) (tCons (tVar 7) tNil))))) (te := tVar 9) rfl scGroups.nd (pi_list (pv 1))
              (blkOk_by (own := [("_law_group", 9)]) (N := nGroups) (sc := defScope sGroups) (by decide +kernel)) (fun _ _ _ _ _ => pg_name (i := 9) scGroups.nd rfl (.inl rfl)) (fun _ _ _ _ _ => pts_one (pt_val (pe_call GM hr2 rfl mM FM.kp bM .nil pass0 (pa_cons (pv 9) (pa_cons (pv 6) (pa_cons (pv 7) pa_nil)))))) (fun _ _ _ _ _ => pv 9)))
          (pss_cons (ps_setLc (i := 1) (own := [("_law_group", 9)]) (g := gName 9) (tt := tTest (tOp (rNotInD K) (tVar 9) (tVar 8))) (te := tVar 9) rfl scGroups.nd rfl rfl (sw_true rfl rfl rfl (by decide +kernel)) (pi_list (pv 1))
              (blkOk_by (own := [("_law_group", 9)]) (N := nGroups) (sc := defScope sGroups) (by decide +kernel)) (fun _ _ _ _ _ => pg_name (i := 9) scGroups.nd rfl (.inl rfl)) (fun _ _ _ _ _ => pts_one (pt_cmpR (op_notInD (un65 hr)) (pv 9) (pv 8) (by rfl))) (fun _ _ _ _ _ => pv 9))
          (pss_cons (ps_for PassesOwn.never rfl (pi_list (pv 8)) (pg_name (i := 9) scGroups.nd rfl (.inl rfl))
            (pss_one (ps_set (i := 5) scGroups.nd rfl (.inl rfl) (pe_op op_cat (pv 5) (pv 9)))))
          (pss_one (ps_expr (pe_bm PySem.F.plainAttrs_list PySem.F.slot_list_append PySem.F.type_list_append mt_append (pv 1) (pa_cons (pv 5) pa_nil))))))))))))
      (pss_one (ps_ret (pe_lc (own := [("_law_group", 9)]) (g := gName 9) (tt := tYes) (te := tCall spAsKnot [] E0 (tCons (tVar 9) tNil)) rfl scGroups.nd
          (pi_list (pe_callBK (cr_sortedBy RF hr) (by rfl) mS (by decide +kernel) (pa_cons (pv 1) pa_nil) (pk_cons (pe_glob (v := .ref fF) (by rfl) mF rfl) pk_nil)))
          (blkOk_by (own := [("_law_group", 9)]) (N := nGroups) (sc := defScope sGroups) (by decide +kernel)) (fun _ _ _ _ _ => pg_name (i := 9) scGroups.nd rfl (.inl rfl)) (fun _ _ _ _ _ => pts_nil)
          (fun _ _ _ _ _ => pe_call GA hr1 rfl mA FA.kp bA .nil pass0 (pa_cons (pv 9) pa_nil)))))), ?_⟩
    have sp0 := blocks_spread ok.p
    have sp1 := blocks_spread ok.q
    have bd : ∀ y ∈ told (blk1 C) (blk2 C), GoodB y.2 ∧ y.2.1 ≤ 100 ∧ y.2.2.1 ≤ 100 := fun y hy => by
      have l0 := ok.l0
      rcases told_side hy rfl with ⟨e, m⟩ | ⟨e, m⟩
      · have := blocks_le ok.p m
        exact ⟨sp0.good _ m, by omega, by omega⟩
      · have := blocks_le ok.q m
        exact ⟨sp1.good _ m, by omega, by omega⟩
    have tlen : (told (blk1 C) (blk2 C)).length ≤ 16 := by
      have c0 := blocks_count ok.p
      have c1 := blocks_count ok.q
      have := ok.lp
      have := ok.lq
      unfold told
      rw [List.length_append, List.length_map, List.length_map]
      show (blocksL C.s0.length C.s1.length C.ps).length + (blocksL C.s0.length C.s2.length C.qs).length ≤ 16
      omega
    refine ⟨ll20 (by decide), fun g0 ng => ?_⟩
    have s0 := same_upd (o := .lst []) ng
    have hg0 := upd_same (H := H) (a := g0) (o := .lst [])
    generalize upd H g0 (.lst []) = H0 at s0 hg0 ⊢
    refine ⟨_, rfl, c, ra, ta, da, wa, t1, t2, d1, d2, C, rfl, hc.same s0, ok, fun l l1 l2 rs1 rs2 H1 s1 hl hl1 hb1 hl2 hb2 => ⟨l, _, true, rfl, SqL.of hl, ?_⟩⟩
    have s01 := s0.trans s1
    have hg1 := s1 _ _ hg0
    refine for_it (walk_enumW (K := K) (a := l) (b := true) (n0 := 0) (xs := [V.ref l1, V.ref l2])) (fun i σ H' => Same H1 H' ∧ ∃ (D : Addr) (gs : List Addr) (x2 x3 x4 x5 x6 x7 x8 x9 : Option V), σ = [some (V.ref c), some (V.ref D), x2, x3, x4, x5, x6, x7, x8, x9] ∧ H' D = some (.lst (refs gs)) ∧ LAt (GrL H') gs (groups loI hiI (toldI (blk1 C) (blk2 C) i)))
      ⟨fun _ _ h => h, g0, [], _, _, _, _, _, _, _, _, rfl, hg1, .nil⟩ (fun i σ H' _ hh => SqL.of (hh.1 _ _ hl)) ?_ ?_
    · rintro i x σ Ha Hb hi ⟨sm, D, gs, x2, x3, x4, x5, x6, x7, x8, x9, rfl, hD, hgs⟩ ⟨T0, y1, y2, rfl, nT, rfl, e1, e2⟩
      cases e1
      obtain ⟨lp, rs, S, rfl, hlp, hS, eT, eI⟩ : ∃ (lp : Addr) (rs : List Addr) (S : List Blk), y2 = .ref lp ∧ H1 lp = some (.lst (refs rs)) ∧ BsAt H1 rs S ∧ toldI (blk1 C) (blk2 C) (i + 1) = toldI (blk1 C) (blk2 C) i ++ itm0 i S ∧ ∀ y ∈ toldI (blk1 C) (blk2 C) i ++ itm0 i S, y ∈ told (blk1 C) (blk2 C) := by
        match i, e2, hi with
        | 0, e2, _ =>
          cases e2
          exact ⟨l1, rs1, blk1 C, rfl, hl1, hb1, rfl, fun y hy => List.mem_append_left _ hy⟩
        | 1, e2, _ =>
          cases e2
          exact ⟨l2, rs2, blk2 C, rfl, hl2, hb2, rfl, fun y hy => hy⟩
      have sT := same_upd (o := .tup [V.int ((i + 0 : Nat) : Int), V.ref lp]) nT
      have hT := upd_same (H := Ha) (a := T0) (o := .tup [V.int ((i + 0 : Nat) : Int), V.ref lp])
      have sm1 := sm.trans sT
      have hD1 := sT _ _ hD
      have hgs1 := hgs.mono (S := GrL (upd Ha T0 (.tup [V.int ((i + 0 : Nat) : Int), V.ref lp]))) fun u x _ _ k => k.same sT
      generalize upd Ha T0 (.tup [V.int ((i + 0 : Nat) : Int), V.ref lp]) = Hb at hT sm1 hD1 hgs1 ⊢
      refine ⟨T0, _, rfl, SqT.of hT, rfl, _, _, rfl, _, _, rfl, rfl, ?_⟩
      have hlp1 := sm1 _ _ hlp
      have hS1 := hS.same sm1
      refine ⟨_, rfl, lp, rfl, ⟨_, SqL.of hlp1⟩, ?_⟩
      refine for_list (K := K) (a := lp) (xs := refs rs) (fun j σ H' => Same Hb H' ∧ ∃ (D : Addr) (gs : List Addr) (x4 x5 x6 x7 x8 x9 : Option V), σ = [some (V.ref c), some (V.ref D), some (V.int ((i + 0 : Nat) : Int)), some (V.ref lp), x4, x5, x6, x7, x8, x9] ∧ H' D = some (.lst (refs gs)) ∧ LAt (GrL H') gs (groups loI hiI (toldI (blk1 C) (blk2 C) i ++ itm0 i (S.take j))))
        ⟨fun _ _ h => h, D, gs, _, _, _, _, _, _, rfl, hD1, by show LAt _ _ (groups loI hiI (_ ++ [])); rw [List.append_nil]; exact hgs1⟩ (fun j σ H' _ hh => SqL.of (hh.1 _ _ hlp1)) ?_ ?_
      · rintro j x σ Hc hx ⟨sc, D, gs, y4, y5, y6, y7, y8, y9, rfl, hDc, hgc⟩
        obtain ⟨r, b, rfl, _, hbj, hrb⟩ := hS1.lat.at hx
        obtain ⟨X, eX⟩ : ∃ X : Itm, X = (i, b) := ⟨_, rfl⟩
        have eStep : groups loI hiI (toldI (blk1 C) (blk2 C) i ++ itm0 i (S.take (j + 1))) = stepG loI hiI (groups loI hiI (toldI (blk1 C) (blk2 C) i ++ itm0 i (S.take j))) X := by
          rw [itm0_take i S j hbj, ← List.append_assoc, groups_snoc, eX]
        have inT : ∀ y ∈ toldI (blk1 C) (blk2 C) i ++ itm0 i (S.take j), y ∈ told (blk1 C) (blk2 C) := fun y hy => eI y (by
          rcases List.mem_append.mp hy with q | q
          · exact List.mem_append_left _ q
          · refine List.mem_append_right _ ?_
            unfold itm0 at q ⊢
            obtain ⟨b', hb', rfl⟩ := List.mem_map.mp q
            exact List.mem_map.mpr ⟨b', List.mem_of_mem_take hb', rfl⟩)
        have inX : X ∈ told (blk1 C) (blk2 C) := eI X (List.mem_append_right _ (by
          unfold itm0
          rw [eX]
          exact List.mem_map.mpr ⟨b, List.mem_of_getElem? hbj, rfl⟩))
        have preLen : (toldI (blk1 C) (blk2 C) i ++ itm0 i (S.take j)).length ≤ 16 := by
          have e3 : (toldI (blk1 C) (blk2 C) i ++ itm0 i S).length ≤ 16 := by
            rw [← eT]
            match i, hi with
            | 0, _ => exact Nat.le_trans (by show (itm0 0 (blk1 C)).length ≤ (itm0 0 (blk1 C) ++ itm0 1 (blk2 C)).length; rw [List.length_append]; omega) tlen
            | 1, _ => exact tlen
          refine Nat.le_trans ?_ e3
          unfold itm0
          rw [List.length_append, List.length_append, List.length_map, List.length_map, List.length_take]
          omega
        have gIn : ∀ g ∈ groups loI hiI (toldI (blk1 C) (blk2 C) i ++ itm0 i (S.take j)), ∀ y ∈ g, y ∈ told (blk1 C) (blk2 C) := fun g hg y hy => inT y (groups_in hg y hy)
        have gLen : ∀ g ∈ groups loI hiI (toldI (blk1 C) (blk2 C) i ++ itm0 i (S.take j)), g.length ≤ 16 := fun g hg => Nat.le_trans (group_len hg) preLen
        have gsLen : (groups loI hiI (toldI (blk1 C) (blk2 C) i ++ itm0 i (S.take j))).length ≤ 16 := Nat.le_trans (groups_len _) preLen
        have gFl : (groups loI hiI (toldI (blk1 C) (blk2 C) i ++ itm0 i (S.take j))).flatten.length ≤ 16 := by
          rw [(groups_inv (lo := loI) (hi := hiI) lo_hi _).pm.length_eq]
          exact preLen
        rw [eStep]
        generalize groups loI hiI (toldI (blk1 C) (blk2 C) i ++ itm0 i (S.take j)) = Gs at hgc gIn gLen gsLen gFl ⊢
        clear eStep inT preLen
        have hrc := sc _ _ hrb
        obtain ⟨gX, lX1, lX2⟩ := bd X inX
        refine ⟨_, rfl, _, rfl, ll20 (by show 2 ≤ 20; decide), fun u nu => ⟨ll20 (by show 1 ≤ 20; decide), fun o no => ?_⟩⟩
        have su := same_upd (o := .tup [V.int ((i + 0 : Nat) : Int), V.ref r]) nu
        have hu := upd_same (H := Hc) (a := u) (o := .tup [V.int ((i + 0 : Nat) : Int), V.ref r])
        generalize upd Hc u (.tup [V.int ((i + 0 : Nat) : Int), V.ref r]) = Hd at su hu no ⊢
        have so := same_upd (o := .lst [V.ref u]) no
        have ho := upd_same (H := Hd) (a := o) (o := .lst [V.ref u])
        have hu1 := so _ _ hu
        have s1c := su.trans so
        generalize upd Hd o (.lst [V.ref u]) = He at so ho hu1 s1c ⊢
        have hre := s1c _ _ hrc
        refine ⟨_, rfl, r, b, rfl, fourV_sq hre, by rw [eX] at lX1; exact lX1, by rw [eX] at lX2; exact lX2, fun t H2 s2 nt ht => ?_⟩
        have sc2 := s1c.trans s2
        have ho2 := s2 _ _ ho
        have hu2 := s2 _ _ hu1
        have hr2' := s2 _ _ hre
        have hD2 := sc2 _ _ hDc
        have hg2 := hgc.mono (S := GrL H2) fun u x _ _ k => k.same sc2
        refine ⟨t, _, rfl, SqT.of ht, rfl, _, _, rfl, _, _, rfl, rfl, ?_⟩
        refine ⟨_, rfl, D, rfl, ⟨_, SqL.of hD2⟩, fun M nM => ?_⟩
        refine lc_list (K := K) (a := D) (xs := refs gs) (fun k Hx => Same H2 Hx ∧ ∃ ms, Hx M = some (.lst (refs ms)) ∧ LAt (GrL H2) ms ((Gs.take k).filter (metB loI hiI X))) ⟨same_upd nM, [], upd_same, .nil⟩ (fun k Hx _ hh => SqL.of (hh.1 _ _ hD2)) ?_ ?_
        · rintro k v Hx hv ⟨sx, ms, hM, hms⟩
          obtain ⟨a, g, rfl, _, hg, hga⟩ := hg2.at hv
          have hgm := List.mem_of_getElem? hg
          refine ⟨rfl, _, rfl, _, rfl, _, rfl, a, _, _, g, rfl, hga.same sx, fun y hy => ⟨(bd y (gIn g hgm y hy)).2.1, (bd y (gIn g hgm y hy)).2.2⟩, Nat.le_trans (gLen g hgm) (by decide), fun H3 s3 => ⟨_, rfl, ?_⟩⟩
          have em : metL (coverB b).1 (coverB b).2 g = metB loI hiI X g := by
            have := met_eq (x := X) (g := g) gX fun y hy => (bd y (gIn g hgm y hy)).1
            rw [← this, eX]
          rw [em]
          have hM3 := s3 _ _ hM
          cases hmt : metB loI hiI X g with
          | true =>
            refine iteT ⟨_, rfl, _, hM3, ?_, fun b' o' h => ?_, ms ++ [a], ?_, ?_⟩
            · rw [hms.len]
              refine Nat.lt_of_le_of_lt (List.length_filter_le _ _) ?_
              rw [List.length_take]
              exact Nat.lt_of_le_of_lt (Nat.le_trans (Nat.min_le_right _ _) gsLen) (by decide)
            · rw [upd_ne (ne_of_none h nM)]
              exact s3 _ _ (sx _ _ h)
            · rw [upd_same, refs_snoc]
            · rw [List.take_add_one, hg, List.filter_append]
              refine hms.append ?_
              show LAt _ _ ([g].filter _)
              rw [List.filter_cons_of_pos hmt]
              exact .one hga
          | false =>
            refine iteF ⟨sx.trans s3, ms, hM3, ?_⟩
            rw [List.take_add_one, hg, List.filter_append]
            show LAt _ _ (_ ++ [g].filter _)
            rw [List.filter_cons_of_neg (by rw [hmt]; decide)]
            show LAt _ _ (_ ++ [])
            rw [List.append_nil]
            exact hms
        rintro H3 ⟨s3, ms, hM3, hms⟩
        rw [hg2.len, List.take_length] at hms
        have hD3 := s3 _ _ hD2
        refine ⟨_, rfl, D, rfl, ⟨_, SqL.of hD3⟩, fun D2 nD2 => ?_⟩
        refine lc_list (K := K) (a := D) (xs := refs gs) (fun k Hx => Same H3 Hx ∧ ∃ ks, Hx D2 = some (.lst (refs ks)) ∧ LAt (GrL H2) ks ((Gs.take k).filter fun g => !metB loI hiI X g)) ⟨same_upd nD2, [], upd_same, .nil⟩ (fun k Hx _ hh => SqL.of (hh.1 _ _ hD3)) ?_ ?_
        · rintro k v Hx hv ⟨sx, ks, hK, hks⟩
          obtain ⟨a, g, rfl, _, hg, hga⟩ := hg2.at hv
          have hgm := List.mem_of_getElem? hg
          have s2x := s3.trans sx
          refine ⟨rfl, _, rfl, _, rfl, grD g, (Gs.filter (metB loI hiI X)).map grD, (hga.same s2x).dp, .lst (SqL.of (sx _ _ hM3)) (lat_dp (fun _ _ k => (k.same s2x).dp) hms), gr_shaped _, grs_shaped _, _, rfl, ?_⟩
          rw [in_grs]
          have ed : decide (g ∈ Gs.filter (metB loI hiI X)) = metB loI hiI X g := by
            rw [Bool.eq_iff_iff, decide_eq_true_iff, List.mem_filter]
            exact ⟨fun h => h.2, fun h => ⟨hgm, h⟩⟩
          rw [ed]
          cases hmt : metB loI hiI X g with
          | false =>
            refine iteT ⟨_, rfl, _, hK, ?_, fun b' o' h => ?_, ks ++ [a], ?_, ?_⟩
            · rw [hks.len]
              refine Nat.lt_of_le_of_lt (List.length_filter_le _ _) ?_
              rw [List.length_take]
              exact Nat.lt_of_le_of_lt (Nat.le_trans (Nat.min_le_right _ _) gsLen) (by decide)
            · rw [upd_ne (ne_of_none h nD2)]
              exact sx _ _ h
            · rw [upd_same, refs_snoc]
            · rw [List.take_add_one, hg, List.filter_append]
              refine hks.append ?_
              show LAt _ _ ([g].filter _)
              rw [List.filter_cons_of_pos (by rw [hmt]; rfl)]
              exact .one hga
          | true =>
            refine iteF ⟨sx, ks, hK, ?_⟩
            rw [List.take_add_one, hg, List.filter_append]
            show LAt _ _ (_ ++ [g].filter _)
            rw [List.filter_cons_of_neg (by rw [hmt]; decide)]
            show LAt _ _ (_ ++ [])
            rw [List.append_nil]
            exact hks
        rintro H4 ⟨s4, ks, hK, hks⟩
        rw [hg2.len, List.take_length] at hks
        have s24 := s3.trans s4
        have hM4 := s4 _ _ hM3
        have oD : o ≠ D2 := ne_of_none (s3 _ _ ho2) nD2
        have eiX : ItL H4 u X := ⟨r, by rw [eX]; exact s24 _ _ hu2, by rw [eX]; exact s24 _ _ hr2'⟩
        refine ⟨_, rfl, M, rfl, ⟨_, SqL.of hM4⟩, ?_⟩
        refine for_list (K := K) (a := M) (xs := refs ms) (fun k σ H' => Same H4 H' ∧ ∃ (o : Addr) (us : List Addr) (z9 : Option V), σ = [some (V.ref c), some (V.ref D2), some (V.int ((i + 0 : Nat) : Int)), some (V.ref lp), some (V.ref r), some (V.ref o), some (V.int (coverB b).1), some (V.int (coverB b).2), some (V.ref M), z9] ∧ o ≠ D2 ∧ H' o = some (.lst (refs us)) ∧ LAt (ItL H') us ([X] ++ ((Gs.filter (metB loI hiI X)).take k).flatten))
          ⟨fun _ _ h => h, o, [u], _, rfl, oD, s24 _ _ ho2, .one eiX⟩ (fun k σ H' _ hh => SqL.of (hh.1 _ _ hM4)) ?_ ?_
        · rintro k v σ Hx hv ⟨sx, o, us, z9, rfl, oD, hox, hus⟩
          obtain ⟨a, g, rfl, _, hg, hga⟩ := hms.at hv
          obtain ⟨vs, hva, hvs⟩ := hga.same (s24.trans sx)
          have lfl : ([X] ++ ((Gs.filter (metB loI hiI X)).take k).flatten).length ≤ 17 := by
            rw [List.length_append]
            have h1 : ((Gs.filter (metB loI hiI X)).take k).flatten.length ≤ Gs.flatten.length := sub_flat ((List.take_sublist _ _).trans List.filter_sublist)
            show 1 + _ ≤ 17
            omega
          have gl := gLen g (List.mem_filter.mp (List.mem_of_getElem? hg)).1
          refine ⟨_, rfl, _, rfl, o, a, _, _, rfl, rfl, hox, hva, ?_, fun p np => ?_⟩
          · rw [hus.len, hvs.len]
            exact Nat.le_trans (Nat.add_le_add lfl gl) (by decide)
          · have spp := same_upd (o := .lst (refs us ++ refs vs)) np
            refine ⟨sx.trans spp, p, us ++ vs, _, rfl, (ne_of_none (sx _ _ hK) np).symm, ?_, ?_⟩
            · rw [upd_same]
              unfold refs
              rw [List.map_append]
            · rw [List.take_add_one, hg, List.flatten_append, ← List.append_assoc]
              have e3 : (Option.toList (some g)).flatten = g := by show g ++ [] = g; exact List.append_nil _
              rw [e3]
              exact ((hus.mono fun _ _ _ _ k => k.same spp).append (hvs.mono fun _ _ _ _ k => k.same spp))
        · rintro σ H5 ⟨s5, o, us, z9, rfl, oD, ho5, hus⟩
          rw [hms.len, List.take_length] at hus
          have hK5 := s5 _ _ hK
          have s25 := s24.trans s5
          refine ⟨_, rfl, .inl ⟨rfl, _, SqL.of hK5⟩, _, rfl, D2, _, _, rfl, rfl, hK5, ?_, ?_⟩
          · rw [hks.len]
            exact Nat.lt_of_le_of_lt (Nat.le_trans (List.length_filter_le _ _) gsLen) (by decide)
          have ksD : ∀ a g, GrL H2 a g → a ≠ D2 := fun a g h => by
            obtain ⟨_, h1, _⟩ := h
            exact ne_of_none (s3 _ _ h1) nD2
          refine ⟨fun b' o' h => ?_, D2, ks ++ [o], _, _, _, _, _, _, rfl, ?_, ?_⟩
          · have h3 := s3 _ _ (sc2 _ _ (sc _ _ h))
            rw [upd_ne (ne_of_none h3 nD2)]
            exact s5 _ _ (s4 _ _ h3)
          · rw [upd_same, refs_snoc]
          · unfold stepG
            refine (hks.mono fun a g _ _ k => (k.same s25).updL hK5 (ksD a g k)).append (.one ?_)
            exact GrL.updL ⟨us, ho5, hus⟩ hK5 oD
      · rintro σ Hc ⟨sc, D, gs, y4, y5, y6, y7, y8, y9, rfl, hDc, hgc⟩
        rw [hS1.lat.len, List.take_length, ← eT] at hgc
        exact ⟨sm1.trans sc, D, gs, _, _, _, _, _, _, _, _, rfl, hDc, hgc⟩
    rintro σ H6 ⟨s6, D, gs, x2, x3, x4, x5, x6, x7, x8, x9, rfl, hD, hgs⟩
    have hgs : LAt (GrL H6) gs (groups loI hiI (told (blk1 C) (blk2 C))) := hgs
    have I := groups_inv (lo := loI) (hi := hiI) lo_hi (told (blk1 C) (blk2 C))
    have gIn : ∀ g ∈ groups loI hiI (told (blk1 C) (blk2 C)), ∀ y ∈ g, y ∈ told (blk1 C) (blk2 C) := fun g hg y hy => groups_in hg y hy
    have gLen : ∀ g ∈ groups loI hiI (told (blk1 C) (blk2 C)), g.length ≤ 16 := fun g hg => Nat.le_trans (group_len hg) tlen
    have gsLen : (groups loI hiI (told (blk1 C) (blk2 C))).length ≤ 16 := Nat.le_trans (groups_len _) tlen
    have zf : ((refs gs).zip (groups loI hiI (told (blk1 C) (blk2 C)))).map (·.1) = refs gs := List.map_fst_zip (by unfold refs; rw [List.length_map, hgs.1]; exact Nat.le_refl _)
    have zs2 : ((refs gs).zip (groups loI hiI (told (blk1 C) (blk2 C)))).map (·.2) = groups loI hiI (told (blk1 C) (blk2 C)) := List.map_snd_zip (by unfold refs; rw [List.length_map, hgs.1]; exact Nat.le_refl _)
    have zz := lat_zipA hgs
    have zg : ∀ w ∈ (refs gs).zip (groups loI hiI (told (blk1 C) (blk2 C))), w.2 ∈ groups loI hiI (told (blk1 C) (blk2 C)) := fun w hw => by
      rw [← zs2]
      exact List.mem_map.mpr ⟨w, hw, rfl⟩
    generalize (refs gs).zip (groups loI hiI (told (blk1 C) (blk2 C))) = Z at zf zs2 zz zg ⊢
    refine ⟨_, rfl, D, Z.map fun w => (w.1, firstG w.2), fun _ H' => Same H6 H', rfl, rfl, ?_, fun _ _ h => h, fun j w H' hw sj => ?_, fun p H7 s7 np => ?_⟩
    · rw [List.map_map]
      show SqL K H6 D (Z.map (·.1))
      rw [zf]
      exact SqL.of hD
    · rw [List.getElem?_map] at hw
      obtain ⟨w, hw1, rfl⟩ := Option.map_eq_some_iff.mp hw
      have hwm := List.mem_of_getElem? hw1
      obtain ⟨a, ea, ha⟩ := zz w hwm
      have hgm := zg w hwm
      exact ⟨a, w.2, by rw [ea], ha.same sj, fun y hy => ⟨(bd y (gIn w.2 hgm y hy)).2.1, (bd y (gIn w.2 hgm y hy)).2.2⟩, I.ne _ hgm, Nat.le_trans (gLen w.2 hgm) (by decide), fun H'' s'' => ⟨rfl, sj.trans s''⟩⟩
    have hsrt : ((Z.map fun w => (w.1, firstG w.2)).mergeSort fun x y => decide (x.2 ≤ y.2)) = (Z.mergeSort fun x y => decide (firstG x.2 ≤ firstG y.2)).map fun w => (w.1, firstG w.2) :=
      (PySem.W.sort_maps (fun w : V × List Itm => (w.1, firstG w.2)) fun _ _ _ _ => rfl).symm
    rw [hsrt, List.map_map]
    have hmap : ((fun x : V × Int => x.1) ∘ fun w : V × List Itm => (w.1, firstG w.2)) = fun w => w.1 := rfl
    rw [hmap]
    obtain ⟨ks, eks, hks⟩ := zip_refsA (R := GrL H6) (Z := Z.mergeSort fun x y => decide (firstG x.2 ≤ firstG y.2)) fun w hw => zz w ((List.mergeSort_perm _ _).mem_iff.mp hw)
    rw [eks]
    have hp : ((Z.mergeSort fun x y => decide (firstG x.2 ≤ firstG y.2)).map (·.2)).Perm (groups loI hiI (told (blk1 C) (blk2 C))) := by
      have := (List.mergeSort_perm Z fun x y => decide (firstG x.2 ≤ firstG y.2)).map (·.2)
      rw [zs2] at this
      exact this
    have hs : ((Z.mergeSort fun x y => decide (firstG x.2 ≤ firstG y.2)).map (·.2)).Pairwise fun g h => firstG g ≤ firstG h := by
      rw [List.pairwise_map]
      refine (List.pairwise_mergeSort (le := fun x y : V × List Itm => decide (firstG x.2 ≤ firstG y.2)) (fun a b c h1 h2 => ?_) (fun a b => ?_) Z).imp fun h => of_decide_eq_true h
      · have h1 := of_decide_eq_true h1
        have h2 := of_decide_eq_true h2
        exact decide_eq_true (Int.le_trans h1 h2)
      · rw [Bool.or_eq_true, decide_eq_true_iff, decide_eq_true_iff]
        exact Int.le_total _ _
    generalize (Z.mergeSort fun x y => decide (firstG x.2 ≤ firstG y.2)).map (·.2) = Gs at hks hp hs ⊢
    have eK : knotsL (blk1 C) (blk2 C) = Gs.map asKnot := knots_same sp0 sp1 firstG (fun g x hx => (firstG_is (fun e => by rw [e] at hx; cases hx)).2 _ (List.mem_map.mpr ⟨x, hx, rfl⟩)) (fun g hg => by
      obtain ⟨x, hx, e⟩ := List.mem_map.mp (firstG_is hg).1
      exact ⟨x, hx, e⟩) hp hs
    have sp := same_upd (o := .lst (refs ks)) np
    have hp7 := upd_same (H := H7) (a := p) (o := .lst (refs ks))
    have s68 := s7.trans sp
    generalize upd H7 p (.lst (refs ks)) = H8 at hp7 s68 ⊢
    have hk8 := hks.mono (S := GrL H8) fun _ _ _ _ k => k.same s68
    refine ⟨p, rfl, ⟨_, SqL.of hp7⟩, fun E1 nE => ?_⟩
    refine lc_list (K := K) (a := p) (xs := refs ks) (fun j Hx => Same H8 Hx ∧ ∃ ts, Hx E1 = some (.lst (refs ts)) ∧ LAt (KOut Hx) ts ((Gs.take j).map asKnot)) ⟨same_upd nE, [], upd_same, .nil⟩ (fun j Hx _ hh => SqL.of (hh.1 _ _ hp7)) ?_ ?_
    · rintro j v Hx hv ⟨sx, ts, hE, hts⟩
      obtain ⟨a, g, rfl, _, hg, hga⟩ := hk8.at hv
      have hgm := hp.mem_iff.mp (List.mem_of_getElem? hg)
      refine ⟨rfl, ?_⟩
      unfold tYes
      dsimp only
      rw [if_pos rfl]
      refine ⟨_, rfl, a, g, rfl, hga.same sx, Nat.le_trans (gLen g hgm) (by decide), fun t H9 s9 nt ht => ?_⟩
      have hE9 := s9 _ _ hE
      refine ⟨_, hE9, ?_, fun b' o' h => ?_, ts ++ [t], ?_, ?_⟩
      · rw [hts.len, List.length_map, List.length_take]
        have := hp.length_eq
        exact Nat.lt_of_le_of_lt (Nat.le_trans (Nat.min_le_right _ _) (by rw [this]; exact gsLen)) (by decide)
      · rw [upd_ne (ne_of_none h nE)]
        exact s9 _ _ (sx _ _ h)
      · rw [upd_same, refs_snoc]
      · rw [List.take_add_one, hg, List.map_append]
        exact (hts.mono fun _ _ _ _ k => (k.same s9).updL hE9).append (.one (ht.updL hE9))
    rintro H9 ⟨s9, ts, hE, hts⟩
    rw [hk8.len, List.take_length, ← eK] at hts
    have s09 := ((s01.trans s6).trans s68)
    exact z E1 ts H9 (s09.trans s9) (none_before s09 nE) hE hts
end
end K62
namespace XR
open PySem L2 KT
def anyB (bs : List Blk) : Bool := (bs.map fun b => decide ((b.2.2.2 : Int) > (b.2.2.1 : Int))).any id
theorem any_go : ∀ {bs : List Blk}, (∀ b ∈ bs, b.2.2.1 ≤ b.2.2.2) → (!anyB bs) = goOnly bs
  | [], _ => rfl
  | b :: bs, h => by
    have ih := any_go (bs := bs) fun x hx => h x (List.mem_cons_of_mem _ hx)
    have h0 := h b (List.mem_cons_self ..)
    unfold anyB goOnly at ih ⊢
    rw [List.map_cons, List.map_cons, List.any_cons, List.all_cons, Bool.not_or, ih]
    congr 1
    show (!decide ((b.2.2.2 : Int) > (b.2.2.1 : Int))) = decide ((b.2.2.1 : Int) = (b.2.2.2 : Int))
    rw [← decide_not, decide_eq_decide]
    omega
/-- the kind of a knot, by the law -/
def spSort (K : PySem.W.Frag) : Sp := fun vs H Q _ => ∃ (x : V) (k : List Blk × List Blk) (c ra ta da wa t1 t2 d1 d2 : Addr) (C : CaseD), vs = [x, .ref c] ∧ Dq K H x (knD k) ∧ CaseAt' H c ra ta da wa t1 t2 d1 d2 C ∧ OkS C.s1 ∧ OkS C.s2 ∧ InTx k.1 C.s1 ∧ InTx k.2 C.s2 ∧ (k.1 ++ k.2).length ≤ 1000 ∧
  ∀ H', Same H H' → Q (.str (kindL k C.s1 C.s2)) H'
end XR
namespace K62
open PySem L2 XR KT
section
variable {P : Program} {w : World} {K : PySem.W.Frag} {mg : Str → Option Value} {base : Heap}
abbrev nLBounds : List Str := ["_law_knot", "_law_parts_here", "_law_part"]
abbrev sSort : Stmt := top 53
abbrev nSort : List Str := ["_law_knot", "_law_case_here", "_law_first", "_law_second_here", "_law_own", "_law_part"]
theorem scSort : FnScope nSort ["_law_knot", "_law_case_here"] (defScope sSort) := ⟨rfl, rfl, rfl, by decide +kernel, rfl, by decide +kernel, by decide +kernel⟩
theorem ok_sort {f : Addr} {fd : FuncData} (F : Fun K "_law_sort_of" "_law_sort_of" sSort f fd) (T : Blt mg) (mA : mg "any" = none) : FnOk P w K mg base CX0 2 f fd ["_law_knot", "_law_case_here"] (spSort K) := by
  refine F.ok scSort (fun vs H Q E h => ?_) (fun cdv A outer s H vs Q E hr h => ?_)
  · obtain ⟨x, k, c, ra, ta, da, wa, t1, t2, d1, d2, C, rfl, _⟩ := h
    rfl
  · obtain ⟨x, k, c, ra, ta, da, wa, t1, t2, d1, d2, C, rfl, hx, hc, o1, o2, i1, i2, hlen, z⟩ := h
    have hu := hu_of hr
    refine ⟨_, pss_cons (ps_asg (pv 0) (pg_tup rfl (pgs_cons (pg_name (i := 2) scSort.nd rfl (.inl rfl)) (pgs_cons (pg_name (i := 3) scSort.nd rfl (.inl rfl)) pgs_nil))))
      (pss_cons (ps_if (pt_not (pt_val (pe_callB (cr_any rfl) (by rfl) mA (by decide +kernel) (pa_cons (pe_lc (own := [("_law_part", 5)]) (g := gName 5) (tt := tYes) (te := tOp (rI0 fun i j => V.bl (decide (i > j))) (tOp (rIxT K) (tVar 5) (tC (.int 3))) (tOp (rIxT K) (tVar 5) (tC (.int 2)))) rfl scSort.nd (pi_tup (pe_op op_catA (pv 2) (pv 3)))
          (blkOk_by (own := [("_law_part", 5)]) (N := nSort) (sc := defScope sSort) (by decide +kernel)) (fun _ _ _ _ _ => pg_name (i := 5) scSort.nd rfl (.inl rfl)) (fun _ _ _ _ _ => pts_nil) (fun _ _ _ _ _ => pe_cmpR op_gt (pe_ix ix_tup (pv 5) pe_int (fun _ _ => rfl)) (pe_ix ix_tup (pv 5) pe_int (fun _ _ => rfl)) (nomark _))) pa_nil)))) (pss_one (ps_ret pe_str)) pss_nil)
      (pss_cons (ps_if (pt_cmpR op_eq (pe_op op_add (pe_callB call_len_seq (by rfl) T.len PySem.boot_len (pa_cons (pv 2) pa_nil)) (pe_callB call_len_seq (by rfl) T.len PySem.boot_len (pa_cons (pv 3) pa_nil))) pe_int (nomark _)) (pss_one (ps_ret (pe_ix ix_list (pe_lst (pa_cons pe_str (pa_cons pe_str pa_nil))) (pe_callB call_len_seq (by rfl) T.len PySem.boot_len (pa_cons (pv 2) pa_nil)) (fun _ _ => rfl)))) pss_nil)
      (pss_cons (ps_if (PW.pt (pw_and (pt_cmpR op_eq (pe_callB call_len_seq (by rfl) T.len PySem.boot_len (pa_cons (pv 2) pa_nil)) pe_int (nomark _)) (pw_and (pt_cmpR op_eq (pe_callB call_len_seq (by rfl) T.len PySem.boot_len (pa_cons (pv 3) pa_nil)) pe_int (nomark _))
            (pw_and1 (pt_cmpR (op_eqD hr.units) (pe_slice sl_tupA (pe_ix ix_tup (pv 2) pe_int (fun _ _ => rfl)) po_none (po_some pe_int)) (pe_slice sl_tupA (pe_ix ix_tup (pv 3) pe_int (fun _ _ => rfl)) po_none (po_some pe_int)) (nomark _))))))
          (pss_cons (ps_set (i := 4) scSort.nd rfl (.inl rfl) (pe_slice sl_list (pe_ix ix_list (pe_dget hu (pv 1) pe_str (fun _ _ => rfl)) pe_int (fun _ _ => rfl)) (po_some (pe_ix ix_tup (pe_ix ix_tup (pv 2) pe_int (fun _ _ => rfl)) pe_int (fun _ _ => rfl))) (po_some (pe_ix ix_tup (pe_ix ix_tup (pv 2) pe_int (fun _ _ => rfl)) pe_int (fun _ _ => rfl)))))
          (pss_one (ps_if (pt_cmpR (op_eqD hr.units) (pv 4) (pe_slice sl_list (pe_ix ix_list (pe_dget hu (pv 1) pe_str (fun _ _ => rfl)) pe_int (fun _ _ => rfl)) (po_some (pe_ix ix_tup (pe_ix ix_tup (pv 3) pe_int (fun _ _ => rfl)) pe_int (fun _ _ => rfl))) (po_some (pe_ix ix_tup (pe_ix ix_tup (pv 3) pe_int (fun _ _ => rfl)) pe_int (fun _ _ => rfl)))) (nomark _)) (pss_one (ps_ret pe_str)) pss_nil))) pss_nil)
      (pss_one (ps_ret pe_str))))), ?_⟩
    obtain ⟨r, v0, v1, rfl, hr1, d0, d1'⟩ := knD_of hx
    obtain ⟨a0, xs0, rfl, q0, e0⟩ := tup_of d0
    obtain ⟨a1, xs1, rfl, q1, e1⟩ := tup_of d1'
    have len0 : xs0.length = k.1.length := by rw [e0.length, List.length_map]
    have len1 : xs1.length = k.2.length := by rw [e1.length, List.length_map]
    refine ⟨_, rfl, r, _, rfl, hr1, rfl, _, _, rfl, _, _, rfl, rfl, ?_⟩
    refine ⟨_, rfl, _, rfl, ?_⟩
    have hl2 : (k.1.map blkD).length + (k.2.map blkD).length ≤ sizeLine := by rw [List.length_map, List.length_map, ← List.length_append]; exact Nat.le_trans hlen (by decide)
    refine cat_dq d0 d1' hl2 fun t ys H1 s1 ht hys => ?_
    rw [← List.map_append] at hys
    have lys : ys.length = (k.1 ++ k.2).length := by rw [hys.length, List.length_map]
    refine ⟨t, rfl, ⟨_, ht⟩, fun D nD => ?_⟩
    refine lc_tup (K := K) (a := t) (xs := ys) (fun j Hx => Same H1 Hx ∧ Hx D = some (.lst ((((k.1 ++ k.2).take j).map fun b => decide ((b.2.2.2 : Int) > (b.2.2.1 : Int))).map V.bl))) ⟨same_upd nD, upd_same⟩ (fun j Hx _ hh => XR.Same.tup hh.1 ht) ?_ ?_
    · rintro j x Hx hx ⟨sx, hD⟩
      obtain ⟨d, hd1, hd2⟩ := hys.get hx
      rw [List.getElem?_map] at hd1
      obtain ⟨b, hbj, rfl⟩ := Option.map_eq_some_iff.mp hd1
      obtain ⟨r, rfl, hr2⟩ := blk_of hd2
      have hr3 := XR.Same.tup sx hr2
      refine ⟨rfl, ?_⟩
      unfold tYes
      dsimp only
      rw [if_pos rfl]
      refine ⟨_, rfl, r, _, _, _, rfl, rfl, hr3, atI_nat (j := 3) rfl, _, rfl, r, _, _, _, rfl, rfl, hr3, atI_nat (j := 2) rfl, _, _, rfl, rfl, _, hD, ?_, fun b' o' h => ?_, ?_⟩
      · rw [List.length_map, List.length_map, List.length_take]
        exact Nat.lt_of_le_of_lt (Nat.le_trans (Nat.min_le_right _ _) hlen) (by decide)
      · rw [upd_ne (ne_of_none h nD)]
        exact sx _ _ h
      · rw [upd_same, List.take_add_one, hbj, List.map_append, List.map_append]
        rfl
    rintro H2 ⟨s2, hD⟩
    rw [lys, List.take_length] at hD
    have s12 := s1.trans s2
    refine ⟨D, _, rfl, SqL.of hD, _, rfl, ?_⟩
    have ego : (!((k.1 ++ k.2).map fun b => decide ((b.2.2.2 : Int) > (b.2.2.1 : Int))).any id) = goOnly (k.1 ++ k.2) := any_go fun b hb => by
      rcases List.mem_append.mp hb with h | h
      · exact (i1 b h).1
      · exact (i2 b h).1
    have eb : ((k.1 ++ k.2).map fun b => decide ((b.2.2.2 : Int) > (b.2.2.1 : Int))).any id = !goOnly (k.1 ++ k.2) := by rw [← ego, Bool.not_not]
    rw [eb]
    by_cases cg : goOnly (k.1 ++ k.2) = true
    · have ek : kindL k C.s1 C.s2 = "going" := by unfold kindL; rw [if_pos cg]
      rw [ek] at z
      rw [cg]
      exact iteT (z _ s12)
    have cg' : goOnly (k.1 ++ k.2) = false := by
      cases e : goOnly (k.1 ++ k.2) with
      | true => exact absurd e cg
      | false => rfl
    rw [cg']
    have q0' := XR.Same.tup s12 q0
    have q1' := XR.Same.tup s12 q1
    refine iteF ⟨_, rfl, a0, xs0, rfl, .inr q0', _, rfl, a1, xs1, rfl, .inr q1', _, _, rfl, rfl, rfl, _, rfl, ?_⟩
    rw [dec_i]
    have hsum : (xs0.length : Int) + (xs1.length : Int) = ((k.1 ++ k.2).length : Int) := by rw [List.length_append, len0, len1]; omega
    rw [hsum]
    by_cases c1 : (k.1 ++ k.2).length = 1
    · rw [decide_eq_true (show ((k.1 ++ k.2).length : Int) = 1 by omega)]
      have ek : kindL k C.s1 C.s2 = if k.1.isEmpty then ("two" : Str) else ("one" : Str) := by unfold kindL; rw [if_neg cg, if_pos c1]
      rw [ek] at z
      refine iteT ⟨ll20 (by show 2 ≤ 20; decide), fun l nl => ?_⟩
      have sl := same_upd (o := .lst [V.str "two", V.str "one"]) nl
      refine ⟨_, rfl, a0, xs0, rfl, .inr (XR.Same.tup sl q0'), ?_⟩
      have c1' := c1
      rw [List.length_append] at c1'
      cases hk : k.1 with
      | nil =>
        rw [hk] at z len0
        obtain rfl : xs0 = [] := List.eq_nil_of_length_eq_zero len0
        refine ⟨l, _, _, _, rfl, rfl, SqL.of upd_same, atI_nat (j := 0) rfl, z _ (s12.trans sl)⟩
      | cons b bt =>
        have hb0 : bt.length = 0 := by rw [hk] at c1'; simp at c1'; omega
        rw [hk] at z len0
        obtain ⟨x0, rfl⟩ := List.length_eq_one_iff.mp (show xs0.length = 1 by rw [len0, List.length_cons, hb0])
        refine ⟨l, _, _, _, rfl, rfl, SqL.of upd_same, atI_nat (j := 1) rfl, z _ (s12.trans sl)⟩
    · rw [decide_eq_false (show ¬ ((k.1 ++ k.2).length : Int) = 1 by omega)]
      refine iteF ?_
      refine ⟨_, rfl, a0, xs0, rfl, .inr q0', rfl, _, rfl, ?_⟩
      rw [dec_i, len0]
      have clash : ∀ {H'}, Same H H' → ¬ (k.1.length = 1 ∧ k.2.length = 1) → Q (.str "clash") H' := fun {H'} sm n => by
        have ek : kindL k C.s1 C.s2 = "clash" := by
          unfold kindL
          rw [if_neg cg, if_neg c1]
          obtain ⟨k1, k2⟩ := k
          match k1, k2, n with
          | [], _, _ => rfl
          | [_], [], _ => rfl
          | [_], [_], n => exact absurd ⟨rfl, rfl⟩ n
          | [_], _ :: _ :: _, _ => rfl
          | _ :: _ :: _, _, _ => rfl
        rw [ek] at z
        exact z _ sm
      by_cases c2 : k.1.length = 1
      · rw [decide_eq_true (show (k.1.length : Int) = 1 by omega)]
        refine iteT ⟨_, rfl, a1, xs1, rfl, .inr q1', rfl, _, rfl, ?_⟩
        rw [dec_i, len1]
        by_cases c3 : k.2.length = 1
        · rw [decide_eq_true (show (k.2.length : Int) = 1 by omega)]
          refine iteT ?_
          obtain ⟨k1, k2⟩ := k
          dsimp only at c2 c3 len0 len1 e0 e1 i1 i2
          obtain ⟨b, rfl⟩ := List.length_eq_one_iff.mp c2
          obtain ⟨c', rfl⟩ := List.length_eq_one_iff.mp c3
          obtain ⟨x0, rfl⟩ := List.length_eq_one_iff.mp (show xs0.length = 1 by rw [len0]; rfl)
          obtain ⟨x1, rfl⟩ := List.length_eq_one_iff.mp (show xs1.length = 1 by rw [len1]; rfl)
          have db : Dq K H x0 (blkD b) := by cases e0 with | cons h _ => exact h
          have dc : Dq K H x1 (blkD c') := by cases e1 with | cons h _ => exact h
          obtain ⟨rb, rfl, hb⟩ := blk_of (db.same s12)
          obtain ⟨rc, rfl, hcc⟩ := blk_of (dc.same s12)
          refine ⟨_, rfl, a0, _, _, _, rfl, rfl, q0', atI_nat (j := 0) rfl, _, rfl, rb, _, rfl, hb, (fun hw => absurd (show (2 : Nat) = 4 from hw.2) (by decide)), fun _ p np => ?_⟩
          rw [cut2]
          have sp := same_upd (o := .tup [V.int (b.1 : Int), V.int (b.2.1 : Int)]) np
          have hp := upd_same (H := H2) (a := p) (o := .tup [V.int (b.1 : Int), V.int (b.2.1 : Int)])
          refine ⟨_, rfl, a1, _, _, _, rfl, rfl, XR.Same.tup sp q1', atI_nat (j := 0) rfl, _, rfl, rc, _, rfl, XR.Same.tup sp hcc, (fun hw => absurd (show (2 : Nat) = 4 from hw.2) (by decide)), fun _ p2 np2 => ?_⟩
          rw [cut2]
          have sp2 := same_upd (o := .tup [V.int (c'.1 : Int), V.int (c'.2.1 : Int)]) np2
          have s14 := (s12.trans sp).trans sp2
          refine ⟨.tuple [.int (b.1 : Int), .int (b.2.1 : Int)], .tuple [.int (c'.1 : Int), .int (c'.2.1 : Int)], .tup (SqT.of (sp2 _ _ hp)) (.cons (.int _) (.cons (.int _) .nil)), .tup (SqT.of upd_same) (.cons (.int _) (.cons (.int _) .nil)), two_shaped _ _, two_shaped _ _, _, rfl, ?_⟩
          rw [two_eqv]
          have ekk : kindL ([b], [c']) C.s1 C.s2 = if b.1 = c'.1 ∧ b.2.1 = c'.2.1 then (if seg C.s1 b.2.2.1 b.2.2.2 = seg C.s2 c'.2.2.1 c'.2.2.2 then ("alike" : Str) else ("clash" : Str)) else ("clash" : Str) := by
            unfold kindL
            rw [if_neg cg, if_neg c1]
          rw [ekk] at z
          by_cases c4 : b.1 = c'.1 ∧ b.2.1 = c'.2.1
          · rw [decide_eq_true c4]
            rw [if_pos c4] at z
            obtain ⟨ib1, ib2⟩ := i1 b (List.mem_singleton.mpr rfl)
            obtain ⟨ic1, ic2⟩ := i2 c' (List.mem_singleton.mpr rfl)
            have q0n := XR.Same.tup (sp.trans sp2) q0'
            have q1n := XR.Same.tup (sp.trans sp2) q1'
            have hbn := XR.Same.tup (sp.trans sp2) hb
            have hcn := XR.Same.tup (sp.trans sp2) hcc
            have hC := hc.same s14
            have g2 : ∀ {Hy}, Same H Hy → DGet Hy c (.str "texts") (some (.ref ta)) := fun {Hy} s => by
              have := DGet.k (k := Sum.inr "texts") (hc.same s).h
              rw [case_texts] at this
              exact this
            refine iteT ⟨_, rfl, c, _, rfl, g2 s14, ta, _, _, _, rfl, rfl, SqL.of hC.t, atI_nat (j := 0) rfl, _, rfl, a0, _, _, _, rfl, rfl, q0n, atI_nat (j := 0) rfl, rb, _, _, _, rfl, rfl, hbn, atI_nat (j := 2) rfl, _, rfl, _, rfl, a0, _, _, _, rfl, rfl, q0n, atI_nat (j := 0) rfl, rb, _, _, _, rfl, rfl, hbn, atI_nat (j := 3) rfl, _, rfl, t1, _, rfl, SqL.of hC.x, fun la na => ?_⟩
            rw [cut_seg C.s1 ib1 ib2]
            have sa := same_upd (o := .lst ((seg C.s1 b.2.2.1 b.2.2.2).map V.str)) na
            have hla := upd_same (H := upd (upd H2 p (.tup [V.int (b.1 : Int), V.int (b.2.1 : Int)])) p2 (.tup [V.int (c'.1 : Int), V.int (c'.2.1 : Int)])) (a := la) (o := .lst ((seg C.s1 b.2.2.1 b.2.2.2).map V.str))
            have s15 := s14.trans sa
            have q1a := XR.Same.tup sa q1n
            have hca := XR.Same.tup sa hcn
            have hC5 := hc.same s15
            refine ⟨_, rfl, _, rfl, c, _, rfl, g2 s15, ta, _, _, _, rfl, rfl, SqL.of hC5.t, atI_nat (j := 1) rfl, _, rfl, a1, _, _, _, rfl, rfl, q1a, atI_nat (j := 0) rfl, rc, _, _, _, rfl, rfl, hca, atI_nat (j := 2) rfl, _, rfl, _, rfl, a1, _, _, _, rfl, rfl, q1a, atI_nat (j := 0) rfl, rc, _, _, _, rfl, rfl, hca, atI_nat (j := 3) rfl, _, rfl, t2, _, rfl, SqL.of hC5.y, fun lb nb => ?_⟩
            rw [cut_seg C.s2 ic1 ic2]
            have sb := same_upd (o := .lst ((seg C.s2 c'.2.2.1 c'.2.2.2).map V.str)) nb
            refine ⟨.list ((seg C.s1 b.2.2.1 b.2.2.2).map .str), .list ((seg C.s2 c'.2.2.1 c'.2.2.2).map .str), .lst (SqL.of (sb _ _ hla)) (strs_dp _), .lst (SqL.of upd_same) (strs_dp _), strs_shaped (seg_ok o1 _ _), strs_shaped (seg_ok o2 _ _), _, rfl, ?_⟩
            rw [show PyData.eqv (.list ((seg C.s1 b.2.2.1 b.2.2.2).map .str)) (.list ((seg C.s2 c'.2.2.1 c'.2.2.2).map .str)) = PyData.eqvAll ((seg C.s1 b.2.2.1 b.2.2.2).map .str) ((seg C.s2 c'.2.2.1 c'.2.2.2).map .str) from by simp [PyData.eqv], strs_eqv]
            by_cases c5 : seg C.s1 b.2.2.1 b.2.2.2 = seg C.s2 c'.2.2.1 c'.2.2.2
            · rw [if_pos c5] at z
              rw [decide_eq_true c5]
              exact iteT (z _ (s15.trans sb))
            · rw [if_neg c5] at z
              rw [decide_eq_false c5]
              exact iteF (z _ (s15.trans sb))
          · rw [decide_eq_false c4]
            rw [if_neg c4] at z
            exact iteF (z _ s14)
        · rw [decide_eq_false (show ¬ (k.2.length : Int) = 1 by omega)]
          exact iteF (clash s12 fun h => c3 h.2)
      · rw [decide_eq_false (show ¬ (k.1.length : Int) = 1 by omega)]
        exact iteF (clash s12 fun h => c2 h.1)
end
end K62
namespace XR
open PySem L2 KT
theorem But.tup {a u : Addr} {H H' : Hp} {xs : List V} (b : But a H H') (hp : PotAt H a) (h : H u = some (.tup xs)) : H' u = some (.tup xs) := b _ _ h fun e => by
  obtain ⟨_, _, e2, _⟩ := hp
  rw [e, e2] at h
  cases h
theorem none_but {a c : Addr} {H H' : Hp} (b : But a H H') (n : H' c = none) (ne : a ≠ c) : H c = none := by
  cases e : H c with
  | none => rfl
  | some o =>
    have := b _ _ e ne.symm
    rw [n] at this
    cases this
/-- the plan: words that come, and whether the line stays -/
abbrev PlX := List Str × Bool
def PlE (H : Hp) (u : Addr) (x : PlX) : Prop := ∃ t, H u = some (.tup [.ref t, .bl x.2]) ∧ H t = some (.tup (x.1.map .str))
theorem PlE.but {a u : Addr} {H H' : Hp} {x : PlX} (b : But a H H') (hp : PotAt H a) (h : PlE H u x) : PlE H' u x := let ⟨t, h1, h2⟩ := h; ⟨t, b.tup hp h1, b.tup hp h2⟩
theorem PlE.same {u : Addr} {H H' : Hp} {x : PlX} (s : Same H H') (h : PlE H u x) : PlE H' u x := let ⟨t, h1, h2⟩ := h; ⟨t, s _ _ h1, s _ _ h2⟩
theorem PlE.updL {H : Hp} {u p : Addr} {x : PlX} {xs ys : List V} (h : PlE H u x) (k : H p = some (.lst xs)) : PlE (upd H p (.lst ys)) u x := by
  obtain ⟨t, h1, h2⟩ := h
  exact ⟨t, by rw [upd_ne (fun c => by rw [c, k] at h1; cases h1)]; exact h1, by rw [upd_ne (fun c => by rw [c, k] at h2; cases h2)]; exact h2⟩
def PlOk (ws : List Str) (x : PlX) : Prop := x.1.length ≤ 2 ∧ ∀ s ∈ x.1, s ∈ ws
def spPlan : Sp := fun vs H Q _ => ∃ (a wa : Addr) (m : Nat) (ws : List Str), vs = [.ref a, .int (m : Int), .ref wa] ∧ PotAt H a ∧ H wa = some (.lst (ws.map .str)) ∧ a ≠ wa ∧ 0 < ws.length ∧ ws.length ≤ 20 ∧ m ≤ 7 ∧
  ∀ (l : Addr) (us : List Addr) (xs : List PlX) H', PotAt H' a → But a H H' → H l = none → H' l = some (.lst (refs us)) → LAt (PlE H') us xs → xs.length = m + 1 → (∀ x ∈ xs, PlOk ws x) → Q (.ref l) H'
def spSecond : Sp := fun vs H Q _ => ∃ (a pl wa : Addr) (us : List Addr) (xs : List PlX) (ws : List Str), vs = [.ref a, .ref pl, .ref wa] ∧ PotAt H a ∧ H wa = some (.lst (ws.map .str)) ∧ a ≠ wa ∧ 0 < ws.length ∧ ws.length ≤ 20 ∧ H pl = some (.lst (refs us)) ∧ a ≠ pl ∧ LAt (PlE H) us xs ∧ 0 < xs.length ∧ xs.length ≤ 8 ∧ (∀ x ∈ xs, PlOk ws x) ∧
  ∀ (l : Addr) (us' : List Addr) (xs' : List PlX) H', PotAt H' a → But a H H' → H l = none → H' l = some (.lst (refs us')) → LAt (PlE H') us' xs' → xs'.length = xs.length → (∀ x ∈ xs', PlOk ws x) → Q (.ref l) H'
theorem six_at {r : Int} (h0 : 0 ≤ r) (h1 : r < 6) : ∃ d : Nat, d ≤ 2 ∧ atI [V.int 0, V.int 0, V.int 0, V.int 1, V.int 1, V.int 2] r = some (.int (d : Int)) := by
  have : r = 0 ∨ r = 1 ∨ r = 2 ∨ r = 3 ∨ r = 4 ∨ r = 5 := by omega
  rcases this with rfl | rfl | rfl | rfl | rfl | rfl
  · exact ⟨0, by decide, atI_nat (j := 0) rfl⟩
  · exact ⟨0, by decide, atI_nat (j := 1) rfl⟩
  · exact ⟨0, by decide, atI_nat (j := 2) rfl⟩
  · exact ⟨1, by decide, atI_nat (j := 3) rfl⟩
  · exact ⟨1, by decide, atI_nat (j := 4) rfl⟩
  · exact ⟨2, by decide, atI_nat (j := 5) rfl⟩
end XR
namespace K62
open PySem L2 XR KT
section
variable {P : Program} {w : World} {K : PySem.W.Frag} {mg : Str → Option Value} {base : Heap}
abbrev sPlan : Stmt := top 42
abbrev nPlan : List Str := ["_law_pot_here", "_law_many", "_law_words", "_law_found", "_law_gap", "_law_fresh", "_law_turn"]
theorem scPlan : FnScope nPlan ["_law_pot_here", "_law_many", "_law_words"] (defScope sPlan) := ⟨rfl, rfl, rfl, by decide +kernel, rfl, by decide +kernel, by decide +kernel⟩
theorem ok_plan {f fD fP : Addr} {fd fdD fdP : FuncData} (F : Fun K "_law_plan" "_law_plan" sPlan f fd) (T : Blt mg) (D : Draws P w K mg base fD fP fdD fdP) : FnOk P w K mg base CX0 3 f fd ["_law_pot_here", "_law_many", "_law_words"] spPlan := by
  refine F.ok scPlan (fun vs H Q E h => ?_) (fun cdv A outer s H vs Q E hr h => ?_)
  · obtain ⟨a, wa, m, ws, rfl, _⟩ := h
    rfl
  · obtain ⟨a, wa, m, ws, rfl, hpot, hw, hne, w0, w20, m7, z⟩ := h
    have hr1 := hr.mono (show 1 ≤ 2 by decide)
    refine ⟨_, pss_cons (ps_set (i := 3) scPlan.nd rfl (.inl rfl) (pe_lst pa_nil))
      (pss_cons (ps_for PassesOwn.never rfl (pi_range1 rfl T.range (pa_cons (pe_op op_add (pv 1) pe_int) pa_nil)) (pg_name (i := 4) scPlan.nd rfl (.inl rfl))
        (pss_cons (ps_setLc (i := 5) (own := [("_law_turn", 6)]) (g := gName 6) (tt := tYes) (te := tCall spPick [] E0 (tCons (tVar 0) (tCons (tVar 2) tNil))) rfl scPlan.nd rfl rfl (sw_true rfl rfl rfl (by decide +kernel))
            (pi_range1 rfl T.range (pa_cons (pe_ix ix_list (pe_lst (pa_cons pe_int (pa_cons pe_int (pa_cons pe_int (pa_cons pe_int (pa_cons pe_int (pa_cons pe_int pa_nil))))))) (pe_call D.GD hr1 rfl D.mD D.FD.kp D.bD .nil pass0 (pa_cons (pv 0) (pa_cons pe_int pa_nil))) (fun _ _ => rfl)) pa_nil))
            (blkOk_by (own := [("_law_turn", 6)]) (N := nPlan) (sc := defScope sPlan) (by decide +kernel)) (fun _ _ _ _ _ => pg_name (i := 6) scPlan.nd rfl (.inl rfl)) (fun _ _ _ _ _ => pts_nil)
            (fun _ _ _ _ _ => pe_call D.GP hr rfl D.mP D.FP.kp D.bP .nil pass0 (pa_cons (pv 0) (pa_cons (pv 2) pa_nil))))
        (pss_one (ps_expr (pe_bm PySem.F.plainAttrs_list PySem.F.slot_list_append PySem.F.type_list_append mt_append (pv 3) (pa_cons (pe_tup (pa_cons (pe_callTy call_tuple_of (by rfl) (T.all "tuple" (by decide)) (by decide +kernel) (pa_cons (pv 5) pa_nil))
            (pa_cons (pe_cmpR op_gt (pe_call D.GD hr1 rfl D.mD D.FD.kp D.bD .nil pass0 (pa_cons (pv 0) (pa_cons pe_int pa_nil))) pe_int (nomark _)) pa_nil))) pa_nil))))))
      (pss_one (ps_ret (pv 3)))), ?_⟩
    refine ⟨ll20 (by decide), fun f0 nf => ⟨_, rfl, _, _, rfl, rfl, ?_⟩⟩
    have sf := same_upd (o := .lst []) nf
    have hf0 := upd_same (H := H) (a := f0) (o := .lst [])
    have hpf := hpot.same sf
    have haf := hpot.ne nf
    have hw0 := sf _ _ hw
    have wf : wa ≠ f0 := ne_of_none hw nf
    have b0 : But a H (upd H f0 (.lst [])) := (But.refl a H).new nf
    generalize upd H f0 (.lst []) = H0 at hf0 hpf hw0 b0 ⊢
    refine ⟨_, rfl, by omega, by omega, ?_⟩
    refine for_range (n := m + 1) (fun i σ H' => PotAt H' a ∧ But a H H' ∧ H' wa = some (.lst (ws.map .str)) ∧ ∃ (us : List Addr) (xs : List PlX) (y4 y5 y6 : Option V), σ = [some (V.ref a), some (V.int (m : Int)), some (V.ref wa), some (V.ref f0), y4, y5, y6] ∧ H' f0 = some (.lst (refs us)) ∧ LAt (PlE H') us xs ∧ xs.length = i ∧ ∀ x ∈ xs, PlOk ws x)
      ⟨hpf, b0, hw0, [], [], _, _, _, rfl, hf0, .nil, rfl, fun x hx => by cases hx⟩ ?_ ?_
    · rintro i σ Ha hi ⟨hpa, ba, hwa, us, xs, y4, y5, y6, rfl, hfa, hus, hxl, hok⟩
      refine ⟨ll20 (by show 6 ≤ 20; decide), fun q nq => ⟨_, rfl, a, 6, rfl, hpa.same (same_upd nq), by decide, by decide, fun r H2 r0 r1 hp2 b2 => ?_⟩⟩
      have sq := same_upd (o := .lst [V.int 0, V.int 0, V.int 0, V.int 1, V.int 1, V.int 2]) nq
      have hq := b2 _ _ (upd_same (H := Ha) (a := q) (o := .lst [V.int 0, V.int 0, V.int 0, V.int 1, V.int 1, V.int 2])) (hpa.ne nq).symm
      have hw2 := b2 _ _ (sq _ _ hwa) hne.symm
      have hf2 := b2 _ _ (sq _ _ hfa) haf.symm
      have hu2 := (hus.mono (S := PlE (upd Ha q (.lst [V.int 0, V.int 0, V.int 0, V.int 1, V.int 1, V.int 2]))) fun _ _ _ _ k => k.same sq).mono (S := PlE H2) fun _ _ _ _ k => k.but b2 (hpa.same sq)
      have ba2 : But a H H2 := (ba.same sq).trans b2
      clear sq b2 nq
      obtain ⟨d, d2, hd⟩ := six_at r0 r1
      refine ⟨q, _, _, _, rfl, rfl, SqL.of hq, hd, ?_⟩
      refine ⟨_, rfl, by omega, by omega, fun c nc => ?_⟩
      rw [Int.toNat_natCast]
      have hac := hp2.ne nc
      refine lc_range (n := d) (fun j H' => PotAt H' a ∧ But a H2 H' ∧ ∃ ss : List Str, H' c = some (.lst (ss.map V.str)) ∧ (∀ s ∈ ss, s ∈ ws) ∧ ss.length = j) ⟨hp2.upd hac, (But.refl a H2).new nc, [], upd_same, (fun s h => by cases h), rfl⟩ ?_ ?_
      · rintro j H' hj ⟨hp', b', ss, hc, hss, hl⟩
        refine ⟨rfl, ?_⟩
        unfold tYes
        dsimp only
        rw [if_pos rfl]
        have hw' := b' _ _ hw2 hne.symm
        refine ⟨_, rfl, _, rfl, a, wa, ws.map V.str, rfl, hp', hw', hne, by rw [List.length_map]; exact w0, by rw [List.length_map]; omega, fun x H3 hx hp3 b3 => ?_⟩
        obtain ⟨s, hs, rfl⟩ := List.mem_map.mp hx
        have hc3 := b3 _ _ hc hac.symm
        refine ⟨_, hc3, ?_, hp3.upd hac, ?_, ss ++ [s], ?_, ?_, ?_⟩
        · rw [List.length_map, hl]
          exact Nat.lt_of_lt_of_le hj (Nat.le_trans d2 (by decide))
        · intro b o hb hn
          have hb' := b3 _ _ (b' _ _ hb hn) hn
          rw [upd_ne (ne_of_none hb nc)]
          exact hb'
        · rw [upd_same, List.map_append]; rfl
        · intro y hy
          rcases List.mem_append.mp hy with hy | hy
          · exact hss y hy
          · rw [List.mem_singleton.mp hy]; exact hs
        · rw [List.length_append, hl]; rfl
      rintro H3 ⟨hp3, b3, ss, hc3, hss, hl⟩
      have hf3 := b3 _ _ hf2 haf.symm
      have hw3 := b3 _ _ hw2 hne.symm
      have hu3 := hu2.mono (S := PlE H3) fun _ _ _ _ k => k.but b3 hp2
      have ba3 := ba2.trans b3
      refine ⟨_, rfl, .inl ⟨rfl, _, SqL.of hf3⟩, _, rfl, c, _, rfl, .inl ⟨SqL.of hc3, fun t nt => ?_⟩⟩
      have st := same_upd (o := .tup (ss.map V.str)) nt
      have ht := upd_same (H := H3) (a := t) (o := .tup (ss.map V.str))
      have hpt := hp3.same st
      have hf4 := st _ _ hf3
      have hw4 := st _ _ hw3
      have hu4 := hu3.mono (S := PlE (upd H3 t (.tup (ss.map V.str)))) fun _ _ _ _ k => k.same st
      have ba4 := ba3.same st
      generalize upd H3 t (.tup (ss.map V.str)) = H4 at ht hpt hf4 hw4 hu4 ba4 ⊢
      refine ⟨_, rfl, a, 3, rfl, hpt, by decide, by decide, fun r2 H5 r20 r21 hp5 b5 => ?_⟩
      have ht5 := b5.tup hpt ht
      have hf5 := b5 _ _ hf4 haf.symm
      have hw5 := b5 _ _ hw4 hne.symm
      have hu5 := hu4.mono (S := PlE H5) fun _ _ _ _ k => k.but b5 hpt
      have ba5 := ba4.trans b5
      refine ⟨_, _, rfl, rfl, ll20 (by show 2 ≤ 20; decide), fun u nu => ?_⟩
      have su := same_upd (o := .tup [V.ref t, V.bl (decide (r2 > 0))]) nu
      have hu := upd_same (H := H5) (a := u) (o := .tup [V.ref t, V.bl (decide (r2 > 0))])
      have hpu := hp5.same su
      have ht6 := su _ _ ht5
      have hf6 := su _ _ hf5
      have hw6 := su _ _ hw5
      have hu6 := hu5.mono (S := PlE (upd H5 u (.tup [V.ref t, V.bl (decide (r2 > 0))]))) fun _ _ _ _ k => k.same su
      have ba6 := ba5.same su
      generalize upd H5 u (.tup [V.ref t, V.bl (decide (r2 > 0))]) = H6 at hu hpu ht6 hf6 hw6 hu6 ba6 ⊢
      refine ⟨f0, _, _, rfl, rfl, hf6, ?_, ?_⟩
      · rw [hus.len, hxl]
        exact Nat.lt_of_lt_of_le hi (Nat.le_trans (show m + 1 ≤ 8 by omega) (by decide))
      have new : PlE H6 u (ss, decide (r2 > 0)) := ⟨t, hu, ht6⟩
      refine ⟨hpu.upd haf, fun b o hb hn => ?_, ?_, us ++ [u], xs ++ [(ss, decide (r2 > 0))], _, _, _, rfl, ?_, ?_, ?_, ?_⟩
      · rw [upd_ne (ne_of_none hb nf)]
        exact ba6 _ _ hb hn
      · rw [upd_ne wf]
        exact hw6
      · rw [upd_same, refs_snoc]
      · exact (hu6.mono fun _ _ _ _ k => k.updL hf6).append (.one (new.updL hf6))
      · rw [List.length_append, hxl]; rfl
      · intro x hx
        rcases List.mem_append.mp hx with h | h
        · exact hok x h
        · rw [List.mem_singleton.mp h]
          exact ⟨by show ss.length ≤ 2; omega, hss⟩
    · rintro σ Ha ⟨hpa, ba, hwa, us, xs, y4, y5, y6, rfl, hfa, hus, hxl, hok⟩
      exact ⟨_, rfl, z f0 us xs Ha hpa ba nf hfa hus hxl hok⟩
end
end K62
namespace K62
open PySem L2 XR KT
section
variable {P : Program} {w : World} {K : PySem.W.Frag} {mg : Str → Option Value} {base : Heap}
abbrev sSecond : Stmt := top 43
abbrev nSecond : List Str := ["_law_pot_here", "_law_plan_here", "_law_words", "_law_fresh", "_law_gap"]
theorem scSecond : FnScope nSecond ["_law_pot_here", "_law_plan_here", "_law_words"] (defScope sSecond) := ⟨rfl, rfl, rfl, by decide +kernel, rfl, by decide +kernel, by decide +kernel⟩
theorem ok_second {f fD fP fL : Addr} {fd fdD fdP fdL : FuncData} (F : Fun K "_law_second" "_law_second" sSecond f fd) (T : Blt mg) (D : Draws P w K mg base fD fP fdD fdP)
    (FL : Fun K "_law_plan" "_law_plan" sPlan fL fdL) (GL : FnOk P w K mg base CX0 3 fL fdL ["_law_pot_here", "_law_many", "_law_words"] spPlan) (bL : Binds K fdL ["_law_pot_here", "_law_many", "_law_words"] []) (mL : mg "_law_plan" = some (.ref fL)) : FnOk P w K mg base CX0 4 f fd ["_law_pot_here", "_law_plan_here", "_law_words"] spSecond := by
  refine F.ok scSecond (fun vs H Q E h => ?_) (fun cdv A outer s H vs Q E hr h => ?_)
  · obtain ⟨a, pl, wa, us, xs, ws, rfl, _⟩ := h
    rfl
  · obtain ⟨a, pl, wa, us, xs, ws, rfl, hpot, hw, hne, w0, w20, hpl, hnp, hus, x0, x8, hok, z⟩ := h
    have hr2 := hr.mono (show 2 ≤ 3 by decide)
    refine ⟨_, pss_cons (ps_set (i := 3) scSecond.nd rfl (.inr rfl) (pe_call GL hr rfl mL FL.kp bL .nil pass0 (pa_cons (pv 0) (pa_cons (pe_op op_sub (pe_callB call_len_seq (by rfl) T.len PySem.boot_len (pa_cons (pv 1) pa_nil)) pe_int) (pa_cons (pv 2) pa_nil)))))
      (pss_one (ps_ret (pe_lc (own := [("_law_gap", 4)]) (g := gName 4) (tt := tYes) (te := tCall spPick [] E0 (tCons (tVar 0) (tCons (tLst (tCons (tOp (rIxL K) (tVar 1) (tVar 4)) (tCons (tTup (tCons (tTup tNil) (tCons (tC (.bl true)) tNil))) (tCons (tOp (rIxL K) (tVar 3) (tVar 4)) tNil)))) tNil))) rfl scSecond.nd
          (pi_range1 rfl T.range (pa_cons (pe_callB call_len_seq (by rfl) T.len PySem.boot_len (pa_cons (pv 1) pa_nil)) pa_nil))
          (blkOk_by (own := [("_law_gap", 4)]) (N := nSecond) (sc := defScope sSecond) (by decide +kernel)) (fun _ _ _ _ _ => pg_name (i := 4) scSecond.nd rfl (.inl rfl)) (fun _ _ _ _ _ => pts_nil)
          (fun _ _ _ _ _ => pe_call D.GP hr2 rfl D.mP D.FP.kp D.bP .nil pass0 (pa_cons (pv 0) (pa_cons (pe_lst (pa_cons (pe_ix ix_list (pv 1) (pv 4) (fun _ _ => rfl)) (pa_cons (pe_tup (pa_cons (pe_tup pa_nil) (pa_cons pe_bl pa_nil))) (pa_cons (pe_ix ix_list (pv 3) (pv 4) (fun _ _ => rfl)) pa_nil)))) pa_nil)))))), ?_⟩
    have e1 : (refs us).length = xs.length := hus.len
    refine ⟨_, rfl, _, rfl, pl, _, rfl, .inl (SqL.of hpl), _, _, rfl, rfl, _, rfl, a, wa, xs.length - 1, ws, ?_, hpot, hw, hne, w0, w20, by omega, fun l vs ys H1 hp1 b1 nl hl hvs hyl hyok => ?_⟩
    · show [V.ref a, V.int (((refs us).length : Int) - 1), V.ref wa] = _
      rw [e1]
      congr 3
      omega
    have hw1 := b1 _ _ hw hne.symm
    have hpl1 := b1 _ _ hpl hnp.symm
    have hu1 := hus.mono (S := PlE H1) fun _ _ _ _ k => k.but b1 hpot
    have anl := hpot.ne nl
    refine ⟨_, rfl, pl, _, rfl, .inl (SqL.of hpl1), ?_⟩
    refine ⟨_, rfl, by omega, by rw [e1]; omega, fun c nc => ?_⟩
    rw [Int.toNat_natCast, e1]
    have hac := hp1.ne nc
    refine lc_range (n := xs.length) (fun j H' => PotAt H' a ∧ But a H1 H' ∧ ∃ (us' : List Addr) (xs' : List PlX), H' c = some (.lst (refs us')) ∧ LAt (PlE H') us' xs' ∧ xs'.length = j ∧ ∀ x ∈ xs', PlOk ws x) ⟨hp1.upd hac, (But.refl a H1).new nc, [], [], upd_same, .nil, rfl, fun x hx => by cases hx⟩ ?_ ?_
    · rintro j H' hj ⟨hp', b', us', xs', hc, hus', hl', hok'⟩
      refine ⟨rfl, ?_⟩
      unfold tYes
      dsimp only
      rw [if_pos rfl]
      have hpl' := b' _ _ hpl1 hnp.symm
      have hl2 := b' _ _ hl anl.symm
      have hu' := hu1.mono (S := PlE H') fun _ _ _ _ k => k.but b' hp1
      have hv' := hvs.mono (S := PlE H') fun _ _ _ _ k => k.but b' hp1
      obtain ⟨u, hu, hux⟩ := hu'.2 j _ (List.getElem?_eq_getElem hj)
      have hj2 : j < ys.length := by omega
      obtain ⟨v, hv, hvx⟩ := hv'.2 j _ (List.getElem?_eq_getElem hj2)
      have at1 : atI (refs us) (0 + (j : Int)) = some (.ref u) := by rw [Int.zero_add]; exact atI_nat (j := j) (by unfold refs; rw [List.getElem?_map, hu]; rfl)
      have at2 : atI (refs vs) (0 + (j : Int)) = some (.ref v) := by rw [Int.zero_add]; exact atI_nat (j := j) (by unfold refs; rw [List.getElem?_map, hv]; rfl)
      refine ⟨_, rfl, _, rfl, _, rfl, pl, _, _, _, rfl, rfl, SqL.of hpl', at1, ll20 (by show 0 ≤ 20; decide), fun e0 ne0 => ⟨ll20 (by show 2 ≤ 20; decide), fun e1 ne1 => ?_⟩⟩
      have s0 := same_upd (o := .tup []) ne0
      have he0 := upd_same (H := H') (a := e0) (o := .tup [])
      generalize upd H' e0 (.tup []) = G0 at s0 he0 ne1 ⊢
      have s1 := same_upd (o := .tup [V.ref e0, V.bl true]) ne1
      have he1 := upd_same (H := G0) (a := e1) (o := .tup [V.ref e0, V.bl true])
      have he01 := s1 _ _ he0
      have s2 := s0.trans s1
      generalize upd G0 e1 (.tup [V.ref e0, V.bl true]) = G1 at s1 he1 he01 s2 ⊢
      refine ⟨_, rfl, _, rfl, l, _, _, _, rfl, rfl, SqL.of (s2 _ _ hl2), at2, ll20 (by show 3 ≤ 20; decide), fun q nq => ?_⟩
      have sq := same_upd (o := .lst [V.ref u, V.ref e1, V.ref v]) nq
      have s3 := s2.trans sq
      refine ⟨a, q, [V.ref u, V.ref e1, V.ref v], rfl, hp'.same s3, upd_same, (hp'.same s2).ne nq, by show 0 < 3; decide, by show 3 ≤ 1000; decide, fun x H3 hx hp3 b3 => ?_⟩
      obtain ⟨g, y, rfl, hg, hy⟩ : ∃ (g : Addr) (y : PlX), x = .ref g ∧ PlE (upd G1 q (.lst [V.ref u, V.ref e1, V.ref v])) g y ∧ PlOk ws y := by
        simp only [List.mem_cons, List.not_mem_nil, or_false] at hx
        rcases hx with rfl | rfl | rfl
        · exact ⟨u, _, rfl, hux.same s3, hok _ (List.getElem_mem hj)⟩
        · exact ⟨e1, ([], true), rfl, ⟨e0, sq _ _ he1, sq _ _ he01⟩, by show 0 ≤ 2; decide, fun s hs => by cases hs⟩
        · exact ⟨v, _, rfl, hvx.same s3, hyok _ (List.getElem_mem hj2)⟩
      have hg3 := hg.but b3 (hp'.same s3)
      have hc3 := b3 _ _ (s3 _ _ hc) hac.symm
      refine ⟨_, hc3, ?_, hp3.upd hac, ?_, us' ++ [g], xs' ++ [y], ?_, ?_, ?_, ?_⟩
      · rw [hus'.len, hl']
        exact Nat.lt_of_lt_of_le hj (Nat.le_trans x8 (by decide))
      · intro b o hb hn
        rw [upd_ne (ne_of_none hb nc)]
        exact b3 _ _ (s3 _ _ (b' _ _ hb hn)) hn
      · rw [upd_same, refs_snoc]
      · exact ((hus'.mono (S := PlE H3) fun _ _ _ _ k => (k.same s3).but b3 (hp'.same s3)).mono fun _ _ _ _ k => k.updL hc3).append (.one (hg3.updL hc3))
      · rw [List.length_append, hl']; rfl
      · intro x hx
        rcases List.mem_append.mp hx with h | h
        · exact hok' x h
        · rw [List.mem_singleton.mp h]; exact hy
    rintro H2 ⟨hp2, b2, us', xs', hc, hus', hl', hok'⟩
    exact z c us' xs' H2 hp2 (b1.trans b2) (none_but b1 nc hac) hc hus' hl' hok'
end
end K62
/-! list == []; xs.extend(t) of a tuple. -/
namespace PySem.AutoSeq1
theorem list_extend_tupleO (l : Addr) (items : Array Value) (n : Nat) (b : Addr) (items2 : Array Value) (n2 : Nat) (dd : Option Addr) (sl : Array (Option Value)) (hs0 : ¬(!items.isEmpty && Builtin.List.listTooLong (items.size + items2.size)) = true) (hs1 : items.size ≤ sizeLine) (hs2 : items.size + items2.size ≤ sizeLine + 1) :
    Meets (Builtin.«list.extend» ⟨[.ref l, .ref b], []⟩) (fun _ R s => s.heap.get? l = some { cls := .type "list", dict := none, data := .seq items n, slots := #[] } ∧ s.heap.get? b = some { cls := .type "tuple", dict := dd, data := .seq items2 n2, slots := sl } ∧ R (.ok (.ret Value.none)) { s with heap := s.heap.update l (Obj.mapSeq fun x => x ++ items2), toks := s.toks }) :=
  .of_wp fun prog w A R s h => by
    obtain ⟨hp, g, d, tk, os⟩ := s; obtain ⟨hl, hb, h⟩ := h; have f1 := idx_int; have f2 := sub_tuple_tuple; have f3 := sub_list_list; have f4 := sub_tuple_list; have f5 := sub_list_tuple;
    have hz' : (items ++ items2).size ≤ sizeLine + 1 := by rw [Array.size_append]; exact hs2
    wp_walk using (wpAny_updateSeq hl rfl (hz := hs1) (_hz' := hz')), wpAny_loadPart' hl, wpAny_loadPart' hb; exact ⟨_, rfl, h⟩
end PySem.AutoSeq1
namespace XR
open PyProof.Rows hiding St
open PySem L2 PySem.Spec
section
variable {X : Cx}
def rExtendT (K : PySem.W.Frag) : V → List V → Hp → VK → Prop := fun x vs H Q => ∃ l b xs zs, x = .ref l ∧ vs = [.ref b] ∧ H l = some (.lst xs) ∧ SqT K H b zs ∧ xs.length + zs.length ≤ sizeLine ∧ Q .non (upd H l (.lst (xs ++ zs)))
theorem notLong2 {a b : Nat} (h : a + b ≤ sizeLine) : Builtin.List.listTooLong (a + b) = false := by
  unfold Builtin.List.listTooLong
  exact decide_eq_false (by have := h; unfold sizeLine at this; omega)
theorem mt_extendT : MtM X "list.extend" (rExtendT X.K) := by
  intro pins s σ H x vs v us Q I rx rv h
  obtain ⟨l, b, xs, zs, rfl, rfl, hH, hB, hz, q⟩ := h
  cases rx
  obtain ⟨u, rfl, ru⟩ := rv.one
  cases ru
  obtain ⟨z, its, n, r, hl, e⟩ := I.lstM hH
  obtain ⟨its2, r2, ⟨⟨cls, dd, data, sl⟩, e2, hc2, n2, hd2⟩, hl2⟩ := I.tuple hB
  simp only at hc2 hd2
  subst hc2 hd2
  have l1 := r.length
  have l2 := r2.length
  have hsz : its.toArray.size + its2.toArray.size ≤ sizeLine := by rw [List.size_toArray, List.size_toArray]; omega
  have hlong : ¬ (!its.toArray.isEmpty && Builtin.List.listTooLong (its.toArray.size + its2.toArray.size)) = true := by
    rw [notLongL hsz, Bool.and_false]
    exact Bool.false_ne_true
  refine call_meets F.slot_list_extend ⟨_, e, rfl⟩ F.entry_list_extend (F.args_list_extend_2 _ _)
    (AutoSeq1.list_extend_tupleO l its.toArray n b its2.toArray n2 dd sl hlong (by rw [List.size_toArray]; omega) (by omega)) ⟨e, e2, ?_⟩
  refine ⟨.non, _, I.lset (its' := its ++ its2) hH e (by simp) (r.append r2) ?_, rfl, q⟩
  rw [List.length_append]
  omega
end
end XR
namespace XR
open PySem L2 KT
theorem IsDf.ext {a b : List Str} (c : List Str) {ps : List (Nat × Nat)} (h : IsDf a b ps) : IsDf a (b ++ c) ps := by
  refine ⟨fun q hq => ?_, h.2⟩
  obtain ⟨a1, a2, b1, b2, s, e1, e2⟩ := h.1 q hq
  refine ⟨a1, a2, b1, by rw [List.length_append]; omega, s, e1, ?_⟩
  rw [List.getElem?_append_left (by omega)]
  exact e2
theorem IsDf.le2 {a b : List Str} {ps : List (Nat × Nat)} (h : IsDf a b ps) : ∀ q ∈ ps, q.2 ≤ b.length := fun q hq => by
  obtain ⟨a1, a2, b1, b2, s, e1, e2⟩ := h.1 q hq
  exact b2
/-- a text and its diff, by a plan -/
def spEdited : Sp := fun vs H Q _ => ∃ (ra pl : Addr) (us : List Addr) (xs : List PlX) (rt ws : List Str), vs = [.ref ra, .ref pl] ∧ H ra = some (.lst (rt.map .str)) ∧ H pl = some (.lst (refs us)) ∧ LAt (PlE H) us xs ∧ xs.length = rt.length + 1 ∧ rt.length ≤ 7 ∧ (∀ s ∈ rt, s ∈ ws) ∧ (∀ x ∈ xs, PlOk ws x) ∧
  ∀ (t l d : Addr) (ss : List Str) (ps : List (Nat × Nat)) H', Same H H' → H' t = some (.tup [.ref l, .ref d]) → H' l = some (.lst (ss.map .str)) → DfAt H' d ps → IsDf rt ss ps → ss.length ≤ 24 → ps.length ≤ 7 → (∀ s ∈ ss, s ∈ ws) → H l = none → H d = none → Q (.ref t) H'
end XR
namespace K62
open PySem L2 XR KT
section
variable {P : Program} {w : World} {K : PySem.W.Frag} {mg : Str → Option Value} {base : Heap}
abbrev sEdited : Stmt := top 44
abbrev nEdited : List Str := ["_law_root", "_law_plan_here", "_law_made", "_law_pairs", "_law_gap"]
theorem scEdited : FnScope nEdited ["_law_root", "_law_plan_here"] (defScope sEdited) := ⟨rfl, rfl, rfl, by decide +kernel, rfl, by decide +kernel, by decide +kernel⟩
theorem ok_edited {f : Addr} {fd : FuncData} (F : Fun K "_law_edited" "_law_edited" sEdited f fd) (T : Blt mg) : FnOk P w K mg base CX0 1 f fd ["_law_root", "_law_plan_here"] spEdited := by
  refine F.ok scEdited (fun vs H Q E h => ?_) (fun cdv A outer s H vs Q E hr h => ?_)
  · obtain ⟨ra, pl, us, xs, rt, ws, rfl, _⟩ := h
    rfl
  · obtain ⟨ra, pl, us, xs, rt, ws, rfl, hra, hpl, hus, hxl, r7, hrt, hok, z⟩ := h
    refine ⟨_, pss_cons (ps_par (i := 2) (j := 3) rfl scEdited.nd rfl rfl (by decide) rfl rfl (pa_cons (pe_lst pa_nil) (pa_cons (pe_lst pa_nil) pa_nil)) rfl)
      (pss_cons (ps_for PassesOwn.never rfl (pi_range1 rfl T.range (pa_cons (pe_callB call_len_seq (by rfl) T.len PySem.boot_len (pa_cons (pv 1) pa_nil)) pa_nil)) (pg_name (i := 4) scEdited.nd rfl (.inl rfl))
        (pss_cons (ps_expr (pe_bm PySem.F.plainAttrs_list PySem.F.slot_list_extend PySem.F.type_list_extend mt_extendT (pv 2) (pa_cons (pe_ix ix_tup (pe_ix ix_list (pv 1) (pv 4) (fun _ _ => rfl)) pe_int (fun _ _ => rfl)) pa_nil)))
        (pss_one (ps_if (PW.pt (pw_and (pt_cmpR op_lt (pv 4) (pe_callB call_len_seq (by rfl) T.len PySem.boot_len (pa_cons (pv 0) pa_nil)) (nomark _)) (pw_and1 (pt_val (pe_ix ix_tup (pe_ix ix_list (pv 1) (pv 4) (fun _ _ => rfl)) pe_int (fun _ _ => rfl))))))
          (pss_cons (ps_expr (pe_bm PySem.F.plainAttrs_list PySem.F.slot_list_append PySem.F.type_list_append mt_append (pv 2) (pa_cons (pe_ix ix_list (pv 0) (pv 4) (fun _ _ => rfl)) pa_nil)))
          (pss_one (ps_expr (pe_bm PySem.F.plainAttrs_list PySem.F.slot_list_append PySem.F.type_list_append mt_append (pv 3) (pa_cons (pe_tup (pa_cons (pe_op op_add (pv 4) pe_int) (pa_cons (pe_callB call_len_seq (by rfl) T.len PySem.boot_len (pa_cons (pv 2) pa_nil)) pa_nil))) pa_nil))))) pss_nil))))
      (pss_one (ps_ret (pe_tup (pa_cons (pv 2) (pa_cons (pe_callTy call_tuple_of (by rfl) (T.all "tuple" (by decide)) (by decide +kernel) (pa_cons (pv 3) pa_nil)) pa_nil)))))), ?_⟩
    refine ⟨ll20 (by decide), fun f0 nf0 => ⟨ll20 (by decide), fun f1 nf1 => ⟨_, _, rfl, ?_⟩⟩⟩
    have s0 := same_upd (o := .lst []) nf0
    have hf0 := upd_same (H := H) (a := f0) (o := .lst [])
    generalize upd H f0 (.lst []) = H0 at s0 hf0 nf1 ⊢
    have s1 := same_upd (o := .lst []) nf1
    have hf1 := upd_same (H := H0) (a := f1) (o := .lst [])
    have hf01 := s1 _ _ hf0
    have f01 : f0 ≠ f1 := ne_of_none hf0 nf1
    have s01 := s0.trans s1
    have nf1' : H f1 = none := none_before s0 nf1
    generalize upd H0 f1 (.lst []) = H1 at s01 hf1 hf01 ⊢
    have e1 : (refs us).length = xs.length := hus.len
    refine ⟨_, rfl, pl, _, rfl, .inl (SqL.of (s01 _ _ hpl)), ?_⟩
    refine ⟨_, rfl, by omega, by rw [e1]; omega, ?_⟩
    rw [Int.toNat_natCast, e1]
    refine for_range (n := xs.length) (fun i σ H' => Same H H' ∧ ∃ (ss : List Str) (rs : List Addr) (ps : List (Nat × Nat)) (y4 : Option V), σ = [some (V.ref ra), some (V.ref pl), some (V.ref f0), some (V.ref f1), y4] ∧ H' f0 = some (.lst (ss.map .str)) ∧ H' f1 = some (.lst (refs rs)) ∧ PsAt H' rs ps ∧ IsDf rt ss ps ∧ (∀ q ∈ ps, q.1 ≤ i) ∧ ss.length ≤ 3 * i ∧ ps.length ≤ i ∧ ps.length ≤ rt.length ∧ ∀ s ∈ ss, s ∈ ws)
      ⟨s01, [], [], [], _, rfl, hf01, hf1, ⟨rfl, fun i q h => by simp at h⟩, IsDf.nil, (fun q h => by cases h), Nat.zero_le _, Nat.zero_le _, Nat.zero_le _, fun s h => by cases h⟩ ?_ ?_
    · rintro i σ Ha hi ⟨sa, ss, rs, ps, y4, rfl, ha0, ha1, hps, hdf, hq, hl, hpl2, hpl3, hws⟩
      obtain ⟨u, hu, t, hut, htt⟩ := hus.2 i _ (List.getElem?_eq_getElem hi)
      have at1 : atI (refs us) (0 + (i : Int)) = some (.ref u) := by rw [Int.zero_add]; exact atI_nat (j := i) (by unfold refs; rw [List.getElem?_map, hu]; rfl)
      have ok := hok _ (List.getElem_mem hi)
      generalize xs[i] = x at hut htt ok
      obtain ⟨fr, kp⟩ := x
      dsimp only at hut htt ok
      have ra0 : ra ≠ f0 := ne_of_none hra nf0
      have pl0 : pl ≠ f0 := ne_of_none hpl nf0
      have l2 : fr.length ≤ 2 := ok.1
      refine ⟨_, rfl, .inl ⟨rfl, _, SqL.of ha0⟩, _, rfl, _, rfl, pl, _, _, _, rfl, rfl, SqL.of (sa _ _ hpl), at1, u, _, _, _, rfl, rfl, SqT.of (sa _ _ hut), atI_nat (j := 0) rfl, f0, t, _, _, rfl, rfl, ha0, SqT.of (sa _ _ htt), ?_, ?_⟩
      · rw [List.length_map, List.length_map]
        exact Nat.le_trans (show ss.length + fr.length ≤ 100 by omega) (by decide)
      rw [← List.map_append]
      have sb : Same H (upd Ha f0 (.lst ((ss ++ fr).map V.str))) := fun b o h => by
        rw [upd_ne (ne_of_none h nf0)]
        exact sa _ _ h
      have hb0 := upd_same (H := Ha) (a := f0) (o := .lst ((ss ++ fr).map V.str))
      have hb1 : upd Ha f0 (.lst ((ss ++ fr).map V.str)) f1 = some (.lst (refs rs)) := by rw [upd_ne f01.symm]; exact ha1
      have hpsb := hps.updL (ys := (ss ++ fr).map V.str) ha0
      have hdfb := hdf.ext fr
      have hwsb : ∀ s ∈ ss ++ fr, s ∈ ws := fun s hs => by
        rcases List.mem_append.mp hs with h | h
        · exact hws s h
        · exact ok.2 s h
      have lb : (ss ++ fr).length ≤ 3 * i + 2 := by rw [List.length_append]; omega
      generalize upd Ha f0 (.lst ((ss ++ fr).map V.str)) = Hb at sb hb0 hb1 hpsb ⊢
      generalize ss ++ fr = ss' at hb0 hdfb hwsb lb ⊢
      clear ha0 ha1 hps hdf hws hl
      have stay : ∀ {Q' : Prop}, (Same H Hb → Q') → Q' := fun k => k sb
      refine ⟨_, rfl, _, rfl, ra, _, rfl, .inl (SqL.of (sb _ _ hra)), _, _, rfl, rfl, _, rfl, ?_⟩
      rw [List.length_map]
      by_cases c : i < rt.length
      · rw [decide_eq_true (show (0 : Int) + (i : Int) < (rt.length : Int) by omega)]
        refine iteT ⟨_, rfl, _, rfl, pl, _, _, _, rfl, rfl, SqL.of (sb _ _ hpl), at1, u, _, _, _, rfl, rfl, SqT.of (sb _ _ hut), atI_nat (j := 1) rfl, _, rfl, ?_⟩
        cases kp with
        | false => exact iteF ⟨sb, ss', rs, ps, _, rfl, hb0, hb1, hpsb, hdfb, fun q h => Nat.le_succ_of_le (hq q h), by omega, by omega, hpl3, hwsb⟩
        | true =>
          obtain ⟨s, hs⟩ : ∃ s, rt[i]? = some s := ⟨_, List.getElem?_eq_getElem c⟩
          have at2 : atI (rt.map V.str) (0 + (i : Int)) = some (.str s) := by rw [Int.zero_add]; exact atI_nat (j := i) (by rw [List.getElem?_map, hs]; rfl)
          refine iteT ⟨_, rfl, .inl ⟨rfl, _, SqL.of hb0⟩, _, rfl, _, rfl, ra, _, _, _, rfl, rfl, SqL.of (sb _ _ hra), at2, f0, _, _, rfl, rfl, hb0, ?_, ?_⟩
          · rw [List.length_map]
            exact Nat.lt_of_le_of_lt (show ss'.length ≤ 100 by omega) (by decide)
          have em : ss'.map V.str ++ [V.str s] = (ss' ++ [s]).map V.str := by rw [List.map_append]; rfl
          rw [em]
          have sc : Same H (upd Hb f0 (.lst ((ss' ++ [s]).map V.str))) := fun b o h => by
            rw [upd_ne (ne_of_none h nf0)]
            exact sb _ _ h
          have hc0 := upd_same (H := Hb) (a := f0) (o := .lst ((ss' ++ [s]).map V.str))
          have hc1 : upd Hb f0 (.lst ((ss' ++ [s]).map V.str)) f1 = some (.lst (refs rs)) := by rw [upd_ne f01.symm]; exact hb1
          have hpsc := hpsb.updL (ys := (ss' ++ [s]).map V.str) hb0
          have hdfc : IsDf rt (ss' ++ [s]) (ps ++ [(i + 1, (ss' ++ [s]).length)]) := (hdfb.ext [s]).snoc hs (by rw [List.length_append]; show 1 ≤ ss'.length + 1; omega) (by
            rw [List.length_append]
            show (ss' ++ [s])[ss'.length + 1 - 1]? = some s
            rw [Nat.add_sub_cancel, List.getElem?_append_right (Nat.le_refl _), Nat.sub_self]
            rfl) fun q h => ⟨Nat.lt_succ_of_le (hq q h), by
              have := hdfb.le2 q h
              rw [List.length_append]
              show q.2 < ss'.length + 1
              omega⟩
          have hwsc : ∀ s' ∈ ss' ++ [s], s' ∈ ws := fun s' h => by
            rcases List.mem_append.mp h with h | h
            · exact hwsb s' h
            · rw [List.mem_singleton.mp h]; exact hrt s (List.mem_of_getElem? hs)
          have lc : (ss' ++ [s]).length ≤ 3 * (i + 1) := by rw [List.length_append]; show ss'.length + 1 ≤ _; omega
          generalize upd Hb f0 (.lst ((ss' ++ [s]).map V.str)) = Hc at sc hc0 hc1 hpsc ⊢
          generalize ss' ++ [s] = ss3 at hc0 hdfc hwsc lc ⊢
          refine ⟨_, rfl, .inl ⟨rfl, _, SqL.of hc1⟩, _, rfl, _, _, rfl, rfl, _, rfl, f0, _, rfl, .inl (SqL.of hc0), ll20 (by show 2 ≤ 20; decide), fun p np => ?_⟩
          have ev : HO.tup [V.int (0 + (i : Int) + 1), V.int ((ss3.map V.str).length : Int)] = tupV (i + 1, ss3.length) := by
            unfold tupV
            rw [List.length_map, show (0 + (i : Int) + 1) = ((i + 1 : Nat) : Int) by omega]
          rw [ev]
          obtain ⟨k1, k2, k3⟩ := psStep (q := (i + 1, ss3.length)) hc1 hpsc np
          have sp := same_upd (o := tupV (i + 1, ss3.length)) np
          have rl : rs.length = ps.length := hpsc.1
          refine ⟨f1, _, _, rfl, rfl, k1, ?_, fun b o h => ?_, ss3, rs ++ [p], ps ++ [(i + 1, ss3.length)], _, rfl, ?_, k3, k2, hdfc, fun q h => ?_, lc, ?_, ?_, hwsc⟩
          · unfold refs
            rw [List.length_map, rl]
            exact Nat.lt_of_le_of_lt (show ps.length ≤ 100 by omega) (by decide)
          · rw [upd_ne (ne_of_none h nf1')]
            exact sp _ _ (sc _ _ h)
          · rw [upd_ne f01]
            exact sp _ _ hc0
          · rcases List.mem_append.mp h with h | h
            · exact Nat.le_succ_of_le (hq q h)
            · rw [List.mem_singleton.mp h]; exact Nat.le_refl _
          · rw [List.length_append]; show ps.length + 1 ≤ _; omega
          · rw [List.length_append]; show ps.length + 1 ≤ _; omega
      · rw [decide_eq_false (show ¬ (0 : Int) + (i : Int) < (rt.length : Int) by omega)]
        exact iteF ⟨sb, ss', rs, ps, _, rfl, hb0, hb1, hpsb, hdfb, fun q h => Nat.le_succ_of_le (hq q h), by omega, by omega, hpl3, hwsb⟩
    · rintro σ Ha ⟨sa, ss, rs, ps, y4, rfl, ha0, ha1, hps, hdf, hq, hl, hpl2, hpl3, hws⟩
      refine ⟨_, rfl, _, rfl, f1, _, rfl, .inl ⟨SqL.of ha1, fun d nd => ?_⟩⟩
      have sd := same_upd (o := .tup (refs rs)) nd
      have hd := upd_same (H := Ha) (a := d) (o := .tup (refs rs))
      have hps2 := hps.same sd
      have h02 := sd _ _ ha0
      have s2 := sa.trans sd
      have nd0 := none_before sa nd
      generalize upd Ha d (.tup (refs rs)) = H2 at sd hd hps2 h02 s2 ⊢
      refine ⟨ll20 (by show 2 ≤ 20; decide), fun t nt => ?_⟩
      have st := same_upd (o := .tup [V.ref f0, V.ref d]) nt
      exact z t f0 d ss ps _ (s2.trans st) upd_same (st _ _ h02) ⟨rs, st _ _ hd, hps2.same st⟩ hdf (by omega) (by omega) hws nf0 nd0
end
end K62
namespace XR
open PySem L2 KT
theorem merge4g {k1 k2 k3 k4 : Key} (n12 : k1 ≠ k2) (n13 : k1 ≠ k3) (n14 : k1 ≠ k4) (n23 : k2 ≠ k3) (n24 : k2 ≠ k4) (n34 : k3 ≠ k4) (a b c d : V) : mergeK [] [(k1, a), (k2, b), (k3, c), (k4, d)] = [(k1, a), (k2, b), (k3, c), (k4, d)] := by
  have e : ∀ (kvs : List (Key × V)) (k : Key) (v : V), valV kvs k = none → putK kvs k v = kvs ++ [(k, v)] := fun kvs k v h => by
    unfold putK
    rw [if_neg (by rw [valV_any, h]; decide)]
  unfold mergeK
  simp only [List.foldl]
  have q1 := e [] k1 a rfl
  have q2 := e [(k1, a)] k2 b (by rw [XR.valV_neg n12]; rfl)
  have q3 := e [(k1, a), (k2, b)] k3 c (by rw [XR.valV_neg n13, XR.valV_neg n23]; rfl)
  have q4 := e [(k1, a), (k2, b), (k3, c)] k4 d (by rw [XR.valV_neg n14, XR.valV_neg n24, XR.valV_neg n34]; rfl)
  simp only [List.cons_append, List.nil_append] at q1 q2 q3 q4
  rw [q1, q2, q3, q4]
theorem merge_case (ra ta da wa : Addr) : mergeK [] (caseK ra ta da wa) = caseK ra ta da wa :=
  merge4g (by decide +kernel) (by decide +kernel) (by decide +kernel) (by decide +kernel) (by decide +kernel) (by decide +kernel) _ _ _ _
theorem keepL {H : Hp} {p b : Addr} {k : List (Key × V)} {xs : List V} {o : HO} (hp : H p = some (.dK k)) (h : H b = some (.lst xs)) : upd H p o b = some (.lst xs) := by
  rw [upd_ne (fun e => by rw [e, hp] at h; cases h)]; exact h
theorem keepT {H : Hp} {p b : Addr} {k : List (Key × V)} {xs : List V} {o : HO} (hp : H p = some (.dK k)) (h : H b = some (.tup xs)) : upd H p o b = some (.tup xs) := by
  rw [upd_ne (fun e => by rw [e, hp] at h; cases h)]; exact h
theorem DfAt.keep {H : Hp} {p t : Addr} {k : List (Key × V)} {ps : List (Nat × Nat)} {o : HO} (hp : H p = some (.dK k)) (h : DfAt H t ps) : DfAt (upd H p o) t ps := by
  obtain ⟨rs, h1, h2⟩ := h
  exact ⟨rs, keepT hp h1, h2.1, fun i q hq => let ⟨r, e1, e2⟩ := h2.2 i q hq; ⟨r, e1, keepT hp e2⟩⟩
/-- the words of the law's cases -/
def wordsK : List Str := ["a", "b", "c", "", "x y", "x", "<<<<", "one", "k"]
def WdK (ss : List Str) : Prop := ∀ s, s ∈ ss → s ∈ wordsK
structure CaseWd (C : CaseD) : Prop where
  w0 : WdK C.s0
  w1 : WdK C.s1
  w2 : WdK C.s2
  ww : WdK C.ws
  lw : C.ws.length ≤ 4
  nw : C.ws.Nodup
def spCase : Sp := fun vs H Q _ => ∃ (a : Addr), vs = [.ref a, .int 7] ∧ PotAt H a ∧
  ∀ (c ra ta da wa t1 t2 d1 d2 : Addr) (C : CaseD) H', PotAt H' a → But a H H' → H c = none → CaseAt' H' c ra ta da wa t1 t2 d1 d2 C → CaseOk C → CaseWd C → Q (.ref c) H'
theorem pot_neL {H : Hp} {a b : Addr} {xs : List V} (hp : PotAt H a) (h : H b = some (.lst xs)) (n : ∀ p q, xs ≠ [V.int p, V.int q]) : b ≠ a := fun e => by
  obtain ⟨p, q, e2, _⟩ := hp
  rw [e, e2] at h
  injection h with h
  injection h with h
  exact n p q h.symm
theorem strs_ne (ss : List Str) (p q : Int) : ss.map V.str ≠ [V.int p, V.int q] := fun e => by
  match ss, e with
  | [], e => cases e
  | s :: ss, e => cases e
theorem CaseAt'.but {a : Addr} {H H' : Hp} {c ra ta da wa t1 t2 d1 d2 : Addr} {C : CaseD} (b : But a H H') (hp : PotAt H a) (h : CaseAt' H c ra ta da wa t1 t2 d1 d2 C) : CaseAt' H' c ra ta da wa t1 t2 d1 d2 C :=
  have ls : ∀ {x : Addr} {ss : List Str}, H x = some (.lst (ss.map .str)) → H' x = some (.lst (ss.map .str)) := fun {x ss} k => b _ _ k (pot_neL hp k (strs_ne _))
  have lr : ∀ {x u v : Addr}, H x = some (.lst [.ref u, .ref v]) → H' x = some (.lst [.ref u, .ref v]) := fun {x u v} k => b _ _ k (pot_neL hp k fun p q e => by cases e)
  ⟨b _ _ h.h (fun e => by obtain ⟨p, q, e2, _⟩ := hp; have := h.h; rw [e, e2] at this; cases this), ls h.r, lr h.t, ls h.x, ls h.y, lr h.d, let ⟨r, k1, k2⟩ := h.p; ⟨r, b.tup hp k1, k2.but b hp⟩, let ⟨r, k1, k2⟩ := h.q; ⟨r, b.tup hp k1, k2.but b hp⟩, ls h.w⟩
end XR
namespace K62
open PySem L2 XR KT
section
variable {P : Program} {w : World} {K : PySem.W.Frag} {mg : Str → Option Value} {base : Heap}
abbrev sCase : Stmt := top 45
abbrev nCase : List Str := ["_law_pot_here", "_law_most", "_law_words", "_law_root", "_law_plan_here", "_law_other", "_law_first", "_law_first_pairs", "_law_second_here", "_law_second_pairs", "_law_turn"]
theorem scCase : FnScope nCase ["_law_pot_here", "_law_most"] (defScope sCase) := ⟨rfl, rfl, rfl, by decide +kernel, rfl, by decide +kernel, by decide +kernel⟩
theorem ok_case {f fD fP fL fS fE : Addr} {fd fdD fdP fdL fdS fdE : FuncData} (F : Fun K "_law_case" "_law_case" sCase f fd) (T : Blt mg) (D : Draws P w K mg base fD fP fdD fdP)
    (FL : Fun K "_law_plan" "_law_plan" sPlan fL fdL) (GL : FnOk P w K mg base CX0 3 fL fdL ["_law_pot_here", "_law_many", "_law_words"] spPlan) (bL : Binds K fdL ["_law_pot_here", "_law_many", "_law_words"] []) (mL : mg "_law_plan" = some (.ref fL))
    (FS : Fun K "_law_second" "_law_second" sSecond fS fdS) (GS : FnOk P w K mg base CX0 4 fS fdS ["_law_pot_here", "_law_plan_here", "_law_words"] spSecond) (bS : Binds K fdS ["_law_pot_here", "_law_plan_here", "_law_words"] []) (mS : mg "_law_second" = some (.ref fS))
    (FE : Fun K "_law_edited" "_law_edited" sEdited fE fdE) (GE : FnOk P w K mg base CX0 1 fE fdE ["_law_root", "_law_plan_here"] spEdited) (bE : Binds K fdE ["_law_root", "_law_plan_here"] []) (mE : mg "_law_edited" = some (.ref fE)) : FnOk P w K mg base CX0 5 f fd ["_law_pot_here", "_law_most"] spCase := by
  refine F.ok scCase (fun vs H Q E h => ?_) (fun cdv A outer s H vs Q E hr h => ?_)
  · obtain ⟨a, rfl, _⟩ := h
    rfl
  · obtain ⟨a, rfl, hpot, z⟩ := h
    have hr1 := hr.mono (show 1 ≤ 4 by decide)
    have hr2 := hr.mono (show 2 ≤ 4 by decide)
    have hr3 := hr.mono (show 3 ≤ 4 by decide)
    refine ⟨_, pss_cons (ps_set (i := 2) scCase.nd rfl (.inr rfl) (pe_call D.GP hr2 rfl D.mP D.FP.kp D.bP .nil pass0 (pa_cons (pv 0) (pa_cons (pe_lst
          (pa_cons (pe_lst (pa_cons pe_str (pa_cons pe_str pa_nil)))
          (pa_cons (pe_lst (pa_cons pe_str (pa_cons pe_str (pa_cons pe_str (pa_cons pe_str pa_nil)))))
          (pa_cons (pe_lst (pa_cons pe_str (pa_cons pe_str (pa_cons pe_str (pa_cons pe_str pa_nil)))))
          (pa_cons (pe_lst (pa_cons pe_str pa_nil)) pa_nil))))) pa_nil))))
      (pss_cons (ps_setLc (i := 3) (own := [("_law_turn", 10)]) (g := gName 10) (tt := tYes) (te := tCall spPick [] E0 (tCons (tVar 0) (tCons (tVar 2) tNil))) rfl scCase.nd rfl rfl (sw_true rfl rfl rfl (by decide +kernel))
          (pi_range1 rfl T.range (pa_cons (pe_call D.GD hr1 rfl D.mD D.FD.kp D.bD .nil pass0 (pa_cons (pv 0) (pa_cons (pe_op op_add (pv 1) pe_int) pa_nil))) pa_nil))
          (blkOk_by (own := [("_law_turn", 10)]) (N := nCase) (sc := defScope sCase) (by decide +kernel)) (fun _ _ _ _ _ => pg_name (i := 10) scCase.nd rfl (.inl rfl)) (fun _ _ _ _ _ => pts_nil)
          (fun _ _ _ _ _ => pe_call D.GP hr2 rfl D.mP D.FP.kp D.bP .nil pass0 (pa_cons (pv 0) (pa_cons (pv 2) pa_nil))))
      (pss_cons (ps_set (i := 4) scCase.nd rfl (.inl rfl) (pe_call GL hr3 rfl mL FL.kp bL .nil pass0 (pa_cons (pv 0) (pa_cons (pe_callB call_len_seq (by rfl) T.len PySem.boot_len (pa_cons (pv 3) pa_nil)) (pa_cons (pv 2) pa_nil)))))
      (pss_cons (ps_set (i := 5) scCase.nd rfl (.inl rfl) (pe_call GS hr rfl mS FS.kp bS .nil pass0 (pa_cons (pv 0) (pa_cons (pv 4) (pa_cons (pv 2) pa_nil)))))
      (pss_cons (ps_asg (pe_call GE hr1 rfl mE FE.kp bE .nil pass0 (pa_cons (pv 3) (pa_cons (pv 4) pa_nil))) (pg_tup rfl (pgs_cons (pg_name (i := 6) scCase.nd rfl (.inl rfl)) (pgs_cons (pg_name (i := 7) scCase.nd rfl (.inl rfl)) pgs_nil))))
      (pss_cons (ps_asg (pe_call GE hr1 rfl mE FE.kp bE .nil pass0 (pa_cons (pv 3) (pa_cons (pv 5) pa_nil))) (pg_tup rfl (pgs_cons (pg_name (i := 8) scCase.nd rfl (.inl rfl)) (pgs_cons (pg_name (i := 9) scCase.nd rfl (.inl rfl)) pgs_nil))))
      (pss_one (ps_ret (pe_disp (pps_cons pe_str (pv 3) (pps_cons pe_str (pe_lst (pa_cons (pv 6) (pa_cons (pv 8) pa_nil))) (pps_cons pe_str (pe_lst (pa_cons (pv 7) (pa_cons (pv 9) pa_nil))) (pps_cons pe_str (pv 2) pps_nil)))) (by rfl) (by rfl) (fun z => by cases z) (by decide))))))))), ?_⟩
    refine ⟨_, rfl, ll20 (by show 2 ≤ 20; decide), fun p0 n0 => ⟨ll20 (by show 4 ≤ 20; decide), fun p1 n1 => ⟨ll20 (by show 4 ≤ 20; decide), fun p2 n2 => ⟨ll20 (by show 1 ≤ 20; decide), fun p3 n3 => ⟨ll20 (by show 4 ≤ 20; decide), fun p4 n4 => ?_⟩⟩⟩⟩⟩
    have s0 := same_upd (o := .lst [V.str "a", V.str "b"]) n0
    have s1 := same_upd (o := .lst [V.str "a", V.str "b", V.str "c", V.str ""]) n1
    have s2 := same_upd (o := .lst [V.str "x y", V.str "x", V.str "<<<<", V.str "one"]) n2
    have s3 := same_upd (o := .lst [V.str "k"]) n3
    have s4 := same_upd (o := .lst [V.ref p0, V.ref p1, V.ref p2, V.ref p3]) n4
    have g4 := upd_same (H := upd (upd (upd (upd H p0 (.lst [V.str "a", V.str "b"])) p1 (.lst [V.str "a", V.str "b", V.str "c", V.str ""])) p2 (.lst [V.str "x y", V.str "x", V.str "<<<<", V.str "one"])) p3 (.lst [V.str "k"])) (a := p4) (o := .lst [V.ref p0, V.ref p1, V.ref p2, V.ref p3])
    have a0 := hpot.ne n0
    have a1 := (hpot.same s0).ne n1
    have a2 := ((hpot.same s0).same s1).ne n2
    have a3 := (((hpot.same s0).same s1).same s2).ne n3
    have a4 := ((((hpot.same s0).same s1).same s2).same s3).ne n4
    have g0 := s4 _ _ (s3 _ _ (s2 _ _ (s1 _ _ (upd_same (H := H) (a := p0) (o := .lst [V.str "a", V.str "b"])))))
    have g1 := s4 _ _ (s3 _ _ (s2 _ _ (upd_same (a := p1) (o := .lst [V.str "a", V.str "b", V.str "c", V.str ""]))))
    have g2 := s4 _ _ (s3 _ _ (upd_same (a := p2) (o := .lst [V.str "x y", V.str "x", V.str "<<<<", V.str "one"])))
    have g3 := s4 _ _ (upd_same (a := p3) (o := .lst [V.str "k"]))
    have sm := s0.trans (s1.trans (s2.trans (s3.trans s4)))
    have hpG := hpot.same sm
    refine ⟨a, p4, [V.ref p0, V.ref p1, V.ref p2, V.ref p3], rfl, hpG, g4, a4, by show 0 < 4; decide, by show 4 ≤ 1000; decide, fun x H1 hx hp1 b1 => ?_⟩
    clear s0 s1 s2 s3 s4 n1 n2 n3 n4
    generalize upd (upd (upd (upd (upd H p0 (.lst [V.str "a", V.str "b"])) p1 (.lst [V.str "a", V.str "b", V.str "c", V.str ""])) p2 (.lst [V.str "x y", V.str "x", V.str "<<<<", V.str "one"])) p3 (.lst [V.str "k"])) p4 (.lst [V.ref p0, V.ref p1, V.ref p2, V.ref p3]) = G at g0 g1 g2 g3 g4 sm hpG b1
    obtain ⟨pw, ws, rfl, hw, hne, w0, w5, hwd, hnd⟩ : ∃ pw ws, x = .ref pw ∧ G pw = some (.lst (ws.map V.str)) ∧ a ≠ pw ∧ 0 < ws.length ∧ ws.length ≤ 4 ∧ WdK ws ∧ ws.Nodup := by
      simp only [List.mem_cons, List.not_mem_nil, or_false] at hx
      rcases hx with rfl | rfl | rfl | rfl
      · exact ⟨p0, ["a", "b"], rfl, g0, a0, by decide, by decide, by unfold WdK; decide, by decide +kernel⟩
      · exact ⟨p1, ["a", "b", "c", ""], rfl, g1, a1, by decide, by decide, by unfold WdK; decide, by decide +kernel⟩
      · exact ⟨p2, ["x y", "x", "<<<<", "one"], rfl, g2, a2, by decide, by decide, by unfold WdK; decide, by decide +kernel⟩
      · exact ⟨p3, ["k"], rfl, g3, a3, by decide, by decide, by unfold WdK; decide, by decide +kernel⟩
    have hw1 := b1 _ _ hw hne.symm
    have bG : But a H H1 := (But.refl a H).same sm |>.trans b1
    clear g0 g1 g2 g3 g4 hx
    refine ⟨_, rfl, _, rfl, _, _, rfl, rfl, a, 7 + 1, rfl, hp1, by decide, by decide, fun r H2 r0 r1 hp2 b2 => ?_⟩
    have hw2 := b2 _ _ hw1 hne.symm
    have bH2 := bG.trans b2
    refine ⟨r, rfl, by omega, by omega, fun ra nra => ?_⟩
    have har := hp2.ne nra
    refine lc_range (n := r.toNat) (fun j H' => PotAt H' a ∧ But a H2 H' ∧ ∃ ss : List Str, H' ra = some (.lst (ss.map V.str)) ∧ (∀ s ∈ ss, s ∈ ws) ∧ ss.length = j) ⟨hp2.upd har, (But.refl a H2).new nra, [], upd_same, (fun s h => by cases h), rfl⟩ ?_ ?_
    · rintro j H' hj ⟨hp', b', ss, hc, hwd', hl⟩
      refine ⟨rfl, ?_⟩
      unfold tYes
      dsimp only
      rw [if_pos rfl]
      have hw' := b' _ _ hw2 hne.symm
      refine ⟨_, rfl, _, rfl, a, pw, ws.map V.str, rfl, hp', hw', hne, by rw [List.length_map]; exact w0, by rw [List.length_map]; omega, fun x H3 hx hp3 b3 => ?_⟩
      obtain ⟨s, hs, rfl⟩ := List.mem_map.mp hx
      have hc3 := b3 _ _ hc har.symm
      refine ⟨_, hc3, ?_, hp3.upd har, ?_, ss ++ [s], ?_, ?_, ?_⟩
      · rw [List.length_map, hl]
        exact Nat.lt_of_lt_of_le hj (Nat.le_trans (show r.toNat ≤ 101 by omega) (by decide))
      · intro b o hb hn
        rw [upd_ne (ne_of_none hb nra)]
        exact b3 _ _ (b' _ _ hb hn) hn
      · rw [upd_same, List.map_append]; rfl
      · intro y hy
        rcases List.mem_append.mp hy with hy | hy
        · exact hwd' y hy
        · rw [List.mem_singleton.mp hy]; exact hs
      · rw [List.length_append, hl]; rfl
    rintro H3 ⟨hp3, b3, rt, hra, hrt, hl⟩
    have r7 : rt.length ≤ 7 := by omega
    have hw3 := b3 _ _ hw2 hne.symm
    have bH3 := bH2.trans b3
    refine ⟨_, rfl, _, rfl, ra, _, rfl, .inl (SqL.of hra), _, rfl, a, pw, rt.length, ws, by rw [List.length_map]; rfl, hp3, hw3, hne, w0, by omega, r7, fun pl us xs H4 hp4 b4 npl hpl hus hxl hok => ?_⟩
    have hw4 := b4 _ _ hw3 hne.symm
    have hra4 := b4 _ _ hra har.symm
    have apl := hp3.ne npl
    have bH4 := bH3.trans b4
    refine ⟨_, rfl, _, rfl, _, rfl, a, pl, pw, us, xs, ws, rfl, hp4, hw4, hne, w0, by omega, hpl, apl, hus, by omega, by omega, hok, fun po vs ys H5 hp5 b5 npo hpo hvs hyl hyok => ?_⟩
    have hw5 := b5 _ _ hw4 hne.symm
    have hra5 := b5 _ _ hra4 har.symm
    have hpl5 := b5 _ _ hpl apl.symm
    have hus5 := hus.mono (S := PlE H5) fun _ _ _ _ k => k.but b5 hp4
    have bH5 := bH4.trans b5
    refine ⟨_, rfl, _, rfl, ra, pl, us, xs, rt, ws, rfl, hra5, hpl5, hus5, hxl, r7, hrt, hok, fun q1 l1 d1 s1 ps H6 s6 hq1 hl1 hd1 df1 le1 lp1 ws1 nl1 nd1 => ?_⟩
    refine ⟨q1, _, rfl, SqT.of hq1, rfl, _, _, rfl, _, _, rfl, rfl, ?_⟩
    have hra6 := s6 _ _ hra5
    have hpo6 := s6 _ _ hpo
    have hvs6 := hvs.mono (S := PlE H6) fun _ _ _ _ k => k.same s6
    refine ⟨_, rfl, _, rfl, ra, po, vs, ys, rt, ws, rfl, hra6, hpo6, hvs6, by omega, r7, hrt, hyok, fun q2 l2 d2 s2 qs H7 s7 hq2 hl2 hd2 df2 le2 lp2 ws2 nl2 nd2 => ?_⟩
    refine ⟨q2, _, rfl, SqT.of hq2, rfl, _, _, rfl, _, _, rfl, rfl, ?_⟩
    intro p np
    have s57 := s6.trans s7
    have hra7 := s57 _ _ hra5
    have hw7 := s57 _ _ hw5
    have hl17 := s7 _ _ hl1
    have hd17 := hd1.same s7
    have hp7 := hp5.same s57
    have bH7 := bH5.same s57
    have hap := hp7.ne np
    have npH : H p = none := none_but bH7 np hap
    have sp := same_upd (o := .dK []) np
    have hpd := upd_same (H := H7) (a := p) (o := .dK [])
    have bH8 : But a H (upd H7 p (.dK [])) := bH7.new np
    generalize upd H7 p (.dK []) = H8 at sp hpd bH8 ⊢
    refine ⟨_, rfl, _, rfl, _, rfl, ll20 (by show 2 ≤ 20; decide), fun ta nta => ⟨_, rfl, _, rfl, ll20 (by show 2 ≤ 20; decide), fun da nda => ⟨_, rfl, ?_⟩⟩⟩
    have st := same_upd (o := .lst [V.ref l1, V.ref l2]) nta
    have hta := upd_same (H := H8) (a := ta) (o := .lst [V.ref l1, V.ref l2])
    have s8 := sp.trans st
    have hpd2 := st _ _ hpd
    have bH9 := bH8.same st
    generalize upd H8 ta (.lst [V.ref l1, V.ref l2]) = H9 at st hta hpd2 bH9 nda s8 ⊢
    have sd := same_upd (o := .lst [V.ref d1, V.ref d2]) nda
    have hda := upd_same (H := H9) (a := da) (o := .lst [V.ref d1, V.ref d2])
    have hta2 := sd _ _ hta
    have hpd3 := sd _ _ hpd2
    have s9 := s8.trans sd
    have bH10 := bH9.same sd
    generalize upd H9 da (.lst [V.ref d1, V.ref d2]) = H10 at sd hda hta2 hpd3 bH10 s9 ⊢
    refine ⟨hpd3, caseK ra ta da pw, rfl, by show 4 ≤ 15; decide, ?_⟩
    rw [merge_case]
    refine z p ra ta da pw l1 l2 d1 d2 ⟨rt, s1, s2, ps, qs, ws⟩ _ ((hp7.same s9).upd hap) (fun b o hb hn => ?_) npH ⟨upd_same, keepL hpd3 (s9 _ _ hra7), keepL hpd3 hta2, keepL hpd3 (s9 _ _ hl17), keepL hpd3 (s9 _ _ hl2), keepL hpd3 hda, (hd17.same s9).keep hpd3, (hd2.same s9).keep hpd3, keepL hpd3 (s9 _ _ hw7)⟩ ⟨df1, df2, r7, by show s1.length ≤ 24; omega, by show s2.length ≤ 24; omega, lp1, lp2⟩ ⟨fun s h => hwd s (hrt s h), fun s h => hwd s (ws1 s h), fun s h => hwd s (ws2 s h), hwd, w5, hnd⟩
    rw [upd_ne (ne_of_none hb npH)]
    exact bH10 _ _ hb hn
end
end K62
namespace XR
open PySem L2 KT
def Lns (ss : List Str) : Prop := ∀ s ∈ ss, isLine (.str s) = true
theorem text_okL {d : PyData} {ss : List Str} (h1 : itemsOf d = ss.map PyData.str) (h2 : isSeq d = true) (w : Lns ss) (l : ss.length ≤ 60) : isText d = true := by
  unfold isText
  rw [h1, h2, List.length_map, decide_eq_true l, List.all_map]
  simp only [Bool.true_and]
  rw [List.all_eq_true]
  exact fun s hs => w s hs
theorem lst_textL {K : PySem.W.Frag} {H : Hp} {p : Addr} {ss : List Str} (h : SqL K H p (ss.map V.str)) (w : Lns ss) (l : ss.length ≤ 60) : TxV K H (.ref p) ss :=
  ⟨.list (ss.map .str), .lst h (dqStrs ss), text_okL rfl rfl w l, strs_back ss⟩
theorem tup_textL {K : PySem.W.Frag} {H : Hp} {p : Addr} {ss : List Str} (h : SqT K H p (ss.map V.str)) (w : Lns ss) (l : ss.length ≤ 60) : TxV K H (.ref p) ss :=
  ⟨.tuple (ss.map .str), .tup h (dqStrs ss), text_okL rfl rfl w l, strs_back ss⟩
theorem wordK_ok : ∀ s ∈ wordsK, isLine (.str s) = true ∧ PyData.strOk s = true ∧ (PyData.str s).showable = true ∧ (PyData.str s).shown.length ≤ 8 ∧ (PyData.str s).depth ≤ 1 := by decide +kernel
theorem WdK.lns {ss : List Str} (h : WdK ss) : Lns ss := fun s hs => (wordK_ok _ (h s hs)).1
theorem WdK.oks {ss : List Str} (h : WdK ss) : OkS ss := fun s hs => (wordK_ok _ (h s hs)).2.1
theorem shw_lsK {ss : List Str} (w : WdK ss) (l : ss.length ≤ 60) : Shw 602 2 (lsD ss) := by
  refine Shw.list (n := 8) (k := 1) (m := 60) (fun d hd => ?_) (by rw [List.length_map]; exact l)
  obtain ⟨s, hs, rfl⟩ := List.mem_map.mp hd
  obtain ⟨_, _, a, b, c⟩ := wordK_ok s (w s hs)
  exact ⟨a, b, c⟩
theorem shw_keys : ∀ s ∈ (["root", "texts", "diffs", "words"] : List Str), (PyData.str s).showable = true ∧ (PyData.str s).shown.length ≤ 8 ∧ (PyData.str s).depth ≤ 1 := by decide +kernel
theorem Shw.dict {n k : Nat} {a1 a2 a3 a4 b1 b2 b3 b4 : PyData} (ha : ∀ d ∈ [a1, a2, a3, a4], Shw 8 1 d) (hb : ∀ d ∈ [b1, b2, b3, b4], Shw n (k + 1) d) : Shw (2 + 4 * (n + 12)) (k + 2) (.dict [(a1, b1), (a2, b2), (a3, b3), (a4, b4)]) := by
  have A1 := ha a1 (by simp)
  have A2 := ha a2 (by simp)
  have A3 := ha a3 (by simp)
  have A4 := ha a4 (by simp)
  have B1 := hb b1 (by simp)
  have B2 := hb b2 (by simp)
  have B3 := hb b3 (by simp)
  have B4 := hb b4 (by simp)
  refine ⟨?_, ?_, ?_⟩
  · simp only [PyData.showable, PyData.showableKv, A1.ok, A2.ok, A3.ok, A4.ok, B1.ok, B2.ok, B3.ok, B4.ok, Bool.and_self]
  · simp only [PyData.shown, PyData.shownKv]
    have c2 : (Str.ofString ": ").length = 2 := by decide
    have one : ∀ {a b : PyData}, Shw 8 1 a → Shw n (k + 1) b → (a.shown ++ Str.ofString ": " ++ b.shown).length ≤ n + 10 := fun {a b} x y => by
      rw [strLen_append, strLen_append, c2]
      have := x.len
      have := y.len
      omega
    have e := joined_le (n + 10) [a1.shown ++ Str.ofString ": " ++ b1.shown, a2.shown ++ Str.ofString ": " ++ b2.shown, a3.shown ++ Str.ofString ": " ++ b3.shown, a4.shown ++ Str.ofString ": " ++ b4.shown] fun t ht => by
      simp only [List.mem_cons, List.not_mem_nil, or_false] at ht
      rcases ht with rfl | rfl | rfl | rfl
      · exact one A1 B1
      · exact one A2 B2
      · exact one A3 B3
      · exact one A4 B4
    have q1 : (Str.ofString "{").length = 1 := by decide
    have q2 : (Str.ofString "}").length = 1 := by decide
    unfold dictText
    rw [strLen_append, strLen_append, q1, q2]
    have e2 : ([a1.shown ++ Str.ofString ": " ++ b1.shown, a2.shown ++ Str.ofString ": " ++ b2.shown, a3.shown ++ Str.ofString ": " ++ b3.shown, a4.shown ++ Str.ofString ": " ++ b4.shown] : List Str).length = 4 := rfl
    rw [e2] at e
    omega
  · have := A1.dep
    have := A2.dep
    have := A3.dep
    have := A4.dep
    have := B1.dep
    have := B2.dep
    have := B3.dep
    have := B4.dep
    simp only [PyData.depth, PyData.depthKv]
    omega
theorem Shw.lineB {n k : Nat} {d : PyData} (h : Shw n k d) (hn : n ≤ 100000) : d.shown.length ≤ sizeLine := Nat.le_trans h.len (Nat.le_trans hn (by decide))
/-- a case as data -/
def caseD (C : CaseD) : PyData := .dict [(.str "root", lsD C.s0), (.str "texts", .list [lsD C.s1, lsD C.s2]), (.str "diffs", .list [dfD C.ps, dfD C.qs]), (.str "words", lsD C.ws)]
theorem dq_ls {K : PySem.W.Frag} {H : Hp} {a : Addr} {ss : List Str} (h : H a = some (.lst (ss.map .str))) : Dq K H (.ref a) (lsD ss) := .lst (SqL.of h) (dqStrs ss)
theorem CaseAt'.dq {K : PySem.W.Frag} {H : Hp} {c ra ta da wa t1 t2 d1 d2 : Addr} {C : CaseD} (h : CaseAt' H c ra ta da wa t1 t2 d1 d2 C) : Dq K H (.ref c) (caseD C) :=
  .dct h.h (.cons (.str _) (.cons (.str _) (.cons (.str _) (.cons (.str _) .nil)))) (.cons (dq_ls h.r) (.cons (.lst (SqL.of h.t) (.cons (dq_ls h.x) (.cons (dq_ls h.y) .nil))) (.cons (.lst (SqL.of h.d) (.cons h.p.v (.cons h.q.v .nil))) (.cons (dq_ls h.w) .nil))))
theorem shw_case {C : CaseD} (o : CaseOk C) (w : CaseWd C) : Shw 7002 5 (caseD C) := by
  have l0 := o.l0
  have l1 := o.l1
  have l2 := o.l2
  have lw := w.lw
  refine (Shw.dict (n := 1572) (k := 3) (fun d hd => ?_) (fun d hd => ?_)).le (by decide) (by decide)
  · have key : ∀ s : Str, s ∈ (["root", "texts", "diffs", "words"] : List Str) → Shw 8 1 (.str s) := fun s hs => let ⟨a, b, c⟩ := shw_keys s hs; ⟨a, b, c⟩
    simp only [List.mem_cons, List.not_mem_nil, or_false] at hd
    rcases hd with rfl | rfl | rfl | rfl
    · exact key _ (by decide)
    · exact key _ (by decide)
    · exact key _ (by decide)
    · exact key _ (by decide)
  · simp only [List.mem_cons, List.not_mem_nil, or_false] at hd
    rcases hd with rfl | rfl | rfl | rfl
    · exact (shw_lsK w.w0 (by omega)).le (by decide) (by decide)
    · refine (Shw.list (ds := [lsD C.s1, lsD C.s2]) (n := 602) (k := 2) (m := 2) (fun d hd => ?_) (Nat.le_refl 2)).le (by decide) (by decide)
      simp only [List.mem_cons, List.not_mem_nil, or_false] at hd
      rcases hd with rfl | rfl
      · exact shw_lsK w.w1 (by omega)
      · exact shw_lsK w.w2 (by omega)
    · refine (Shw.list (ds := [dfD C.ps, dfD C.qs]) (n := 783) (k := 3) (m := 2) (fun d hd => ?_) (Nat.le_refl 2)).le (by decide) (by decide)
      simp only [List.mem_cons, List.not_mem_nil, or_false] at hd
      rcases hd with rfl | rfl
      · exact shw_df o.p (by omega) (by omega)
      · exact shw_df o.q (by omega) (by omega)
    · exact (shw_lsK w.ww (by omega)).le (by decide) (by decide)
/-- the knots -/
theorem knots_in {S0 S1 : List Blk} {k : List Blk × List Blk} (h : k ∈ knotsL S0 S1) : (∀ b ∈ k.1, b ∈ S0) ∧ (∀ b ∈ k.2, b ∈ S1) ∧ k.1 ++ k.2 ≠ [] ∧ k.1.length ≤ (told S0 S1).length ∧ k.2.length ≤ (told S0 S1).length := by
  unfold knotsL at h
  obtain ⟨g, hg, rfl⟩ := List.mem_map.mp h
  have tot : ∀ a b, (leI a b || leI b a) = true := fun a b => by rw [Bool.or_eq_true]; exact leI_tot.total a b
  have I := sweep_inv (lo := loI) (hi := hiI) lo_hi lo_pos ((told S0 S1).mergeSort leI) ((List.pairwise_mergeSort leI_tot.trans tot _).imp fun h => leI_mon _ _ h)
  have gIn : ∀ x ∈ g, x ∈ told S0 S1 := fun x hx => (List.mergeSort_perm _ leI).mem_iff.mp (by rw [← I.fl]; exact List.mem_flatten.mpr ⟨g, hg, hx⟩)
  have gl : g.length ≤ (told S0 S1).length := by
    have := (List.sublist_flatten_of_mem hg).length_le
    rw [I.fl, List.length_mergeSort] at this
    exact this
  have mem : ∀ {v : Nat} {b : Blk}, b ∈ side v g → (v, b) ∈ g := fun {v b} hb => by
    unfold side at hb
    obtain ⟨x, hx, rfl⟩ := List.mem_map.mp hb
    obtain ⟨h1, h2⟩ := List.mem_filter.mp hx
    rw [← of_decide_eq_true h2]
    exact h1
  refine ⟨fun b hb => ?_, fun b hb => ?_, fun e => ?_, Nat.le_trans (side_len 0 g) gl, Nat.le_trans (side_len 1 g) gl⟩
  · rcases told_side (gIn _ (mem hb)) rfl with ⟨_, m⟩ | ⟨e, _⟩
    · exact m
    · cases e
  · rcases told_side (gIn _ (mem hb)) rfl with ⟨e, _⟩ | ⟨_, m⟩
    · cases e
    · exact m
  · obtain ⟨e0, e1⟩ := List.append_eq_nil_iff.mp e
    obtain ⟨x, hx⟩ := List.exists_mem_of_ne_nil g (I.seg.ne g hg)
    have hs : ∀ v : Nat, x.1 = v → x.2 ∈ side v g := fun v hv => by
      unfold side
      exact List.mem_map.mpr ⟨x, List.mem_filter.mpr ⟨hx, decide_eq_true hv⟩, rfl⟩
    rcases told_side (gIn x hx) rfl with ⟨e, _⟩ | ⟨e, _⟩
    · have := hs 0 e
      have e0 : side 0 g = [] := e0
      rw [e0] at this
      cases this
    · have := hs 1 e
      have e1 : side 1 g = [] := e1
      rw [e1] at this
      cases this
theorem knots_count (S0 S1 : List Blk) : (knotsL S0 S1).length ≤ (told S0 S1).length := by
  unfold knotsL
  have tot : ∀ a b, (leI a b || leI b a) = true := fun a b => by rw [Bool.or_eq_true]; exact leI_tot.total a b
  have I := sweep_inv (lo := loI) (hi := hiI) lo_hi lo_pos ((told S0 S1).mergeSort leI) ((List.pairwise_mergeSort leI_tot.trans tot _).imp fun h => leI_mon _ _ h)
  have := len_flat I.seg.ne
  rw [I.fl, List.length_mergeSort] at this
  rw [List.length_map]
  exact this
/-- the knots of a case -/
def knC (C : CaseD) : List (List Blk × List Blk) := knotsL (blk1 C) (blk2 C)
theorem told_le {C : CaseD} (ok : CaseOk C) : (told (blk1 C) (blk2 C)).length ≤ 16 := by
  have c0 := blocks_count ok.p
  have c1 := blocks_count ok.q
  have := ok.lp
  have := ok.lq
  unfold told
  rw [List.length_append, List.length_map, List.length_map]
  show (blocksL C.s0.length C.s1.length C.ps).length + (blocksL C.s0.length C.s2.length C.qs).length ≤ 16
  omega
def knsD (C : CaseD) : PyData := .list ((knC C).map knD)
theorem shw_blkK {b : Blk} (h1 : b.1 ≤ 60) (h2 : b.2.1 ≤ 60) (h3 : b.2.2.1 ≤ 60) (h4 : b.2.2.2 ≤ 60) : Shw 19 2 (blkD b) := by
  refine Shw.tuple (n := 2) (k := 1) (m := 4) (fun d hd => ?_) (Nat.le_refl 4)
  simp only [intsB, List.map_cons, List.map_nil, List.mem_cons, List.not_mem_nil, or_false] at hd
  rcases hd with rfl | rfl | rfl | rfl
  · exact shw_num h1
  · exact shw_num h2
  · exact shw_num h3
  · exact shw_num h4
theorem shw_kns {C : CaseD} (ok : CaseOk C) : Shw 11000 5 (knsD C) := by
  have tl := told_le ok
  have l0 := ok.l0
  have l1 := ok.l1
  have l2 := ok.l2
  refine (Shw.list (n := 685) (k := 4) (m := 16) (fun d hd => ?_) (by rw [List.length_map]; exact Nat.le_trans (knots_count _ _) tl)).le (by decide) (by decide)
  obtain ⟨k, hk, rfl⟩ := List.mem_map.mp hd
  obtain ⟨i1, i2, _, n1, n2⟩ := knots_in hk
  refine (Shw.tuple (ds := [.tuple (k.1.map blkD), .tuple (k.2.map blkD)]) (n := 339) (k := 3) (m := 2) (fun d hd => ?_) (Nat.le_refl 2)).le (by decide) (by decide)
  simp only [List.mem_cons, List.not_mem_nil, or_false] at hd
  rcases hd with rfl | rfl
  · refine Shw.tuple (n := 19) (k := 2) (m := 16) (fun d hd => ?_) (by rw [List.length_map]; omega)
    obtain ⟨b, hb, rfl⟩ := List.mem_map.mp hd
    have := blocks_le ok.p (i1 b hb)
    exact shw_blkK (by omega) (by omega) (by omega) (by omega)
  · refine Shw.tuple (n := 19) (k := 2) (m := 16) (fun d hd => ?_) (by rw [List.length_map]; omega)
    obtain ⟨b, hb, rfl⟩ := List.mem_map.mp hd
    have := blocks_le ok.q (i2 b hb)
    exact shw_blkK (by omega) (by omega) (by omega) (by omega)
theorem kit_list (d : PyData) : kitB (tyN d) "list" = some (match d with | .list _ => true | _ => false) := by
  cases d <;> kernel_rfl
theorem kout_dq {K : PySem.W.Frag} {H : Hp} : ∀ {ts : List Addr} {ks : List (List Blk × List Blk)}, LAt (KOut H) ts ks → DqAll K H (refs ts) (ks.map knD)
  | [], [], _ => .nil
  | [], b :: bs, h => by have := h.1; simp at this
  | r :: rs, [], h => by have := h.1; simp at this
  | r :: rs, b :: bs, h => by
    obtain ⟨r', e1, e2⟩ := h.2 0 b rfl
    obtain rfl : r = r' := Option.some.inj e1
    exact .cons e2.dq (kout_dq ⟨by simpa using h.1, fun i q hq => h.2 (i + 1) q hq⟩)
def spKnR (K : PySem.W.Frag) : Sp := fun vs H Q _ => ∃ (c ra ta da wa t1 t2 d1 d2 : Addr) (C : CaseD) (y : V), vs = [.ref c, y] ∧ CaseAt' H c ra ta da wa t1 t2 d1 d2 C ∧ CaseOk C ∧ CaseWd C ∧ Dq K H y (knsD C) ∧ ∀ H', Same H H' → Q (.bl true) H'
end XR
namespace XR
open PySem L2 KT
theorem pi_orI {X : Cx} {tg e : Expr} {w1 w2 : TI} (h1 : PI X tg e w1) (h2 : PI X tg e w2) : PI X tg e (fun σ H R => w1 σ H R ∨ w2 σ H R) := ⟨fun pins s σ H R I h => by
  rcases h with h | h
  · exact h1.run pins s σ H R I h
  · exact h2.run pins s σ H R I h⟩
/-- the fate that a knot gives to line i + 1 -/
def hitK (k : List Blk × List Blk) (i : Nat) : Bool := decide (firstK k ≤ 2 * ((i : Int) + 1) - 1 ∧ 2 * ((i : Int) + 1) - 1 ≤ lastK k)
def wordF (s1 s2 : List Str) (k : List Blk × List Blk) : Str := if kindL k s1 s2 = "clash" then "clash" else "gone"
def fateF (s1 s2 : List Str) (ks : List (List Blk × List Blk)) (i : Nat) : Str := ks.foldl (fun f k => if hitK k i = true then wordF s1 s2 k else f) "stands"
theorem fateF_snoc (s1 s2 : List Str) (ks : List (List Blk × List Blk)) (k : List Blk × List Blk) (i : Nat) : fateF s1 s2 (ks ++ [k]) i = if hitK k i = true then wordF s1 s2 k else fateF s1 s2 ks i := by
  unfold fateF
  rw [List.foldl_append]
  rfl
def tabV (m : Nat) (φ : Nat → Str) : List V := ((List.range m).map φ).map V.str
theorem tabV_len (m : Nat) (φ : Nat → Str) : (tabV m φ).length = m := by unfold tabV; rw [List.length_map, List.length_map, List.length_range]
theorem tabV_set {m j : Nat} {φ : Nat → Str} {v : Str} : (tabV m φ).set j (.str v) = tabV m fun i => if i = j then v else φ i := by
  refine List.ext_getElem? fun i => ?_
  unfold tabV
  simp only [List.getElem?_set, List.getElem?_map, List.length_map, List.length_range]
  by_cases hi : i < m
  · rw [List.getElem?_range hi]
    by_cases e : j = i
    · subst e
      simp [hi]
    · simp [e]
      intro q
      exact absurd q.symm e
  · have n : (List.range m)[i]? = none := List.getElem?_eq_none (by rw [List.length_range]; omega)
    rw [n]
    by_cases e : j = i
    · subst e
      simp [hi]
    · simp [e]
theorem tabV_congr {m : Nat} {φ ψ : Nat → Str} (h : ∀ i, i < m → φ i = ψ i) : tabV m φ = tabV m ψ := by
  unfold tabV
  congr 1
  exact List.map_congr_left fun i hi => h i (List.mem_range.mp hi)
/-- as often "stands" as a text has lines -/
theorem stands_read {K : PySem.W.Frag} {H : Hp} {Q : VK} {σ : St} {x : V} {ss : List Str} {sl : Nat} (e0 : σ[0]? = some (some x)) (ht : TxA K H x ss) (len : ss.length ≤ 100) (z : ∀ D H', Same H H' → H D = none → H' D = some (.lst (tabV ss.length fun _ => "stands")) → Q (.ref D) H') :
    tLc (fun σ H R => iList K (tVar 0) σ H R ∨ iTup K (tVar 0) σ H R) (gName sl) tYes (tC (.str "stands")) [sl] σ H Q := by
  have snoc : ∀ i, tabV (i + 1) (fun _ => "stands") = tabV i (fun _ => "stands") ++ [V.str "stands"] := fun i => by
    unfold tabV
    rw [List.range_succ, List.map_append, List.map_append]
    rfl
  have step : ∀ (D : Addr), H D = none → ∀ (i : Nat) (x : V) (Hx : Hp), i < ss.length → (Same H Hx ∧ Hx D = some (.lst (tabV i fun _ => "stands"))) → gName sl x (wipe σ [sl]) Hx fun σ2 H2 => wipe σ2 [sl] = wipe σ [sl] ∧ tYes σ2 H2 fun b H3 =>
      if b = true then tC (.str "stands") σ2 H3 fun y H4 => ∃ acc, H4 D = some (.lst acc) ∧ acc.length < sizeLine ∧ (Same H (upd H4 D (.lst (acc ++ [y]))) ∧ upd H4 D (.lst (acc ++ [y])) D = some (.lst (tabV (i + 1) fun _ => "stands"))) else (Same H H3 ∧ H3 D = some (.lst (tabV (i + 1) fun _ => "stands"))) := by
    intro D nD i x Hx hi ⟨sx, hD⟩
    refine ⟨wipe_one, ?_⟩
    unfold tYes
    dsimp only
    rw [if_pos rfl]
    refine ⟨_, hD, ?_, fun b o h => ?_, ?_⟩
    · rw [tabV_len]
      exact Nat.lt_of_lt_of_le hi (Nat.le_trans len (by decide))
    · rw [upd_ne (ne_of_none h nD)]
      exact sx _ _ h
    · rw [upd_same, snoc]
  obtain ⟨a, rfl, h | h⟩ := ht
  · refine .inl ⟨_, e0, a, rfl, ⟨_, h⟩, fun D nD => ?_⟩
    refine lc_list (K := K) (a := a) (xs := ss.map V.str) (fun i Hx => Same H Hx ∧ Hx D = some (.lst (tabV i fun _ => "stands"))) ⟨same_upd nD, upd_same⟩ (fun i Hx _ hh => Same.seq hh.1 h) (fun i x Hx hx p => step D nD i x Hx (by have := (List.getElem?_eq_some_iff.mp hx).1; rw [List.length_map] at this; exact this) p) ?_
    rintro Hx ⟨sx, hD⟩
    rw [List.length_map] at hD
    exact z D Hx sx nD hD
  · refine .inr ⟨_, e0, a, rfl, ⟨_, h⟩, fun D nD => ?_⟩
    refine lc_tup (K := K) (a := a) (xs := ss.map V.str) (fun i Hx => Same H Hx ∧ Hx D = some (.lst (tabV i fun _ => "stands"))) ⟨same_upd nD, upd_same⟩ (fun i Hx _ hh => XR.Same.tup hh.1 h) (fun i x Hx hx p => step D nD i x Hx (by have := (List.getElem?_eq_some_iff.mp hx).1; rw [List.length_map] at this; exact this) p) ?_
    rintro Hx ⟨sx, hD⟩
    rw [List.length_map] at hD
    exact z D Hx sx nD hD
abbrev rLen1 (K : PySem.W.Frag) : List V → Hp → VK → Prop := fun xs H Q => ∃ p ys, xs = [V.ref p] ∧ (SqL K H p ys ∨ SqT K H p ys) ∧ Q (V.int ys.length) H
abbrev fateTS (K : PySem.W.Frag) : TS := tFor (iRng2 (tCons (tC (V.int 1)) (tCons (tOp (rI0 fun i j => V.int (i + j)) (tCB (rLen1 K) (tCons (tVar 0) tNil)) (tC (V.int 1))) tNil))) (gName 11)
  (tIfS (tTest (tChain (rI0 fun i j => V.bl (decide (i ≤ j))) (rI0 fun i j => V.bl (decide (i ≤ j))) (tVar 8) (tOp (rI0 fun i j => V.int (i - j)) (tOp (rI CMul fun i j => V.int (i * j)) (tC (V.int 2)) (tVar 11)) (tC (V.int 1))) (tVar 9))) (tAsg (tVar 10) (gSub (tVar 6) (tOp (rI0 fun i j => V.int (i - j)) (tVar 11) (tC (V.int 1))) rSetL)) tNext)
/-- the fate of a knot is told of its lines -/
theorem fate_read {K : PySem.W.Frag} {H : Hp} {De : Ends} {a0 D : Addr} {s0 : List Str} {φ : Nat → Str} {k : List Blk × List Blk} {wd : Str} {z1 z2 z3 z4 z5 y7 y11 y12 : Option V} (ht : TxA K H (.ref a0) s0) (l0 : s0.length ≤ 100) (hD : H D = some (.lst (tabV s0.length φ)))
    (zz : ∀ y H', But D H H' → H' D = some (.lst (tabV s0.length fun i => if hitK k i = true then wd else φ i)) → De.nx [some (.ref a0), z1, z2, z3, z4, z5, some (.ref D), y7, some (.int (firstK k)), some (.int (lastK k)), some (.str wd), y, y12] H') :
    fateTS K De [some (.ref a0), z1, z2, z3, z4, z5, some (.ref D), y7, some (.int (firstK k)), some (.int (lastK k)), some (.str wd), y11, y12] H := by
  have len : ∃ ys : List V, (SqL K H a0 ys ∨ SqT K H a0 ys) ∧ (ys.length : Int) = (s0.length : Int) := by
    obtain ⟨a, e, h⟩ := ht
    cases e
    exact ⟨_, h, by rw [List.length_map]⟩
  obtain ⟨ys, h0, e0⟩ := len
  refine ⟨_, rfl, a0, ys, rfl, h0, _, _, rfl, rfl, 1, (ys.length : Int) + 1, rfl, ⟨by omega, by omega, by omega, by omega⟩, ?_⟩
  rw [e0, show ((s0.length : Int) + 1 - 1).toNat = s0.length by omega]
  refine for_range (lo := 1) (n := s0.length) (fun j σ H' => But D H H' ∧ H' D = some (.lst (tabV s0.length fun i => if i < j ∧ hitK k i = true then wd else φ i)) ∧ ∃ y, σ = [some (.ref a0), z1, z2, z3, z4, z5, some (.ref D), y7, some (.int (firstK k)), some (.int (lastK k)), some (.str wd), y, y12])
    ⟨But.refl D H, by rw [hD, show (tabV s0.length fun i => if i < 0 ∧ hitK k i = true then wd else φ i) = tabV s0.length φ from tabV_congr fun i _ => by simp], _, rfl⟩ ?_ ?_
  · rintro j σ Hx hj ⟨bx, hx, y, rfl⟩
    have nxt : ∀ {H' : Hp}, But D Hx H' → H' D = some (.lst (tabV s0.length fun i => if i = j ∧ hitK k j = true then wd else if i < j ∧ hitK k i = true then wd else φ i)) → H' D = some (.lst (tabV s0.length fun i => if i < j + 1 ∧ hitK k i = true then wd else φ i)) := fun {H'} _ e => by
      rw [e]
      congr 2
      refine tabV_congr fun i _ => ?_
      by_cases c : i = j
      · subst c
        by_cases h : hitK k i = true
        · simp [h]
        · simp [h]
      · by_cases h : hitK k i = true
        · have : i < j ↔ i < j + 1 := by omega
          simp [h, c, this]
        · simp [h, c]
    have m1 : CMul 2 (1 + (j : Int)) := .inl ⟨by omega, by omega⟩
    refine ⟨_, rfl, _, rfl, _, _, rfl, rfl, m1, _, _, rfl, rfl, _, _, rfl, rfl, _, rfl, ?_⟩
    have no : hitK k j = false → But D H Hx ∧ Hx D = some (.lst (tabV s0.length fun i => if i < j + 1 ∧ hitK k i = true then wd else φ i)) ∧ ∃ y', [some (V.ref a0), z1, z2, z3, z4, z5, some (.ref D), y7, some (.int (firstK k)), some (.int (lastK k)), some (.str wd), some (.int (1 + (j : Int))), y12] = [some (V.ref a0), z1, z2, z3, z4, z5, some (.ref D), y7, some (.int (firstK k)), some (.int (lastK k)), some (.str wd), y', y12] := fun e =>
      ⟨bx, nxt (But.refl D Hx) (by rw [hx]; congr 2; exact tabV_congr fun i _ => by simp [e]), _, rfl⟩
    by_cases c1 : firstK k ≤ 2 * (1 + (j : Int)) - 1
    · rw [decide_eq_true c1, if_pos rfl]
      refine ⟨_, rfl, _, _, rfl, rfl, _, rfl, ?_⟩
      by_cases c2 : 2 * (1 + (j : Int)) - 1 ≤ lastK k
      · have hk : hitK k j = true := decide_eq_true ⟨by omega, by omega⟩
        rw [decide_eq_true c2]
        refine iteT ⟨_, rfl, _, rfl, _, rfl, _, _, rfl, rfl, D, _, _, j, rfl, rfl, hx, ?_, fun b o h n => ?_, ?_, _, rfl⟩
        · rw [tabV_len]
          unfold ixN
          rw [if_pos (by omega), if_pos (by omega)]
          congr 1
          omega
        · rw [upd_ne n]
          exact bx _ _ h n
        · refine nxt (fun b o h n => by rw [upd_ne n]; exact h) ?_
          rw [upd_same, tabV_set]
          congr 2
          refine tabV_congr fun i _ => ?_
          by_cases c : i = j
          · subst c
            simp [hk]
          · simp [c]
      · rw [decide_eq_false c2]
        exact iteF (no (decide_eq_false fun h => c2 (by omega)))
    · rw [decide_eq_false c1, if_neg (by decide)]
      exact ⟨_, rfl, iteF (no (decide_eq_false fun h => c1 (by omega)))⟩
  · rintro σ Hx ⟨bx, hx, y, rfl⟩
    refine zz y Hx bx ?_
    rw [hx]
    congr 2
    exact tabV_congr fun i hi => by simp [hi]
/-- what the functions of rows.py ask of the texts and diffs -/
structure RowIn (K : PySem.W.Frag) (H : Hp) (x0 x1 x2 v1 v2 : V) (s0 s1 s2 : List Str) (ps qs : List (Nat × Nat)) : Prop where
  t0 : TxV K H x0 s0
  t1 : TxV K H x1 s1
  t2 : TxV K H x2 s2
  p : DfV K H v1 ps
  ip : IsDf s0 s1 ps
  q : DfV K H v2 qs
  iq : IsDf s0 s2 qs
  o1 : OkS s1
  o2 : OkS s2
theorem RowIn.same {K : PySem.W.Frag} {H H' : Hp} {x0 x1 x2 v1 v2 : V} {s0 s1 s2 : List Str} {ps qs : List (Nat × Nat)} (s : Same H H') (h : RowIn K H x0 x1 x2 v1 v2 s0 s1 s2 ps qs) : RowIn K H' x0 x1 x2 v1 v2 s0 s1 s2 ps qs :=
  ⟨h.t0.same s, h.t1.same s, h.t2.same s, h.p.same s, h.ip, h.q.same s, h.iq, h.o1, h.o2⟩
/-- the knots of two versions -/
abbrev knR (s0 s1 s2 : List Str) (ps qs : List (Nat × Nat)) : List (List Blk × List Blk) := knotsL (blocksL s0.length s1.length ps) (blocksL s0.length s2.length qs)
theorem told_len (S0 S1 : List Blk) : (told S0 S1).length = S0.length + S1.length := by
  unfold told
  rw [List.length_append, List.length_map, List.length_map]
structure KnFact (s0 s1 s2 : List Str) (k : List Blk × List Blk) : Prop where
  i1 : InTx k.1 s1
  i2 : InTx k.2 s2
  ne : k.1 ++ k.2 ≠ []
  len : (k.1 ++ k.2).length ≤ 1000
  l1 : k.1.length ≤ 100
  l2 : k.2.length ≤ 100
  lo : ∀ b ∈ k.1 ++ k.2, b.1 ≤ 100 ∧ b.2.1 ≤ 100
theorem RowIn.kn {K : PySem.W.Frag} {H : Hp} {x0 x1 x2 v1 v2 : V} {s0 s1 s2 : List Str} {ps qs : List (Nat × Nat)} (h : RowIn K H x0 x1 x2 v1 v2 s0 s1 s2 ps qs) (l0 : s0.length ≤ 40) : (knR s0 s1 s2 ps qs).length ≤ 100 ∧ ∀ k ∈ knR s0 s1 s2 ps qs, KnFact s0 s1 s2 k := by
  have b0 := blocks_count h.ip
  have b1 := blocks_count h.iq
  have e0 := df_len h.ip
  have e1 := df_len h.iq
  have tl := told_len (blocksL s0.length s1.length ps) (blocksL s0.length s2.length qs)
  have sp0 := blocks_spread h.ip
  have sp1 := blocks_spread h.iq
  refine ⟨Nat.le_trans (knots_count _ _) (by omega), fun k hk => ?_⟩
  obtain ⟨i1, i2, kne, n1, n2⟩ := knots_in hk
  refine ⟨fun b hb => ⟨(sp0.good b (i1 b hb)).2.1, (blocks_le h.ip (i1 b hb)).2.2.2⟩, fun b hb => ⟨(sp1.good b (i2 b hb)).2.1, (blocks_le h.iq (i2 b hb)).2.2.2⟩, kne, by rw [List.length_append]; omega, by omega, by omega, fun b hb => ?_⟩
  rcases List.mem_append.mp hb with q | q
  · have := blocks_le h.ip (i1 b q)
    omega
  · have := blocks_le h.iq (i2 b q)
    omega
def spFates (K : PySem.W.Frag) : Sp := fun vs H Q _ => ∃ (x0 x1 x2 v1 v2 : V) (s0 s1 s2 : List Str) (ps qs : List (Nat × Nat)), vs = [x0, x1, x2, v1, v2] ∧ RowIn K H x0 x1 x2 v1 v2 s0 s1 s2 ps qs ∧ s0.length ≤ 40 ∧
  ∀ l H', Same H H' → H l = none → H' l = some (.lst (tabV s0.length (fateF s1 s2 (knR s0 s1 s2 ps qs)))) → Q (.ref l) H'
end XR
namespace K62
open PySem L2 XR KT
section
variable {P : Program} {w : World} {K : PySem.W.Frag} {mg : Str → Option Value} {base : Heap}
abbrev sFates : Stmt := top 37
abbrev nFates : List Str := ["base", "one", "two", "diff_one", "diff_two", "knots", "fates", "knot", "first", "last", "fate", "i", "_"]
theorem scFates : FnScope nFates nVers (defScope sFates) := ⟨rfl, rfl, rfl, by decide +kernel, rfl, by decide +kernel, by decide +kernel⟩
theorem ok_fates {f fK fS fU : Addr} {fd fdK fdS fdU : FuncData} (F : Fun K "line_fates" "line_fates" sFates f fd) (T : Blt mg)
    (FK : Fun K "knots_of" "knots_of" sKnots fK fdK) (GK : FnOk P w K mg base CX0 7 fK fdK nVers (spKnots K)) (bK : Binds K fdK nVers []) (mK : mg "knots_of" = some (.ref fK))
    (FS : Fun K "stretch_of" "stretch_of" sStretch fS fdS) (GS : FnOk P w K mg base CX0 2 fS fdS ["knot"] (spStretch K)) (bS : Binds K fdS ["knot"] []) (mS : mg "stretch_of" = some (.ref fS))
    (FU : Fun K "kind_of" "kind_of" sKind fU fdU) (GU : FnOk P w K mg base CX0 2 fU fdU ["knot", "one", "two"] (spKind K)) (bU : Binds K fdU ["knot", "one", "two"] []) (mU : mg "kind_of" = some (.ref fU)) : FnOk P w K mg base CX0 8 f fd nVers (spFates K) := by
  refine F.ok scFates (fun vs H Q E h => ?_) (fun cdv A outer s H vs Q E hr h => ?_)
  · obtain ⟨x0, x1, x2, v1, v2, s0, s1, s2, ps, qs, rfl, _⟩ := h
    rfl
  · obtain ⟨x0, x1, x2, v1, v2, s0, s1, s2, ps, qs, rfl, R, l0, z⟩ := h
    have hr2 := hr.mono (show 2 ≤ 7 by decide)
    refine ⟨_, pss_cons (ps_set (i := 5) scFates.nd rfl (.inl rfl) (pe_call GK hr rfl mK FK.kp bK .nil pass0 (pa_cons (pv 0) (pa_cons (pv 1) (pa_cons (pv 2) (pa_cons (pv 3) (pa_cons (pv 4) pa_nil)))))))
      (pss_cons (ps_setLc (i := 6) (own := [("_", 12)]) (g := gName 12) (tt := tYes) (te := tC (.str "stands")) rfl scFates.nd rfl rfl (sw_true rfl rfl rfl (by decide +kernel)) (pi_orI (pi_list (pv 0)) (pi_tup (pv 0)))
        (blkOk_by (own := [("_", 12)]) (N := nFates) (sc := defScope sFates) (by decide +kernel)) (fun _ _ _ _ _ => pg_name (i := 12) scFates.nd rfl (.inl rfl)) (fun _ _ _ _ _ => pts_nil) (fun _ _ _ _ _ => pe_str))
      (pss_cons (ps_for PassesOwn.never rfl (pi_list (pv 5)) (pg_name (i := 7) scFates.nd rfl (.inl rfl))
        (pss_cons (ps_asg (pe_call GS hr2 rfl mS FS.kp bS .nil pass0 (pa_cons (pv 7) pa_nil)) (pg_tup rfl (pgs_cons (pg_name (i := 8) scFates.nd rfl (.inl rfl)) (pgs_cons (pg_name (i := 9) scFates.nd rfl (.inl rfl)) pgs_nil))))
        (pss_cons (ps_set (i := 10) scFates.nd rfl (.inl rfl) (pe_ifExp (pt_cmpR op_eq (pe_call GU hr2 rfl mU FU.kp bU .nil pass0 (pa_cons (pv 7) (pa_cons (pv 1) (pa_cons (pv 2) pa_nil)))) pe_str (nomark _)) pe_str pe_str))
        (pss_one (ps_for PassesOwn.never rfl (pi_range2 rfl T.range (pa_cons pe_int (pa_cons (pe_op op_add (pe_callB call_len_seq (by rfl) T.len PySem.boot_len (pa_cons (pv 0) pa_nil)) pe_int) pa_nil))) (pg_name (i := 11) scFates.nd rfl (.inl rfl))
          (pss_one (ps_if (pt_chain op_le op_le (pv 8) (pe_op op_sub (pe_op op_mul pe_int (pv 11)) pe_int) (pv 9)) (pss_one (ps_asg (pv 10) (pg_sub (pv 6) (pe_op op_sub (pv 11) pe_int) set_list))) pss_nil)))))))
      (pss_one (ps_ret (pv 6))))), ?_⟩
    obtain ⟨nks, kfact⟩ := R.kn l0
    have l1' := R.t1.len
    have l2' := R.t2.len
    refine ⟨_, rfl, _, rfl, _, rfl, _, rfl, _, rfl, x0, x1, x2, v1, v2, s0, s1, s2, ps, qs, rfl, R.t0, R.t1, R.t2, R.p, R.ip, R.q, R.iq, fun kl xs H1 h1 nk hk hxs => ?_⟩
    dsimp only [gName, tSeq, tAsg]
    have R1 := R.same h1
    obtain ⟨a0, rfl, ha0⟩ := R1.t0.a
    refine stands_read (K := K) (by rfl) R1.t0.a (by omega) fun D H2 h2 nD hD => ?_
    have h12 := h1.trans h2
    have hxs : DqAll K H1 xs ((knR s0 s1 s2 ps qs).map knD) := hxs
    generalize knR s0 s1 s2 ps qs = ks at hxs nks kfact z
    have kslen : xs.length = ks.length := by rw [hxs.length, List.length_map]
    refine ⟨_, rfl, kl, rfl, ⟨_, SqL.of (h2 _ _ hk)⟩, ?_⟩
    refine for_list (K := K) (a := kl) (xs := xs) (fun i σ H' => Same H1 H' ∧ H' D = some (.lst (tabV s0.length (fateF s1 s2 (ks.take i)))) ∧ ∃ y7 y8 y9 y10 y11 y12, σ = [some (V.ref a0), some x1, some x2, some v1, some v2, some (V.ref kl), some (V.ref D), y7, y8, y9, y10, y11, y12])
      ⟨h2, hD, _, _, _, _, _, _, rfl⟩ (fun i σ H' _ hh => SqL.of (hh.1 _ _ hk)) ?_ ?_
    · rintro i x σ Hx hx ⟨sx, hDx, y7, y8, y9, y10, y11, y12, rfl⟩
      obtain ⟨d, hd1, hd2⟩ := hxs.get hx
      rw [List.getElem?_map] at hd1
      obtain ⟨k, hki, rfl⟩ := Option.map_eq_some_iff.mp hd1
      have kf := kfact k (List.mem_of_getElem? hki)
      have tk : ∀ j, fateF s1 s2 (ks.take (i + 1)) j = if hitK k j = true then wordF s1 s2 k else fateF s1 s2 (ks.take i) j := fun j => by
        rw [List.take_add_one, hki]
        exact fateF_snoc _ _ _ _ _
      have h1x := h1.trans sx
      refine ⟨_, rfl, x, k, rfl, hd2.same sx, kf.ne, kf.len, kf.lo, fun t H3 s3 nt ht => ?_⟩
      refine ⟨t, _, rfl, SqT.of ht, rfl, _, _, rfl, _, _, rfl, rfl, ?_⟩
      have sx3 := sx.trans s3
      have h13 := h1x.trans s3
      have R3 := R.same h13
      refine ⟨_, rfl, _, rfl, _, rfl, x, x1, x2, k, s1, s2, rfl, hd2.same sx3, R3.t1.a, R3.t2.a, l1', l2', R.o1, R.o2, kf.i1, kf.i2, kf.len, fun H4 s4 => ⟨rfl, _, rfl, ?_⟩⟩
      have sx4 := sx3.trans s4
      have hD4 := s4 _ _ (s3 _ _ hDx)
      have h14 := h13.trans s4
      have ta0 : TxA K H4 (.ref a0) s0 := (R.same h14).t0.a
      have fin : ∀ (y : Option V) (wd : Str) (H' : Hp), wd = wordF s1 s2 k → But D H4 H' → H' D = some (.lst (tabV s0.length fun j => if hitK k j = true then wd else fateF s1 s2 (ks.take i) j)) →
          Same H1 H' ∧ H' D = some (.lst (tabV s0.length (fateF s1 s2 (ks.take (i + 1))))) := fun y wd H' ew b e => by
        refine ⟨fun q o h => b _ _ (sx4 _ _ h) (ne_of_none h nD), ?_⟩
        rw [e]
        congr 2
        refine tabV_congr fun j _ => ?_
        rw [tk, ew]
      by_cases ca : kindL k s1 s2 = "clash"
      · rw [decide_eq_true (show V.str (kindL k s1 s2) = V.str "clash" by rw [ca])]
        refine iteT ?_
        refine fate_read (K := K) (k := k) (wd := "clash") ta0 (by omega) hD4 fun y H' b e => ?_
        obtain ⟨q1, q2⟩ := fin y "clash" H' (by unfold wordF; rw [if_pos ca]) b e
        exact ⟨q1, q2, _, _, _, _, _, _, rfl⟩
      · rw [decide_eq_false (show ¬ V.str (kindL k s1 s2) = V.str "clash" from fun e => ca (by injection e))]
        refine iteF ?_
        refine fate_read (K := K) (k := k) (wd := "gone") ta0 (by omega) hD4 fun y H' b e => ?_
        obtain ⟨q1, q2⟩ := fin y "gone" H' (by unfold wordF; rw [if_neg ca]) b e
        exact ⟨q1, q2, _, _, _, _, _, _, rfl⟩
    rintro σ Hx ⟨sx, hDx, y7, y8, y9, y10, y11, y12, rfl⟩
    rw [kslen, List.take_length] at hDx
    exact ⟨_, rfl, z D Hx (h1.trans sx) (none_before h1 nD) hDx⟩
end
end K62
namespace XR
open PySem L2 KT
/-- the heap without lists and tables -/
def noL (H : Hp) : Hp := fun b => match H b with
  | some (.lst _) => none
  | some (.tbl _) => none
  | o => o
theorem noL_tup {H : Hp} {b : Addr} {xs : List V} (e : H b = some (.tup xs)) : noL H b = some (.tup xs) := by
  unfold noL
  rw [e]
theorem noL_some {H : Hp} {b : Addr} {o : HO} (e : noL H b = some o) : H b = some o ∧ (∀ xs, o ≠ .lst xs) ∧ ∀ ps, o ≠ .tbl ps := by
  unfold noL at e
  split at e
  · cases e
  · cases e
  · rename_i n1 n2
    exact ⟨e, fun xs c => n1 xs (by rw [e, c]), fun ps c => n2 ps (by rw [e, c])⟩
theorem noL_of {H : Hp} {b : Addr} {o : HO} (e : H b = some o) (n1 : ∀ xs, o ≠ .lst xs) (n2 : ∀ ps, o ≠ .tbl ps) : noL H b = some o := by
  unfold noL
  split
  · rename_i xs q
    rw [e] at q
    exact absurd (Option.some.inj q) (n1 xs)
  · rename_i ps q
    rw [e] at q
    exact absurd (Option.some.inj q) (n2 ps)
  · exact e
theorem noL_same {H H' : Hp} (s : Same H H') : Same (noL H) (noL H') := fun b o e => by
  obtain ⟨e1, n1, n2⟩ := noL_some e
  exact noL_of (s _ _ e1) n1 n2
theorem noL_le {H : Hp} : Same (noL H) H := fun b o e => (noL_some e).1
theorem noL_but {H H' : Hp} {T : Addr} {ps : Array Value} (h : H T = some (.tbl ps)) (s : ∀ b o, H b = some o → b ≠ T → H' b = some o) : Same (noL H) (noL H') := fun b o e => by
  obtain ⟨e1, n1, n2⟩ := noL_some e
  exact noL_of (s _ _ e1 fun c => by rw [c, h] at e1; exact n2 ps (Option.some.inj e1).symm) n1 n2
theorem noL_upd {H : Hp} {D : Addr} {xs ys : List V} (h : H D = some (.lst xs)) : noL (upd H D (.lst ys)) = noL H := by
  funext b
  unfold noL
  by_cases c : b = D
  · rw [c, upd_same, h]
  · rw [upd_ne c]
theorem noL_new {H : Hp} {D : Addr} {ys : List V} (h : H D = none) : noL (upd H D (.lst ys)) = noL H := by
  funext b
  unfold noL
  by_cases c : b = D
  · rw [c, upd_same, h]
  · rw [upd_ne c]
abbrev TokP := PyData × PyData
def tokD (t : TokP) : PyData := .tuple [t.1, t.2]
def loN (k : List Blk × List Blk) : Nat := (((k.1 ++ k.2).map fun b => b.1).min?).getD 0
def hiN (k : List Blk × List Blk) : Nat := (((k.1 ++ k.2).map fun b => b.2.1).max?).getD 0
theorem loN_of {k : List Blk × List Blk} {m : Int} (h : IsMin m ((k.1 ++ k.2).map fun b => (b.1 : Int))) : m = (loN k : Int) := by
  obtain ⟨h1, h2⟩ := h
  obtain ⟨b, hb, rfl⟩ := List.mem_map.mp h1
  have e : ((k.1 ++ k.2).map fun b => b.1).min? = some b.1 := List.min?_eq_some_iff.mpr ⟨List.mem_map.mpr ⟨b, hb, rfl⟩, fun x hx => by
    obtain ⟨c, hc, rfl⟩ := List.mem_map.mp hx
    have := h2 _ (List.mem_map.mpr ⟨c, hc, rfl⟩)
    omega⟩
  unfold loN
  rw [e]
  rfl
theorem hiN_of {k : List Blk × List Blk} {m : Int} (h : IsMax m ((k.1 ++ k.2).map fun b => (b.2.1 : Int))) : m = (hiN k : Int) := by
  obtain ⟨h1, h2⟩ := h
  obtain ⟨b, hb, rfl⟩ := List.mem_map.mp h1
  have e : ((k.1 ++ k.2).map fun b => b.2.1).max? = some b.2.1 := List.max?_eq_some_iff.mpr ⟨List.mem_map.mpr ⟨b, hb, rfl⟩, fun x hx => by
    obtain ⟨c, hc, rfl⟩ := List.mem_map.mp hx
    have := h2 _ (List.mem_map.mpr ⟨c, hc, rfl⟩)
    omega⟩
  unfold hiN
  rw [e]
  rfl
def strD (ss : List Str) : PyData := .tuple (ss.map .str)
def clashD (a b : Nat) (l1 l2 : List Str) : PyData := .tuple [.str "clash", .int (a : Int), .int (b : Int), strD l1, strD l2]
def lnTok (ss : List Str) (n : Int) (j : Nat) : TokP := (.str (ss.getD (j - 1) ""), .tuple [.int n, .int (j : Int)])
def bothTok (ss : List Str) (q : Nat × Nat) : TokP := (.str (ss.getD (q.1 - 1) ""), .tuple [.str "both", .int (q.1 : Int), .int (q.2 : Int)])
/-- the tokens of a knot with their origins -/
def tokK (s1 s2 : List Str) (ps qs : List (Nat × Nat)) (k : List Blk × List Blk) : List TokP :=
  if kindL k s1 s2 = "clash" then [(clashD (loN k) (hiN k) (withinL s1 ps k.1 (loN k) (hiN k)) (withinL s2 qs k.2 (loN k) (hiN k)), .none)]
  else if kindL k s1 s2 = "one" then (numsB k.1).map (lnTok s1 1) else if kindL k s1 s2 = "two" then (numsB k.2).map (lnTok s2 2)
  else if kindL k s1 s2 = "alike" then ((numsB k.1).zip (numsB k.2)).map (bothTok s1) else []
theorem tok_step {K : PySem.W.Frag} {H : Hp} {D t : Addr} {x y : V} {ds : List PyData} {xs : List V} {a b : PyData} {acc : List V} (hD : H D = some (.lst xs)) (hds : DqAll K (noL H) xs ds) (nt : H t = none) (hx : Dq K (noL (upd H t (.tup [x, y]))) x a) (hy : Dq K (noL (upd H t (.tup [x, y]))) y b) :
    DqAll K (noL (upd (upd H t (.tup [x, y])) D (.lst acc))) (xs ++ [.ref t]) (ds ++ [.tuple [a, b]]) := by
  rw [noL_upd (same_upd nt _ _ hD)]
  exact (hds.same (noL_same (same_upd nt))).append (.cons (.tup (SqT.of (noL_tup upd_same)) (.cons hx (.cons hy .nil))) .nil)
def spTokK (K : PySem.W.Frag) : Sp := fun vs H Q _ => ∃ (y x0 x1 x2 v1 v2 : V) (s0 s1 s2 : List Str) (ps qs : List (Nat × Nat)) (k : List Blk × List Blk), vs = [y, x0, x1, x2, v1, v2] ∧ RowIn K H x0 x1 x2 v1 v2 s0 s1 s2 ps qs ∧ s0.length ≤ 40 ∧ Dq K H y (knD k) ∧ KnFact s0 s1 s2 k ∧
  ∀ l H' xs, Same H H' → H l = none → H' l = some (.lst xs) → DqAll K (noL H') xs ((tokK s1 s2 ps qs k).map tokD) → Q (.ref l) H'
/-- lines that come, with their origins -/
theorem lines_read {K : PySem.W.Frag} {H : Hp} {Q : VK} {σ : St} {x y : V} {ss : List Str} {ti i0 sl : Nat} {n : Int} {bs : List Blk} {k : List Blk × List Blk} (ek : σ[0]? = some (some y)) (ex : σ[ti]? = some (some x)) (et : ∀ z, ((wipe σ [sl]).set sl z)[ti]? = some (some x)) (es : ∀ z, ((wipe σ [sl]).set sl (some z))[sl]? = some (some z))
    (hy : Dq K H y (knD k)) (hk : (i0 = 0 ∧ bs = k.1) ∨ (i0 = 1 ∧ bs = k.2)) (ht : TxA K H x ss) (hbs : ∀ b ∈ bs, b.2.2.1 ≤ b.2.2.2 ∧ b.2.2.2 ≤ ss.length) (l60 : ss.length ≤ 60) (lbs : bs.length ≤ 100)
    (z : ∀ D H' xs, Same H H' → H D = none → H' D = some (.lst xs) → DqAll K (noL H') xs (((numsB bs).map (lnTok ss n)).map tokD) → Q (.ref D) H') :
    tLc (iList K (tCall (spNCome K) [] E0 (tCons (tOp (rIxT K) (tVar 0) (tC (.int (i0 : Int)))) tNil))) (gName sl) tYes
      (tTup (tCons (tOp (rIx K) (tVar ti) (tOp (rI0 fun i j => V.int (i - j)) (tVar sl) (tC (V.int 1)))) (tCons (tTup (tCons (tC (.int n)) (tCons (tVar sl) tNil))) tNil))) [sl] σ H Q := by
  obtain ⟨r, y0, y1, rfl, hr1, d0, d1⟩ := knD_of hy
  obtain ⟨yy, hyy, dyy⟩ : ∃ yy, [y0, y1][i0]? = some yy ∧ Dq K H yy (.tuple (bs.map blkD)) := by
    rcases hk with ⟨rfl, rfl⟩ | ⟨rfl, rfl⟩
    · exact ⟨y0, rfl, d0⟩
    · exact ⟨y1, rfl, d1⟩
  refine ⟨_, ek, r, _, _, _, rfl, rfl, hr1, atI_nat (j := i0) hyy, yy, bs, rfl, dyy, fun b hb => ⟨(hbs b hb).1, Nat.le_trans (hbs b hb).2 l60⟩, lbs, fun l H1 s1 nl hl => ⟨l, rfl, ⟨_, SqL.of hl⟩, fun D nD => ?_⟩⟩
  have cap : (numsB bs).length ≤ 6000 := by
    refine Nat.le_trans (numsB_len (m := 60) fun b hb => Nat.le_trans (hbs b hb).2 l60) ?_
    omega
  refine lc_list (K := K) (a := l) (xs := intsV (numsB bs)) (fun i H' => Same H1 H' ∧ ∃ xs, H' D = some (.lst xs) ∧ DqAll K (noL H') xs ((((numsB bs).take i).map (lnTok ss n)).map tokD)) ⟨same_upd nD, [], upd_same, .nil⟩ (fun i H' _ hh => SqL.of (hh.1 _ _ hl)) ?_ ?_
  · rintro i x' Hx hi ⟨sx, xs, hD, hds⟩
    obtain ⟨j, rfl, hj⟩ : ∃ j : Nat, x' = V.int (j : Int) ∧ (numsB bs)[i]? = some j := by
      unfold intsV at hi
      rw [List.getElem?_map] at hi
      obtain ⟨j, e1, e2⟩ := Option.map_eq_some_iff.mp hi
      exact ⟨j, e2.symm, e1⟩
    obtain ⟨b, hb, hjb⟩ := List.mem_flatMap.mp (List.mem_of_getElem? hj)
    have := numB_mem.mp hjb
    have := hbs b hb
    have hlt : j - 1 < ss.length := by omega
    refine ⟨wipe_one, ?_⟩
    unfold tYes
    dsimp only
    rw [if_pos rfl]
    refine ⟨_, et _, _, es _, _, _, rfl, rfl, ?_⟩
    refine ((ht.same s1).same sx).ix (i := j - 1) (List.getElem?_eq_getElem hlt) (by omega) ?_
    refine ⟨_, es _, ll20 (by show 2 ≤ 20; decide), fun u nu => ?_⟩
    have su := same_upd (o := .tup [V.int n, V.int (j : Int)]) nu
    have hu := upd_same (H := Hx) (a := u) (o := .tup [V.int n, V.int (j : Int)])
    generalize upd Hx u (.tup [V.int n, V.int (j : Int)]) = Hy at su hu ⊢
    have hDy := su _ _ hD
    have uD : u ≠ D := (ne_of_none hD nu).symm
    refine ⟨ll20 (by show 2 ≤ 20; decide), fun t nt => ?_⟩
    have st := same_upd (o := .tup [V.str ss[j - 1], V.ref u]) nt
    have lx := hds.length
    rw [List.length_map, List.length_map, List.length_take] at lx
    refine ⟨_, st _ _ hDy, ?_, fun b' o' h => ?_, xs ++ [V.ref t], upd_same, ?_⟩
    · exact Nat.lt_of_le_of_lt (show _ ≤ 6000 by omega) (by decide)
    · rw [upd_ne (ne_of_none h nD)]
      exact st _ _ (su _ _ (sx _ _ h))
    · rw [List.take_add_one, hj, List.map_append, List.map_append]
      refine tok_step hDy (hds.same (noL_same su)) nt ?_ (.tup (SqT.of (noL_tup (st _ _ hu))) (.cons (.int _) (.cons (.int _) .nil)))
      rw [show ss[j - 1] = ss.getD (j - 1) "" by rw [List.getD_eq_getElem?_getD, List.getElem?_eq_getElem hlt]; rfl]
      exact .str _
  rintro H2 ⟨s2, xs, hD, hds⟩
  rw [show (intsV (numsB bs)).length = (numsB bs).length from List.length_map .., List.take_length] at hds
  exact z D H2 xs (s1.trans s2) (none_before s1 nD) hD hds
end XR
namespace K62
open PySem L2 XR KT
section
variable {P : Program} {w : World} {K : PySem.W.Frag} {mg : Str → Option Value} {base : Heap}
abbrev sTokK : Stmt := top 34
abbrev pTokK : List Str := ["knot", "base", "one", "two", "diff_one", "diff_two"]
abbrev nTokK : List Str := ["knot", "base", "one", "two", "diff_one", "diff_two", "kind", "a", "b", "lines_one", "j", "k"]
theorem scTokK : FnScope nTokK pTokK (defScope sTokK) := ⟨rfl, rfl, rfl, by decide +kernel, rfl, by decide +kernel, by decide +kernel⟩
abbrev tLine (K : PySem.W.Frag) (ti : Nat) (n : Int) (sl : Nat) : TE := tTup (tCons (tOp (rIx K) (tVar ti) (tOp (rI0 fun i j => V.int (i - j)) (tVar sl) (tC (V.int 1)))) (tCons (tTup (tCons (tC (.int n)) (tCons (tVar sl) tNil))) tNil))
theorem ok_tokK {f fU fO fW fN : Addr} {fd fdU fdO fdW fdN : FuncData} (F : Fun K "tokens_of_knot" "tokens_of_knot" sTokK f fd) (T : Blt mg)
    (FU : Fun K "kind_of" "kind_of" sKind fU fdU) (GU : FnOk P w K mg base CX0 2 fU fdU ["knot", "one", "two"] (spKind K)) (bU : Binds K fdU ["knot", "one", "two"] []) (mU : mg "kind_of" = some (.ref fU))
    (FO : Fun K "bounds_of" "bounds_of" sBounds fO fdO) (GO : FnOk P w K mg base CX0 1 fO fdO ["knot"] (spBounds K)) (bO : Binds K fdO ["knot"] []) (mO : mg "bounds_of" = some (.ref fO))
    (FW : Fun K "lines_within" "lines_within" sLW fW fdW) (GW : FnOk P w K mg base CX0 2 fW fdW ["text", "diff", "blocks", "a", "b"] (spLWithin K)) (bW : Binds K fdW ["text", "diff", "blocks", "a", "b"] []) (mW : mg "lines_within" = some (.ref fW))
    (FN : Fun K "numbers_come" "numbers_come" sNCome fN fdN) (GN : FnOk P w K mg base CX0 1 fN fdN ["blocks"] (spNCome K)) (bN : Binds K fdN ["blocks"] []) (mN : mg "numbers_come" = some (.ref fN)) : FnOk P w K mg base CX0 3 f fd pTokK (spTokK K) := by
  refine F.ok scTokK (fun vs H Q E h => ?_) (fun cdv A outer s H vs Q E hr h => ?_)
  · obtain ⟨y, x0, x1, x2, v1, v2, s0, s1, s2, ps, qs, k, rfl, _⟩ := h
    rfl
  · obtain ⟨y, x0, x1, x2, v1, v2, s0, s1, s2, ps, qs, k, rfl, R, l0, hy, kf, z⟩ := h
    have hr1 := hr.mono (show 1 ≤ 2 by decide)
    refine ⟨_, pss_cons (ps_set (i := 6) scTokK.nd rfl (.inl rfl) (pe_call GU hr rfl mU FU.kp bU .nil pass0 (pa_cons (pv 0) (pa_cons (pv 2) (pa_cons (pv 3) pa_nil)))))
      (pss_cons (ps_if (pt_cmpR op_eq (pv 6) pe_str (nomark _))
        (pss_cons (ps_asg (pe_call GO hr1 rfl mO FO.kp bO .nil pass0 (pa_cons (pv 0) pa_nil)) (pg_tup rfl (pgs_cons (pg_name (i := 7) scTokK.nd rfl (.inl rfl)) (pgs_cons (pg_name (i := 8) scTokK.nd rfl (.inl rfl)) pgs_nil))))
        (pss_cons (ps_set (i := 9) scTokK.nd rfl (.inl rfl) (pe_call GW hr rfl mW FW.kp bW .nil pass0 (pa_cons (pv 2) (pa_cons (pv 4) (pa_cons (pe_ix ix_tup (pv 0) pe_int (fun _ _ => rfl)) (pa_cons (pv 7) (pa_cons (pv 8) pa_nil)))))))
        (pss_one (ps_ret (pe_lst (pa_cons (pe_tup (pa_cons (pe_tup (pa_cons pe_str (pa_cons (pv 7) (pa_cons (pv 8) (pa_cons (pv 9) (pa_cons (pe_call GW hr rfl mW FW.kp bW .nil pass0 (pa_cons (pv 3) (pa_cons (pv 5) (pa_cons (pe_ix ix_tup (pv 0) pe_int (fun _ _ => rfl)) (pa_cons (pv 7) (pa_cons (pv 8) pa_nil)))))) pa_nil)))))) (pa_cons pe_non pa_nil))) pa_nil)))))) pss_nil)
      (pss_cons (ps_if (pt_cmpR op_eq (pv 6) pe_str (nomark _)) (pss_one (ps_ret (pe_lc (own := [("j", 10)]) (g := gName 10) (tt := tYes) (te := tLine K 2 1 10) rfl scTokK.nd (pi_list (pe_call GN hr1 rfl mN FN.kp bN .nil pass0 (pa_cons (pe_ix ix_tup (pv 0) pe_int (fun _ _ => rfl)) pa_nil)))
          (blkOk_by (own := [("j", 10)]) (N := nTokK) (sc := defScope sTokK) (by decide +kernel)) (fun _ _ _ _ _ => pg_name (i := 10) scTokK.nd rfl (.inl rfl)) (fun _ _ _ _ _ => pts_nil) (fun _ _ _ _ _ => pe_tup (pa_cons (pe_ix ix_seq (pv 2) (pe_op op_sub (pv 10) pe_int) (fun _ _ => rfl)) (pa_cons (pe_tup (pa_cons pe_int (pa_cons (pv 10) pa_nil))) pa_nil)))))) pss_nil)
      (pss_cons (ps_if (pt_cmpR op_eq (pv 6) pe_str (nomark _)) (pss_one (ps_ret (pe_lc (own := [("k", 11)]) (g := gName 11) (tt := tYes) (te := tLine K 3 2 11) rfl scTokK.nd (pi_list (pe_call GN hr1 rfl mN FN.kp bN .nil pass0 (pa_cons (pe_ix ix_tup (pv 0) pe_int (fun _ _ => rfl)) pa_nil)))
          (blkOk_by (own := [("k", 11)]) (N := nTokK) (sc := defScope sTokK) (by decide +kernel)) (fun _ _ _ _ _ => pg_name (i := 11) scTokK.nd rfl (.inl rfl)) (fun _ _ _ _ _ => pts_nil) (fun _ _ _ _ _ => pe_tup (pa_cons (pe_ix ix_seq (pv 3) (pe_op op_sub (pv 11) pe_int) (fun _ _ => rfl)) (pa_cons (pe_tup (pa_cons pe_int (pa_cons (pv 11) pa_nil))) pa_nil)))))) pss_nil)
      (pss_cons (ps_if (pt_cmpR op_eq (pv 6) pe_str (nomark _)) (pss_one (ps_ret (pe_lc (own := [("j", 10), ("k", 11)]) (g := gTup K 2 (gCons (gName 10) (gCons (gName 11) gNil))) (tt := tYes)
          (te := tTup (tCons (tOp (rIx K) (tVar 2) (tOp (rI0 fun i j => V.int (i - j)) (tVar 10) (tC (V.int 1)))) (tCons (tTup (tCons (tC (.str "both")) (tCons (tVar 10) (tCons (tVar 11) tNil)))) tNil))) rfl scTokK.nd
          (pi_zipW rfl (T.all "zip" (by decide)) (pa_cons (pe_call GN hr1 rfl mN FN.kp bN .nil pass0 (pa_cons (pe_ix ix_tup (pv 0) pe_int (fun _ _ => rfl)) pa_nil)) (pa_cons (pe_call GN hr1 rfl mN FN.kp bN .nil pass0 (pa_cons (pe_ix ix_tup (pv 0) pe_int (fun _ _ => rfl)) pa_nil)) pa_nil)))
          (blkOk_by (own := [("j", 10), ("k", 11)]) (N := nTokK) (sc := defScope sTokK) (by decide +kernel)) (fun _ _ _ _ _ => pg_tup rfl (pgs_cons (pg_name (i := 10) scTokK.nd rfl (.inl rfl)) (pgs_cons (pg_name (i := 11) scTokK.nd rfl (.inl rfl)) pgs_nil))) (fun _ _ _ _ _ => pts_nil)
          (fun _ _ _ _ _ => pe_tup (pa_cons (pe_ix ix_seq (pv 2) (pe_op op_sub (pv 10) pe_int) (fun _ _ => rfl)) (pa_cons (pe_tup (pa_cons pe_str (pa_cons (pv 10) (pa_cons (pv 11) pa_nil)))) pa_nil)))))) pss_nil)
      (pss_one (ps_ret (pe_lst pa_nil))))))), ?_⟩
    have l1' := R.t1.len
    have l2' := R.t2.len
    have kfl : (k.1 ++ k.2).length ≤ 1000 := kf.len
    refine ⟨_, rfl, _, rfl, _, rfl, y, x1, x2, k, s1, s2, rfl, hy, R.t1.a, R.t2.a, l1', l2', R.o1, R.o2, kf.i1, kf.i2, kf.len, fun H1 h1 => ?_⟩
    have R1 := R.same h1
    have hy1 := hy.same h1
    have str_ne : ∀ {a b : Str}, a ≠ b → decide (V.str a = V.str b) = false := fun n => decide_eq_false fun e => n (by injection e)
    refine ⟨_, rfl, rfl, _, rfl, ?_⟩
    by_cases c1 : kindL k s1 s2 = "clash"
    · rw [c1, decide_eq_true rfl]
      refine iteT ⟨_, rfl, y, k, rfl, hy1, kf.ne, kf.len, fun m1 m2 t H2 h2 nt mn mx ht => ?_⟩
      cases loN_of mn
      cases hiN_of mx
      obtain ⟨r, y0, y1, rfl, hr0, d0, d1⟩ := knD_of hy1
      have R2 := R1.same h2
      refine ⟨t, _, rfl, SqT.of ht, rfl, _, _, rfl, _, _, rfl, rfl, ?_⟩
      have hr2 := XR.Same.tup h2 hr0
      refine ⟨_, rfl, _, rfl, _, rfl, r, _, _, _, rfl, rfl, hr2, atI_nat (j := 0) rfl, _, rfl, _, rfl, x1, v1, y0, s0, s1, ps, k.1, loN k, hiN k, rfl, R2.t1.a, R2.p, R.ip, d0.same h2, kf.i1, l1', ?_, kf.l1, fun t1 H3 h3 nt1 ht1 => ?_⟩
      · have := df_len R.ip
        omega
      have h23 := h2.trans h3
      have R3 := R1.same h23
      refine ⟨_, rfl, _, rfl, _, rfl, _, rfl, _, rfl, _, rfl, r, _, _, _, rfl, rfl, XR.Same.tup h3 hr2, atI_nat (j := 1) rfl, _, rfl, _, rfl, x2, v2, y1, s0, s2, qs, k.2, loN k, hiN k, rfl, R3.t2.a, R3.q, R.iq, d1.same h23, kf.i2, l2', ?_, kf.l2, fun t2 H4 h4 nt2 ht2 => ?_⟩
      · have := df_len R.iq
        omega
      have ht1' := h4 _ _ ht1
      refine ⟨ll20 (by show 5 ≤ 20; decide), fun u nu => ?_⟩
      have su := same_upd (o := .tup [V.str "clash", V.int (loN k), V.int (hiN k), V.ref t1, V.ref t2]) nu
      have hu := upd_same (H := H4) (a := u) (o := .tup [V.str "clash", V.int (loN k), V.int (hiN k), V.ref t1, V.ref t2])
      generalize upd H4 u (.tup [V.str "clash", V.int (loN k), V.int (hiN k), V.ref t1, V.ref t2]) = H5 at su hu ⊢
      have ht1'' := su _ _ ht1'
      have ht2'' := su _ _ ht2
      refine ⟨ll20 (by show 2 ≤ 20; decide), fun q nq => ?_⟩
      have sq := same_upd (o := .tup [V.ref u, V.non]) nq
      have hq := upd_same (H := H5) (a := q) (o := .tup [V.ref u, V.non])
      generalize upd H5 q (.tup [V.ref u, V.non]) = H6 at sq hq ⊢
      refine ⟨ll20 (by show 1 ≤ 20; decide), fun l nl => ?_⟩
      have h16 := (((h1.trans h23).trans h4).trans su).trans sq
      refine z l _ _ (h16.trans (same_upd nl)) (none_before h16 nl) upd_same ?_
      rw [noL_new nl]
      have ne : ∀ {b : Addr} {o : HO}, H6 b = some o → b ≠ l := fun {b o} e c => by rw [c, nl] at e; cases e
      have e1 := sq _ _ ht1''
      have e2 := sq _ _ ht2''
      have e3 := sq _ _ hu
      unfold tokK
      rw [if_pos c1]
      refine .cons (.tup (SqT.of (noL_tup hq)) (.cons (.tup (SqT.of (noL_tup e3)) (.cons (.str _) (.cons (.int _) (.cons (.int _) (.cons (.tup (SqT.of (noL_tup e1)) (dqStrs _)) (.cons (.tup (SqT.of (noL_tup e2)) (dqStrs _)) .nil)))))) (.cons .non .nil))) .nil
    rw [str_ne c1]
    refine iteF ⟨_, rfl, rfl, _, rfl, ?_⟩
    by_cases c2 : kindL k s1 s2 = "one"
    · rw [c2, decide_eq_true rfl]
      refine iteT ?_
      refine lines_read (K := K) (i0 := 0) (by rfl) (by rfl) (fun _ => by rfl) (fun _ => by rfl) hy1 (.inl ⟨rfl, rfl⟩) R1.t1.a kf.i1 l1' kf.l1 fun D H2 xs h2 nD hD hds => ?_
      refine z D H2 xs (h1.trans h2) (none_before h1 nD) hD ?_
      unfold tokK
      rw [if_neg c1, if_pos c2]
      exact hds
    rw [str_ne c2]
    refine iteF ⟨_, rfl, rfl, _, rfl, ?_⟩
    by_cases c3 : kindL k s1 s2 = "two"
    · rw [c3, decide_eq_true rfl]
      refine iteT ?_
      refine lines_read (K := K) (i0 := 1) (by rfl) (by rfl) (fun _ => by rfl) (fun _ => by rfl) hy1 (.inr ⟨rfl, rfl⟩) R1.t2.a kf.i2 l2' kf.l2 fun D H2 xs h2 nD hD hds => ?_
      refine z D H2 xs (h1.trans h2) (none_before h1 nD) hD ?_
      unfold tokK
      rw [if_neg c1, if_neg c2, if_pos c3]
      exact hds
    rw [str_ne c3]
    refine iteF ⟨_, rfl, rfl, _, rfl, ?_⟩
    by_cases c4 : kindL k s1 s2 = "alike"
    · rw [c4, decide_eq_true rfl]
      refine iteT ?_
      obtain ⟨r, y0, y1, rfl, hr0, d0, d1⟩ := knD_of hy1
      refine ⟨_, rfl, r, _, _, _, rfl, rfl, hr0, atI_nat (j := 0) rfl, y0, k.1, rfl, d0, fun b hb => ⟨(kf.i1 b hb).1, Nat.le_trans (kf.i1 b hb).2 l1'⟩, kf.l1, fun la H2 h2 na hla => ?_⟩
      refine ⟨_, rfl, r, _, _, _, rfl, rfl, XR.Same.tup h2 hr0, atI_nat (j := 1) rfl, y1, k.2, rfl, d1.same h2, fun b hb => ⟨(kf.i2 b hb).1, Nat.le_trans (kf.i2 b hb).2 l2'⟩, kf.l2, fun lb H3 h3 nb hlb => ?_⟩
      have hla3 := h3 _ _ hla
      have h13 := (h1.trans h2).trans h3
      have cap : (numsB k.1).length ≤ 6000 := by
        refine Nat.le_trans (numsB_len (m := 60) fun b hb => Nat.le_trans (kf.i1 b hb).2 l1') ?_
        have := kf.l1
        omega
      refine ⟨la, lb, _, _, true, true, rfl, SqL.of hla3, SqL.of hlb, fun D nD => ?_⟩
      refine lc_it (walk_zipW (xs := intsV (numsB k.1)) (ys := intsV (numsB k.2)) rfl) (fun i H' => Same H3 H' ∧ ∃ xs, H' D = some (.lst xs) ∧ DqAll K (noL H') xs (((((numsB k.1).zip (numsB k.2)).take i).map (bothTok s1)).map tokD)) ⟨same_upd nD, [], upd_same, .nil⟩ (fun i H' _ hh => ⟨SqL.of (hh.1 _ _ hla3), SqL.of (hh.1 _ _ hlb)⟩) ?_ ?_
      · rintro i x' Hx Hx2 hi ⟨sx, xs, hD, hds⟩ ⟨t, w1, w2, rfl, nt, rfl, e1, e2⟩
        have rd : ∀ {ns : List Nat} {v : V}, (intsV ns)[i]? = some v → ∃ j : Nat, v = V.int (j : Int) ∧ ns[i]? = some j := fun {ns v} e => by
          unfold intsV at e
          rw [List.getElem?_map] at e
          obtain ⟨j, q1, q2⟩ := Option.map_eq_some_iff.mp e
          exact ⟨j, q2.symm, q1⟩
        obtain ⟨j, rfl, hj⟩ := rd e1
        obtain ⟨l', rfl, hl'⟩ := rd e2
        have hz : ((numsB k.1).zip (numsB k.2))[i]? = some (j, l') := List.getElem?_zip_eq_some.mpr ⟨hj, hl'⟩
        obtain ⟨b, hb, hjb⟩ := List.mem_flatMap.mp (List.mem_of_getElem? hj)
        have := numB_mem.mp hjb
        have := kf.i1 b hb
        have hlt : j - 1 < s1.length := by omega
        have st0 := same_upd (o := .tup [V.int (j : Int), V.int (l' : Int)]) nt
        have ht0 := upd_same (H := Hx) (a := t) (o := .tup [V.int (j : Int), V.int (l' : Int)])
        generalize upd Hx t (.tup [V.int (j : Int), V.int (l' : Int)]) = Hw at st0 ht0 ⊢
        refine ⟨t, _, rfl, SqT.of ht0, rfl, _, _, rfl, _, _, rfl, rfl, rfl, ?_⟩
        unfold tYes
        dsimp only
        rw [if_pos rfl]
        refine ⟨_, rfl, _, rfl, _, _, rfl, rfl, ?_⟩
        refine ((R1.t1.a.same ((h2.trans h3).trans sx)).same st0).ix (i := j - 1) (List.getElem?_eq_getElem hlt) (by omega) ?_
        refine ⟨_, rfl, _, rfl, ll20 (by show 3 ≤ 20; decide), fun u nu => ?_⟩
        have su := same_upd (o := .tup [V.str "both", V.int (j : Int), V.int (l' : Int)]) nu
        have hu := upd_same (H := Hw) (a := u) (o := .tup [V.str "both", V.int (j : Int), V.int (l' : Int)])
        generalize upd Hw u (.tup [V.str "both", V.int (j : Int), V.int (l' : Int)]) = Hy at su hu ⊢
        have hDy := su _ _ (st0 _ _ hD)
        have uD : u ≠ D := (ne_of_none (st0 _ _ hD) nu).symm
        refine ⟨ll20 (by show 2 ≤ 20; decide), fun p np => ?_⟩
        have sp := same_upd (o := .tup [V.str s1[j - 1], V.ref u]) np
        have lx := hds.length
        rw [List.length_map, List.length_map, List.length_take, List.length_zip] at lx
        refine ⟨_, sp _ _ hDy, ?_, fun b' o' h => ?_, xs ++ [V.ref p], upd_same, ?_⟩
        · exact Nat.lt_of_le_of_lt (show _ ≤ 6000 by omega) (by decide)
        · rw [upd_ne (ne_of_none h nD)]
          exact sp _ _ (su _ _ (st0 _ _ (sx _ _ h)))
        · rw [List.take_add_one, hz, List.map_append, List.map_append]
          refine tok_step hDy (hds.same (noL_same (st0.trans su))) np ?_ (.tup (SqT.of (noL_tup (sp _ _ hu))) (.cons (.str _) (.cons (.int _) (.cons (.int _) .nil))))
          rw [show s1[j - 1] = s1.getD (j - 1) "" by rw [List.getD_eq_getElem?_getD, List.getElem?_eq_getElem hlt]; rfl]
          exact .str _
      rintro H4 ⟨s4, xs, hD, hds⟩
      refine z D H4 xs (h13.trans s4) (none_before h13 nD) hD ?_
      rw [show min (intsV (numsB k.1)).length (intsV (numsB k.2)).length = ((numsB k.1).zip (numsB k.2)).length by unfold intsV; rw [List.length_map, List.length_map, List.length_zip], List.take_length] at hds
      unfold tokK
      rw [if_neg c1, if_neg c2, if_neg c3, if_pos c4]
      exact hds
    rw [str_ne c4]
    refine iteF ⟨ll20 (by show 0 ≤ 20; decide), fun l nl => ?_⟩
    refine z l _ _ (h1.trans (same_upd nl)) (none_before h1 nl) upd_same ?_
    unfold tokK
    rw [if_neg c1, if_neg c2, if_neg c3, if_neg c4]
    exact .nil
end
end K62
/-! A lambda with parameters as a value: its object told in the abstract heap, its making, its call. -/
namespace XR
open PySem PySem.Spec PySem.W L2
open PyProof.Rows hiding St
/-- a lambda without captured names: its words and its code object -/
structure LamD where
  (qual : Str) (params : Arguments) (body : Expr) (scope : Scope)
abbrev LamD.fd (L : LamD) (c : Addr) (pm ctv : Value) : FuncData := kla_fn "<lambda>" L.qual L.params L.body L.scope [] pm (.ref c) ctv
def LamO (f : Addr) (L : LamD) (c : Addr) : HO := .ext fun h => ∃ (od : Option Addr) (sl : Array (Option Value)) (pm ctv : Value), h.get? f = some (⟨.type "function", od, .func (L.fd c pm ctv), sl⟩ : Obj)
theorem lamO_ne {f c : Addr} {L : LamD} {H : Hp} {p : Addr} {ps : Array Value} (h : H f = some (LamO f L c)) (t : H p = some (.tbl ps)) : f ≠ p := fun e => by
  rw [e, t] at h
  unfold LamO at h
  cases h
section
variable {X : Cx} {pins : List (Addr × Obj)} {σ : L2.St} {H : Hp} {s : Shared}
theorem lam_known {f c : Addr} {L : LamD} {pm ctv : Value} {t' : Nat} {h1 : Heap} (I : Inv X pins σ H s) (kp : ∀ b u, s.heap.get? b = some u → h1.get? b = some u) (hf : s.heap.objs.size ≤ f) (ho : h1.get? f = some (⟨.type "function", none, .func (L.fd c pm ctv), #[]⟩ : Obj)) :
    Inv X pins σ (upd H f (LamO f L c)) { s with heap := h1, toks := t' } :=
  I.laid kp hf ⟨⟨none, #[], pm, ctv, ho⟩, ⟨_, ho⟩, fun _ _ ⟨od, sl, a, b, z⟩ st => ⟨od, sl, a, b, st _ z⟩⟩
/-- the making of a lambda: all but the table at T is kept -/
theorem lam_new {T c : Addr} {L : LamD} {pos : Pos} {E : Value → Shared → Prop} {Q : Value → Shared → Prop} (I : Inv X pins σ H s) (TB : LamX.TabB X.base X.mg c T) (hcode : X.env.code = .ref c) (hq : L.qual = X.env.qual ++ "<lambda>") (hT : LamX.TabS H T L.qual)
    (hd : defaultsOf L.params X.env = ([], [])) (hfree : ∀ y ∈ L.scope.names, y.2 ≠ .free) (hcl : cloFrom X.env.cells L.scope.names [] = [])
    (h : ∀ (f c' : Addr) (H1 : Hp) (s' : Shared), Inv X pins σ H1 s' → (∀ b o, H b = some o → b ≠ T → H1 b = some o) → LamX.TabS H1 T L.qual → H f = none → H1 f = some (LamO f L c') → H1 c' = some (LamX.CodeO c' L.qual) → Q (.ref f) s') :
    wpAny (model X.prog X.w) X.A (eval (.Lambda L.params L.body L.scope pos) X.env) Q E s := by
  obtain ⟨ps, tT, tok, tin⟩ := id hT
  have gT := I.hok T _ tT
  have bT := TB.bm.keeps I.bk
  have cl : closureFor L.scope X.env = pure [] := by
    rw [← hcl]
    exact closure_ok fun y hy e => absurd e (hfree y hy)
  refine kla_eval hd ?_
  rw [← hq]
  cases hc : codeAmong pos ps.toList with
  | some cv =>
    obtain ⟨c', rfl, hco⟩ := tin pos cv hc
    refine kla_makeFunctionHit (mg := X.mg) (c := c) (P := T) (ps := ps) cl I.ok.glob (I.mod.glob.keeps I.bk) hcode (TB.code.keeps I.bk) gT tok hc bT fun ctv h1 tk kp sz => ?_
    have nf := I.hok.fresh sz
    have J := lam_known (L := L) (c := c') (t' := tk) (pm := (X.mg "__name__").getD .none) (ctv := ctv) I (fun b u e => Heap.get?_push_of_some _ (kp b u e)) sz (Heap.get?_push_size _ rfl)
    have old : ∀ b o, H b = some o → upd H h1.objs.size (LamO h1.objs.size L c') b = some o := fun b o e => by rw [upd_ne (ne_of_none e nf)]; exact e
    exact h _ c' _ _ J (fun b o e _ => old b o e) (hT.ext old) nf upd_same (old _ _ hco)
  | none =>
    refine kla_makeFunction (mg := X.mg) (c := c) (P := T) (ps := ps) cl I.ok.glob (I.mod.glob.keeps I.bk) hcode (TB.code.keeps I.bk) gT tok hc TB.gP bT fun c' ctv h1 tk kp ge lt rec tab => ?_
    obtain ⟨c2, oc, vs, t, ec, hoc, hd2, hv⟩ := rec
    obtain rfl : c' = c2 := Value.ref.inj ec
    have nc := I.hok.fresh ge
    have J1 := LamX.inv_table (t' := tk) (q := L.qual) (more := #[rawInt pos.line, rawInt pos.col, .ref c']) (h' := h1) I tT (fun b o n e => kp b o n e) tab ge ⟨oc, vs, t, hoc, hd2, hv⟩
    have sz : s.heap.objs.size ≤ h1.objs.size := Nat.le_trans ge (Nat.le_of_lt lt)
    have nf : upd (upd H T (.tbl (ps ++ #[rawInt pos.line, rawInt pos.col, .ref c']))) c' (LamX.CodeO c' L.qual) h1.objs.size = none := J1.hok.fresh (Nat.le_refl _)
    have J := lam_known (L := L) (c := c') (t' := tk) (pm := (X.mg "__name__").getD .none) (ctv := ctv) J1 (fun b u e => Heap.get?_push_of_some _ e) (Nat.le_refl _) (Heap.get?_push_size _ rfl)
    have fc : h1.objs.size ≠ c' := Nat.ne_of_gt lt
    have fT : h1.objs.size ≠ T := Nat.ne_of_gt (Nat.lt_of_lt_of_le (Heap.lt_size gT) sz)
    have Tc : T ≠ c' := ne_of_none tT nc
    have old : ∀ b o, H b = some o → b ≠ T → upd (upd (upd H T (.tbl (ps ++ #[rawInt pos.line, rawInt pos.col, .ref c']))) c' (LamX.CodeO c' L.qual)) h1.objs.size (LamO h1.objs.size L c') b = some o := fun b o e n => by
      rw [upd_ne (ne_of_none e (I.hok.fresh sz)), upd_ne (ne_of_none e nc), upd_ne n]
      exact e
    refine h _ c' _ _ J old ⟨ps ++ #[rawInt pos.line, rawInt pos.col, .ref c'], ?_, ?_, fun p cv e => ?_⟩ (I.hok.fresh sz) upd_same ?_
    · rw [upd_ne fT.symm, upd_ne Tc, upd_same]
    · rw [Array.toList_append]
      exact TriplesOk_snoc _ _ _ _ tok
    · rw [Array.toList_append] at e
      rcases LamX.among_app _ tok e with z | z
      · obtain ⟨d, e1, e2⟩ := tin p cv z
        exact ⟨d, e1, old _ _ e2 fun q => by rw [q, tT] at e2; unfold LamX.CodeO at e2; cases e2⟩
      · exact ⟨c', z, by rw [upd_ne fc.symm, upd_same]⟩
    · rw [upd_ne fc.symm, upd_same]
end
/-- the call of a lambda: its body is an expression -/
theorem lam_call {P : Program} {w : World} {K : PySem.W.Frag} {mg : Str → Option Value} {base : Heap} {f c : Addr} {L : LamD} {N ps : List Str} {k : Nat} {A : Around} {outer : List Env} {s : Shared} {H : Hp} {us : List Value} {vs : List V} {Q : VK} {te : TE} (S : FnScope N ps L.scope)
    (hr : Room (k + 1) A) (e0 : Env0 P w K mg base A outer s H) (hf : H f = some (LamO f L c)) (hc : H c = some (LamX.CodeO c L.qual)) (hb : ∀ pm ctv : Value, bindArgs (L.fd c pm ctv) ⟨us, []⟩ = pure (ps.zip us)) (r : Vals vs us) (hl : vs.length = ps.length)
    (he : Room k (A.deeper (envOfC L.qual L.scope s.heap.objs.size f (.ref c))) → PE (cxOf CX0 P w K mg base N L.qual L.scope f (.ref c) A outer s H E0).nox L.body te) (ht : te (start N vs) H Q) :
    codeAny (model P w) A (.call (.ref f) ⟨us, []⟩) (CR CX0 outer P w H s Q E0) s := by
  obtain ⟨⟨od, sl, pm, ctv, of⟩, _, _⟩ := e0.hok f _ hf
  obtain ⟨⟨oc, cs, t, o1, o2, o3⟩, _, _⟩ := e0.hok c _ hc
  have k0 : ∀ b o, base.get? b = some o → s.heap.get? b = some o := fun b o e => (e0.bs b o e).1
  have par : ∀ y ∈ ps.zip us, L.scope.names.lookup y.1 = some .local ∨ (L.scope.names.lookup y.1 = some .cell ∧ ((cellsFrom (s.heap.objs.size + 1) L.scope.names []).lookup y.1).isSome = true) := by
    rintro ⟨n, v⟩ hy
    rcases S.par n (List.of_mem_zip hy).1 with q | q
    · exact .inl q
    · exact .inr ⟨q, PySem.W.cellsFrom_some _ _ _ (.inl q)⟩
  refine kla_callFunE hr.depth of rfl S.co S.gen rfl ⟨c, oc, cs, t, rfl, o1, o2, o3⟩ ?_
  rw [show bindArgs (L.fd c pm ctv) ⟨us, []⟩ = pure (ps.zip us) from hb pm ctv]
  refine wpAny_pure (wpAny_newFunctionEnv_cells S.kind par fun env henv s1 xx => ?_)
  subst henv
  refine ⟨(e0.mod.nolimit.keeps k0).keeps xx.toInCall.keep, ?_⟩
  have I : Inv (cxOf CX0 P w K mg base N L.qual L.scope f (.ref c) A outer s H E0) [] (start N vs) H s1 := inv_start S hr.hd e0 hl r xx
  refine kla_codeExpr (wpAny_mono ((he (hr.deeper _)).nox.run [] s1 (start N vs) H Q I ht) (fun u s' hq => ?_) fun e s' hq => hq)
  obtain ⟨v, H', J, rv, q⟩ := hq
  exact ⟨v, H', J.os, J.bare, J.base, J.hok, rv, q⟩
end XR
namespace XR
open PySem PySem.Spec PySem.W PySem.Calls
open PyProof.Rows hiding St
open L2
/-- the value of a lambda: all but the table at T is kept -/
def tLam1 (T : Addr) (L : LamD) : TE := fun _ H Q => LamX.TabS H T L.qual ∧ ∀ (f c' : Addr) (H1 : Hp), (∀ b o, H b = some o → b ≠ T → H1 b = some o) → LamX.TabS H1 T L.qual → H f = none → H1 f = some (LamO f L c') → H1 c' = some (LamX.CodeO c' L.qual) → Q (.ref f) H1
section
variable {X : Cx} {pins : List (Addr × Obj)} {σ : L2.St}
theorem pe_lam1 {T c : Addr} {L : LamD} {pos : Pos} (TB : LamX.TabB X.base X.mg c T) (hcode : X.env.code = .ref c) (hq : L.qual = X.env.qual ++ "<lambda>") (hd : defaultsOf L.params X.env = ([], [])) (hfree : ∀ y ∈ L.scope.names, y.2 ≠ .free) (hcl : cloFrom X.env.cells L.scope.names [] = []) : PE X (.Lambda L.params L.body L.scope pos) (tLam1 T L) := by
  refine ⟨fun pins s σ H Q I h => ?_⟩
  exact lam_new I TB hcode hq h.1 hd hfree hcl fun f c' H1 s' I1 kp t1 nf hf hc => ⟨.ref f, H1, I1, rfl, h.2 f c' H1 kp t1 nf hf hc⟩
/-- sorted(xs, key=f), f a lambda: zs tells each item and its key -/
def rSortedLam (K : PySem.W.Frag) (L : LamD) (N : List Str) (te : TE) : List V → List V → Hp → VK → Prop := fun vs ws H Q => ∃ (a f c : Addr) (zs : List (V × Int)) (Pv : Nat → Hp → Prop), vs = [V.ref a] ∧ ws = [V.ref f] ∧ SqL K H a (zs.map (·.1)) ∧ Pv 0 H ∧
  (∀ (j : Nat) (z : V × Int) (H' : Hp), zs[j]? = some z → Pv j H' → H' f = some (LamO f L c) ∧ H' c = some (LamX.CodeO c L.qual) ∧ te (start N [z.1]) H' (fun y H2 => y = .int z.2 ∧ Pv (j + 1) H2)) ∧
  ∀ p H', Pv zs.length H' → H' p = none → Q (.ref p) (upd H' p (.lst ((zs.mergeSort fun x y => decide (x.2 ≤ y.2)).map (·.1))))
theorem cr_sortedLam {k : Nat} {L : LamD} {N : List Str} {x : Str} {te : TE} (S : FnScope N [x] L.scope) (hr : Room (k + 3) X.A) (hb : ∀ (c : Addr) (v pm ctv : Value), bindArgs (L.fd c pm ctv) ⟨[v], []⟩ = pure [(x, v)])
    (he : ∀ (f c : Addr) (A : Around) (outer : List Env) (s : Shared) (H : Hp), Room k (A.deeper (envOfC L.qual L.scope s.heap.objs.size f (.ref c))) → PE (cxOf CX0 X.prog X.w X.K X.mg X.base N L.qual L.scope f (.ref c) A outer s H E0).nox L.body te) : CallRK X (.builtin "sorted") [Str.ofString "key"] (rSortedLam X.K L N te) := by
  intro pins s σ H vs ws us uws Q I r rz h
  obtain ⟨a, f, c, zs, Pv, rfl, rfl, hs, p0, hstep, q⟩ := h
  obtain rfl := Vals.ref1 r
  obtain ⟨w1, rfl, ew⟩ := vals1 rz
  obtain rfl : w1 = Value.ref f := ew
  obtain ⟨its, rv, hl, hz⟩ := I.list hs
  have e := vals_each rv
  have hlen : zs.length = its.length := e.length.symm
  have hZ : its.length ≤ sizeLine := by rw [← rv.length]; exact hz
  have hr2 : Room (k + 1) X.A.in1.in1 := (show Room (k + 2) X.A.in1 from Room.in1 hr).in1
  refine sorted_of_sort hl.isList hZ (PyProof.Rows.ksk_s1 _ _) (fun _ => PyProof.Rows.ksk_l1 _ _) fun E' => ?_
  rw [show Builtin.«list.sort» ⟨[Value.ref (s.heap.objs.size + 1)], [Str.ofString "key"].zip [Value.ref f]⟩ = ksk_tree (s.heap.objs.size + 1) (.ref f) false from ksk_t1 _ _]
  have I0 : Inv X pins σ H { s with heap := copyHeap s.heap its } := I.kept (t' := s.toks) fun b o q => copyHeap_old q
  have fa : FpOk X pins H (s.heap.objs.size + 1) := I.fpOk (Nat.le_succ _) (I.hok.fresh (Nat.le_succ _))
  refine keyI_tree (s := { s with heap := copyHeap s.heap its }) (ks := zs.map (·.2)) I0 p0 fa (copyHeap_at s.heap its) (by rw [List.length_map]; exact hlen) hZ ?_ ?_ ?_
  · have := hr2.units
    omega
  · intro j v k' hv hk ip H' s' I' pj
    obtain ⟨z, hzj, rfl⟩ : ∃ z, zs[j]? = some z ∧ k' = z.2 := by
      rw [List.getElem?_map] at hk
      obtain ⟨z, e1, e2⟩ := Option.map_eq_some_iff.mp hk
      exact ⟨z, e1, e2.symm⟩
    have rz : RelV z.1 v := e.zip (v, z) (List.mem_of_getElem? (i := j) (by rw [List.getElem?_zip_eq_some]; exact ⟨hv, hzj⟩))
    obtain ⟨hf, hc, ht⟩ := hstep j z H' hzj pj
    refine wpAny_call (codeAny_mono (lam_call (us := [v]) (vs := [z.1]) (ps := [x]) S hr2 I'.env0.in1.in1 hf hc (fun pm ctv => hb c v pm ctv) (.cons rz .nil) rfl (fun hr3 => he f c _ _ _ _ hr3) ht) fun r2 s2 hq => ?_)
    cases r2 with
    | error e => exact hq.elim
    | ok fl =>
      cases fl with
      | ret u =>
        obtain ⟨y, H2, I2, ry, ey, p2⟩ := I'.after hq
        subst ey
        obtain ⟨t, et⟩ := (show ∃ t, u = Value.int z.2 t from ry)
        exact ⟨t, H2, et, I2, p2⟩
      | next => exact False.elim hq
      | brk => exact False.elim hq
      | cont => exact False.elim hq
  · intro s' H' out c I' pn ho' fa' ko
    refine ⟨rfl, ?_⟩
    have em : (zs.map (·.2)).map PyData.int = zs.map fun z => PyData.int z.2 := by rw [List.map_map]; rfl
    rw [em] at ko
    have eo := keyedOut_each (k := fun z : V × Int => PyData.int z.2) ko e
    rw [dataLe_int (fun z : V × Int => z.2)] at eo
    have hv := each_vals eo
    have hn : ((zs.mergeSort fun x y => decide (x.2 ≤ y.2)).map (·.1)).length ≤ sizeLine := by
      rw [List.length_map, List.length_mergeSort, hlen]
      exact hZ
    exact ⟨.ref (s.heap.objs.size + 1), upd H' (s.heap.objs.size + 1) (.lst ((zs.mergeSort fun x y => decide (x.2 ≤ y.2)).map (·.1))), I'.take (t' := s'.toks) (fun b o _ q => q) fa' ⟨hn, out, c, hv, ho'⟩, rfl, q _ H' (by rw [← hlen] at pn; exact pn) fa'.1⟩
end
end XR
/-! The law's end where a def of the text makes a lambda: one table of code objects that grows. -/
namespace XR
open PySem PySem.Spec L2
open PyProof.Rows hiding St
theorem lawCallTG {P : Program} {w : World} {K : PySem.W.Frag} {mg mb : Str → Option Value} {k : Nat} {fa a c T : Addr} {fd : FuncData} {x : Str} {sp : Sp} {s₁ : Shared} {vs : List Value} {ns : List Int}
    (KX : K.In s₁.heap) (h1 : s₁.heap.Ns mainGlobals mg) (h2 : s₁.heap.Ns builtinsNs mb) (h3 : ∀ x : Str, x ≠ "__name__" → mb x = bootBuiltins x) (h4 : s₁.heap.NoLimit) (h5 : s₁.gens = #[])
    (tb : s₁.heap.get? T = some (PySem.W.tabObj #[])) (tK : K.lookup T = none) (tC : PySem.W.CodeHd s₁.heap c T)
    (bm : ∃ (m : Addr) (ob : Obj), mg "__builtins__" = some (.ref m) ∧ m ≠ builtinsNs ∧ s₁.heap.get? m = some ob ∧ ob.cls = .type "module" ∧ ob.dict = some builtinsNs ∧ ob.data = .plain)
    (ha : s₁.heap.get? a = some { cls := .type "list", data := .seq vs.toArray }) (hi : IntsAre vs ns) (hl : ns.length ≤ sizeLine) (hr : Room k callerA)
    (F : ∀ base : Heap, K.In base → base.Ns mainGlobals mg → LamX.TabB base mg c T → FnG P w K mg base k fa fd [x] sp) (hbind : ∀ (s : Shared) (u : Value), BindsTo s fd ⟨[u], []⟩ [(x, u)])
    (hsp : ∀ H : Hp, H T = some (.tbl #[]) → SqL K H a (ns.map V.int) → sp [.ref a] H (fun v _ => v = .bl true) fun _ _ _ => False) :
    codeAny (model P w) callerA (.call (.ref fa) ⟨[.ref a], []⟩) (fun r s' => r = .ok (.ret (.bool true)) ∧ OldK s₁.heap s'.heap ∧ s'.os = s₁.os ∧ AllBare s'.gens) s₁ := by
  have rv := vals_ints hi
  have lenV := hi.length
  have aT : a ≠ T := fun e => by
    rw [e, tb] at ha
    cases ha
  have main : ∀ H : Hp, H T = some (.tbl #[]) → (∀ b, b ≠ T → H b = none ∨ ∃ o xs, H b = some (.frz o (.lst xs))) → SqL K H a (ns.map V.int) → HOk P w H s₁.heap → (∀ b, b ≠ T → H b ≠ none → b = a ∧ K.lookup a = none) →
      codeAny (model P w) callerA (.call (.ref fa) ⟨[.ref a], []⟩) (fun r s' => r = .ok (.ret (.bool true)) ∧ OldK s₁.heap s'.heap ∧ s'.os = s₁.os ∧ AllBare s'.gens) s₁ := by
    intro H hT hO hS hok hA
    have free : ∀ {b : Addr}, b ≠ T → b ≠ a → H b = none := fun {b} nt hb => by
      cases q : H b with
      | none => rfl
      | some u => exact absurd (hA b nt (by rw [q]; exact Option.some_ne_none u)).1 hb
    have open_ : ∀ {b : Addr} {o : Obj}, s₁.heap.get? b = some o → (∀ us n, o.data ≠ .seq us n) → o.data ≠ .fields #[] → (hidT s₁.heap H).get? b = some o := fun {b o} e n1 n2 => by
      refine hidT_get e (free (fun z => ?_) fun z => ?_)
      · rw [z, tb] at e
        cases e
        exact n2 rfl
      · rw [z, ha] at e
        cases e
        exact n1 _ _ rfl
    have ns' : ∀ {b : Addr} {m : Str → Option Value}, s₁.heap.Ns b m → (hidT s₁.heap H).Ns b m := by
      rintro b m ⟨o, es, ep, e, d, r⟩
      exact ⟨o, es, ep, open_ e (fun us n z => by rw [d] at z; cases z) (fun z => by rw [d] at z; cases z), d, r⟩
    have kb : K.In (hidT s₁.heap H) := fun b o e => by
      have nt : b ≠ T := fun z => by rw [z, tK] at e; cases e
      refine hidT_get (KX b o e) ?_
      cases q : H b with
      | none => rfl
      | some u =>
        obtain ⟨e1, e2⟩ := hA b nt (by rw [q]; exact Option.some_ne_none u)
        rw [e1, e2] at e
        cases e
    obtain ⟨mc, l1, l2⟩ := h4
    have M : Mod K mg (hidT s₁.heap H) := ⟨kb, ns' h1, ⟨mb, ns' h2, h3⟩, ⟨mc, ns' l1, l2⟩⟩
    have TB : LamX.TabB (hidT s₁.heap H) mg c T := by
      obtain ⟨oG, esG, epG, eG, dG, _⟩ := id h1
      refine ⟨?_, ?_, fun z => ?_⟩
      · obtain ⟨o, u0, q1, q2, q3, q4, q5, q6, q7, e, dc, d, d0, r⟩ := tC
        exact ⟨o, u0, q1, q2, q3, q4, q5, q6, q7, open_ e (fun us n z => by rw [d] at z; cases z) (fun z => by rw [d] at z; cases z; simp at d0), dc, d, d0, r⟩
      · obtain ⟨m, ob, b1, b2, b3, b4, b5, b6⟩ := bm
        refine ⟨m, ob, b1, b2, fun z => ?_, fun z => ?_, open_ b3 (fun us n z => by rw [b6] at z; cases z) (fun z => by rw [b6] at z; cases z), b4, b5, b6⟩
        · rw [z, eG] at b3
          cases b3
          rw [dG] at b6
          cases b6
        · rw [z, tb] at b3
          cases b3
          cases b6
      · rw [z, tb] at eG
        cases eG
        cases dG
    have e0 : Env0 P w K mg (hidT s₁.heap H) callerA [] s₁ H :=
      ⟨rfl, M, fun b o e => of_hidT e, Nat.le_of_eq (hidT_size _ _), trivial, fun b hb => (List.not_mem_nil (a := b) hb).elim, hok, .of_eq h5⟩
    have run := (F _ kb (ns' h1) TB).run callerA [] s₁ H ⟨[.ref a], []⟩ [.ref a] [.ref a] _ _ rfl hr e0 (hbind s₁ (.ref a)) (.cons rfl .nil) (hsp H hT hS)
    refine codeAny_mono run fun r s' h => ?_
    cases r with
    | error e => exact False.elim h
    | ok fl =>
      cases fl with
      | next => exact False.elim h
      | brk => exact False.elim h
      | cont => exact False.elim h
      | ret u =>
        obtain ⟨v, H', os, bare, un, hok', r', q⟩ := h
        obtain rfl : v = V.bl true := q
        obtain rfl : u = Value.bool true := r'
        have rest : ∀ b o, b ≠ T → s₁.heap.get? b = some o → s'.heap.get? b = some o := fun b o nt e => by
          rcases hO b nt with z | ⟨ob, xs, z⟩
          · exact un.keep b o e z (List.not_mem_nil (a := b)) (List.not_mem_nil (a := b))
          · obtain ⟨e1, _⟩ := hok b _ z
            obtain ⟨e2, _⟩ := hok' b _ (un.frzs b ob _ z)
            rw [e] at e1
            cases e1
            exact e2
        obtain ⟨more, z⟩ := un.tbls T #[] hT
        have grown := hok' T _ z
        refine ⟨rfl, ⟨fun b o e => ?_, fun b o e => ?_⟩, os, bare⟩
        · by_cases hb : b = T
          · subst hb
            rw [tb] at e
            cases e
            exact .inr (.inl ⟨(tC.tab tb).isCodeTable, rfl, #[], more, rfl, grown.trans (by rw [Array.empty_append])⟩)
          · exact .inl (rest b o hb e)
        · by_cases hb : b = T
          · subst hb
            exact ⟨_, grown⟩
          · exact ⟨o, rest b o hb e⟩
  cases hk : K.lookup a with
  | some o =>
    have e := KX a o hk
    rw [ha] at e
    cases e
    refine main (fun b => if b = T then some (.tbl #[]) else none) (if_pos rfl) (fun b nt => .inl (if_neg nt)) (.inr ⟨_, vs.toArray, _, hk, rfl, rfl, rfl, by rw [List.size_toArray, lenV]; exact hl, by simpa using rv⟩) (fun b u z => ?_) fun b nt z => absurd (if_neg nt) z
    by_cases hb : b = T
    · cases (if_pos hb).symm.trans z
      rw [hb]
      exact tb
    · cases (if_neg hb).symm.trans z
  | none =>
    refine main (fun b => if b = T then some (.tbl #[]) else if b = a then some (.frz { cls := .type "list", data := .seq vs.toArray } (.lst (ns.map V.int))) else none) (if_pos rfl) (fun b nt => ?_) (.inl (.inr ⟨_, (if_neg aT).trans (if_pos rfl)⟩)) (fun b u z => ?_) fun b nt z => ?_
    · by_cases hb : b = a
      · exact .inr ⟨_, _, (if_neg nt).trans (if_pos hb)⟩
      · exact .inl ((if_neg nt).trans (if_neg hb))
    · by_cases hb : b = T
      · cases (if_pos hb).symm.trans z
        rw [hb]
        exact tb
      · by_cases hb2 : b = a
        · cases ((if_neg hb).trans (if_pos hb2)).symm.trans z
          rw [hb2]
          exact ⟨ha, by rw [List.length_map]; exact hl, vs, _, rv, ha⟩
        · cases ((if_neg hb).trans (if_neg hb2)).symm.trans z
    · by_cases hb : b = a
      · exact ⟨hb, hk⟩
      · exact absurd ((if_neg nt).trans (if_neg hb)) z
/-- the law's end -/
theorem walkTG {l : PySem.W.OpenLaw} {n k : Nat} {q : Program} {loose : List Str} {XP : (Str → Option Value) → Heap → Prop} {YP : World → Heap → Prop} {d dt : DefRec} {K : Params → PySem.W.Frag} {sp : World → Addr → Addr → Sp} {x y : Str}
    (hn : l.most = some n) (hn2 : n ≤ sizeLine) (hdf : d.params.defaults = []) (hr : Room k callerA) (hY : ∀ (w : World) (h : Heap), YP w h → (K w.params).In h) (hrec : (recsOf q).find? (fun e => e.name == y) = some dt)
    (F : ∀ (w : World) (mg : Str → Option Value) (fa : Addr) (h : Heap), (K w.params).In h → h.Ns mainGlobals mg → mg d.name = some (.ref fa) →
      ∃ (fd : FuncData) (c T : Addr), PySem.W.tabIn (K w.params) y = some (c, T) ∧ (K w.params).lookup T = none ∧ (∀ (s : Shared) (u : Value), BindsTo s fd ⟨[u], []⟩ [(x, u)]) ∧
        ∀ base : Heap, (K w.params).In base → base.Ns mainGlobals mg → LamX.TabB base mg c T → FnG l.prog w (K w.params) mg base k fa fd [x] (sp w c T))
    (hsp : ∀ (w : World) (H : Hp) (a c T : Addr) (ns : List Int), ns.length ≤ n → H T = some (.tbl #[]) → SqL (K w.params) H a (ns.map V.int) → sp w c T [.ref a] H (fun v _ => v = .bl true) fun _ _ _ => False) :
    PySem.W.WalkO q loose XP YP l.row.toRowW d [] (fun f vs => PySem.call f vs) := by
  refine Att.attach_call hn hdf fun w s₀ s₁ mg mb fa o pm cd doc a vs ns G Y ho hd hcd hmg hobj hints hlen hg => ?_
  obtain ⟨fd, c, T, t1, t2, hb, hF⟩ := F w mg fa _ (hY w _ Y) G.T.g hmg
  obtain ⟨tC, tb⟩ := PySem.W.tab_of G.T (hY w _ Y) hrec t1
  exact lawCallTG (hY w _ Y) G.T.g G.T.b G.T.builtins G.T.nolimit hg tb t2 tC G.T.bmain hobj hints (Nat.le_trans hlen hn2) hr hF hb fun H hT hS => hsp w H a c T ns hlen hT hS
end XR
/-! A def of the text whose code object is known. -/
namespace XR
open PySem PySem.Spec L2
open PyProof.Rows hiding St
/-- the code object of the def at f is c -/
def CodeAt (K : PySem.W.Frag) (f c : Addr) : Prop := ∀ (o : Value) (od : Option Addr) (fd : FuncData) (sl : Array (Option Value)), K.lookup f = some ⟨o, od, .func fd, sl⟩ → fd.code = .ref c
theorem codeAt_of {K : PySem.W.Frag} {x : Str} {c T f : Addr} (h : PySem.W.tabIn K x = some (c, T)) (g : PySem.W.nsIn K mainGlobals x = some (some (.ref f))) : CodeAt K f c := by
  intro o od fd sl lk
  unfold PySem.W.tabIn at h
  rw [g] at h
  dsimp only at h
  rw [lk] at h
  dsimp only at h
  split at h
  · rename_i c1 e1
    rw [e1]
    split at h
    · split at h
      · injection h with h
        injection h with h1 h2
        rw [h1]
      · cases h
    · cases h
  · cases h
section
variable {P : Program} {w : World} {K : PySem.W.Frag} {mg : Str → Option Value} {base : Heap}
/-- a def by its body; its code object is told -/
theorem okC {x qual : Str} {st : Stmt} {f c : Addr} {fd : FuncData} {N ps : List Str} {k : Nat} {sp : Sp} (F : Fun K x qual st f fd) (C : CodeAt K f c) (S : FnScope N ps (defScope st)) (len : ∀ vs H Q E, sp vs H Q E → vs.length = ps.length)
    (hbody : ∀ (A : Around) (outer : List Env) (s : Shared) (H : Hp) (vs : List V) (Q : VK) (E : XK), Room k (A.deeper (envOfC qual (defScope st) s.heap.objs.size f (.ref c))) → sp vs H Q E →
      ∃ t, PSs (cxOf CX0 P w K mg base N qual (defScope st) f (.ref c) A outer s H E).nox (defBody st) t ∧ t { nx := fun _ H' => Q .non H', rt := Q } (start N vs) H) : FnOk P w K mg base CX0 (k + 1) f fd ps sp := by
  obtain ⟨o1, o2, v1, v2, v3, a1, cd, v4, o3, rfl, lk, known⟩ := F.ex
  have ec : cd = .ref c := C _ _ _ _ lk
  subst ec
  refine fn_of lk known S len fun A outer s H vs Q E hr hs => ?_
  obtain ⟨t, body, z⟩ := hbody A outer s H vs Q E hr hs
  exact ⟨t, body.nox, z⟩
end
end XR
namespace XR
open PySem L2 KT
/-- the key of the first source's call, in the comprehension that a def returns -/
def keyOf (st : Stmt) : Expr := match (defBody st).getLast? with
  | some (.Return (some (.ListComp _ (⟨_, .Call _ _ (⟨_, e, _⟩ :: _) _, _, _⟩ :: _) _ _)) _) => e
  | _ => .Constant .none 0 ⟨0, 0, 0, 0⟩
def lamOf (q : Str) (e : Expr) : LamD := match e with
  | .Lambda p b s _ => ⟨q, p, b, s⟩
  | _ => ⟨q, ⟨[], [], none, [], [], none, []⟩, .Constant .none 0 ⟨0, 0, 0, 0⟩, { kind := .function, names := [], isGenerator := false, isCoroutine := false }⟩
end XR
namespace K62
open PySem L2 XR KT
section
variable {P : Program} {w : World} {K : PySem.W.Frag} {mg : Str → Option Value} {base : Heap}
abbrev sTWO : Stmt := top 33
abbrev lamT : LamD := lamOf "tokens_with_origins.<locals>.<lambda>" (keyOf sTWO)
theorem scLam : FnScope ["part"] ["part"] lamT.scope := ⟨rfl, rfl, rfl, by decide +kernel, rfl, by decide +kernel, by decide +kernel⟩
theorem lam_binds (c : Addr) (v pm ctv : Value) : bindArgs (lamT.fd c pm ctv) ⟨[v], []⟩ = pure [(("part" : Str), v)] := rfl
theorem lam_body {L : List Str} {f c : Addr} {A : Around} {outer : List Env} {s : Shared} {H : Hp} : PE (cxOf CX0 P w K mg base ["part"] lamT.qual lamT.scope f (.ref c) A outer s H E0).nox lamT.body (tOp (rIxT K) (tVar 0) (tC (.int 0))) :=
  pe_ix ix_tup (pv 0) pe_int (fun _ _ => rfl)
end
end K62
namespace XR
open PySem L2 KT
abbrev Part := Int × List TokP
def baseTok (s0 : List Str) (i : Nat) : TokP := (.str (s0.getD i ""), .tuple [.str "base", .int ((i + 1 : Nat) : Int)])
def standP (s0 s1 s2 : List Str) (ps qs : List (Nat × Nat)) (m : Nat) : List Part := ((List.range m).filter fun i => decide (fateF s1 s2 (knR s0 s1 s2 ps qs) i = "stands")).map fun i => (2 * ((i + 1 : Nat) : Int) - 1, [baseTok s0 i])
def partsL (s0 s1 s2 : List Str) (ps qs : List (Nat × Nat)) : List Part := standP s0 s1 s2 ps qs s0.length ++ (knR s0 s1 s2 ps qs).map fun k => (firstK k, tokK s1 s2 ps qs k)
def lePart (x y : Part) : Bool := decide (x.1 ≤ y.1)
/-- the tokens of the merged row with their origins -/
def rowP (s0 s1 s2 : List Str) (ps qs : List (Nat × Nat)) : List TokP := ((partsL s0 s1 s2 ps qs).mergeSort lePart).flatMap (·.2)
theorem standP_succ (s0 s1 s2 : List Str) (ps qs : List (Nat × Nat)) (m : Nat) : standP s0 s1 s2 ps qs (m + 1) = standP s0 s1 s2 ps qs m ++ (if fateF s1 s2 (knR s0 s1 s2 ps qs) m = "stands" then [(2 * ((m + 1 : Nat) : Int) - 1, [baseTok s0 m])] else []) := by
  unfold standP
  rw [List.range_succ, List.filter_append, List.map_append]
  congr 1
  by_cases h : fateF s1 s2 (knR s0 s1 s2 ps qs) m = "stands"
  · rw [if_pos h, List.filter_cons_of_pos (p := fun i => decide (fateF s1 s2 (knR s0 s1 s2 ps qs) i = "stands")) (decide_eq_true h)]
    rfl
  · rw [if_neg h, List.filter_cons_of_neg (p := fun i => decide (fateF s1 s2 (knR s0 s1 s2 ps qs) i = "stands")) (by rw [decide_eq_false h]; decide)]
    rfl
/-- a part as it stands: a tuple of its key and of a list apart from D -/
def PartAt (K : PySem.W.Frag) (D : Addr) (H : Hp) (t : Addr) (p : Part) : Prop := ∃ (l : Addr) (xs : List V), H t = some (.tup [.int p.1, .ref l]) ∧ l ≠ D ∧ H l = some (.lst xs) ∧ DqAll K (noL H) xs (p.2.map tokD) ∧ p.2.length ≤ 6000
theorem PartAt.same {K : PySem.W.Frag} {D : Addr} {H H' : Hp} {t : Addr} {p : Part} (s : Same H H') (h : PartAt K D H t p) : PartAt K D H' t p :=
  let ⟨l, xs, h1, h2, h3, h4, h5⟩ := h; ⟨l, xs, s _ _ h1, h2, s _ _ h3, h4.same (noL_same s), h5⟩
theorem PartAt.updD {K : PySem.W.Frag} {D : Addr} {H : Hp} {t : Addr} {p : Part} {vs ws : List V} (hD : H D = some (.lst vs)) (h : PartAt K D H t p) : PartAt K D (upd H D (.lst ws)) t p := by
  obtain ⟨l, xs, h1, h2, h3, h4, h5⟩ := h
  refine ⟨l, xs, ?_, h2, ?_, ?_, h5⟩
  · rw [upd_ne (fun e => by rw [e, hD] at h1; cases h1)]
    exact h1
  · rw [upd_ne h2]
    exact h3
  · rw [noL_upd hD]
    exact h4
theorem PartAt.butT {K : PySem.W.Frag} {D T : Addr} {H H' : Hp} {t : Addr} {p : Part} {ps : Array Value} (hT : H T = some (.tbl ps)) (s : ∀ b o, H b = some o → b ≠ T → H' b = some o) (h : PartAt K D H t p) : PartAt K D H' t p := by
  obtain ⟨l, xs, h1, h2, h3, h4, h5⟩ := h
  exact ⟨l, xs, s _ _ h1 (fun e => by rw [e, hT] at h1; cases h1), h2, s _ _ h3 (fun e => by rw [e, hT] at h3; cases h3), h4.same (noL_but hT s), h5⟩
/-- all but the table at T is kept -/
def ButT (T : Addr) (H H' : Hp) : Prop := ∀ b o, H b = some o → b ≠ T → H' b = some o
theorem ButT.of {T : Addr} {H H' : Hp} (s : Same H H') : ButT T H H' := fun b o e _ => s b o e
theorem ButT.trans {T : Addr} {H H1 H2 : Hp} (a : ButT T H H1) (b : ButT T H1 H2) : ButT T H H2 := fun c o e n => b _ _ (a _ _ e n) n
theorem tabS_same {T : Addr} {q : Str} {H H' : Hp} (s : Same H H') (h : LamX.TabS H T q) : LamX.TabS H' T q := h.ext s
abbrev lamQ : Str := "tokens_with_origins.<locals>.<lambda>"
def spTWO (K : PySem.W.Frag) (T : Addr) : Sp := fun vs H Q _ => ∃ (x0 x1 x2 v1 v2 : V) (s0 s1 s2 : List Str) (ps qs : List (Nat × Nat)), vs = [x0, x1, x2, v1, v2] ∧ RowIn K H x0 x1 x2 v1 v2 s0 s1 s2 ps qs ∧ s0.length ≤ 40 ∧ LamX.TabS H T lamQ ∧
  ∀ l H' xs, ButT T H H' → LamX.TabS H' T lamQ → H l = none → H' l = some (.lst xs) → DqAll K (noL H') xs ((rowP s0 s1 s2 ps qs).map tokD) → Q (.ref l) H'
theorem tokK_len {s0 s1 s2 : List Str} {ps qs : List (Nat × Nat)} {k : List Blk × List Blk} (kf : KnFact s0 s1 s2 k) (l1 : s1.length ≤ 60) (l2 : s2.length ≤ 60) : (tokK s1 s2 ps qs k).length ≤ 6000 := by
  have c1 : (numsB k.1).length ≤ 60 * k.1.length := numsB_len fun b hb => Nat.le_trans (kf.i1 b hb).2 l1
  have c2 : (numsB k.2).length ≤ 60 * k.2.length := numsB_len fun b hb => Nat.le_trans (kf.i2 b hb).2 l2
  have := kf.l1
  have := kf.l2
  unfold tokK
  split
  · show 1 ≤ 6000; decide
  · split
    · rw [List.length_map]; omega
    · split
      · rw [List.length_map]; omega
      · split
        · rw [List.length_map, List.length_zip]; omega
        · exact Nat.zero_le _
end XR
namespace K62
open PySem L2 XR KT
section
variable {P : Program} {w : World} {K : PySem.W.Frag} {mg : Str → Option Value} {base : Heap}
abbrev nTWO : List Str := ["base", "one", "two", "diff_one", "diff_two", "knots", "fates", "parts", "i", "fate", "knot", "_", "told", "token"]
theorem scTWO : FnScope nTWO nVers (defScope sTWO) := ⟨rfl, rfl, rfl, by decide +kernel, rfl, by decide +kernel, by decide +kernel⟩
theorem lam_nofree : ∀ y ∈ lamT.scope.names, y.2 ≠ NameKind.free := by decide +kernel
theorem ok_two {f fK fF fS fT c T : Addr} {fd fdK fdF fdS fdT : FuncData} (F : Fun K "tokens_with_origins" "tokens_with_origins" sTWO f fd) (C : CodeAt K f c) (TB : LamX.TabB base mg c T) (B : Blt mg) (mS : mg "sorted" = none)
    (FK : Fun K "knots_of" "knots_of" sKnots fK fdK) (GK : FnOk P w K mg base CX0 7 fK fdK nVers (spKnots K)) (bK : Binds K fdK nVers []) (mK : mg "knots_of" = some (.ref fK))
    (FF : Fun K "line_fates" "line_fates" sFates fF fdF) (GF : FnOk P w K mg base CX0 8 fF fdF nVers (spFates K)) (bF : Binds K fdF nVers []) (mF : mg "line_fates" = some (.ref fF))
    (FS : Fun K "stretch_of" "stretch_of" sStretch fS fdS) (GS : FnOk P w K mg base CX0 2 fS fdS ["knot"] (spStretch K)) (bS : Binds K fdS ["knot"] []) (mS2 : mg "stretch_of" = some (.ref fS))
    (FT : Fun K "tokens_of_knot" "tokens_of_knot" sTokK fT fdT) (GT : FnOk P w K mg base CX0 3 fT fdT pTokK (spTokK K)) (bT : Binds K fdT pTokK []) (mT : mg "tokens_of_knot" = some (.ref fT)) : FnOk P w K mg base CX0 9 f fd nVers (spTWO K T) := by
  refine okC F C scTWO (fun vs H Q E h => ?_) (fun A outer s H vs Q E hr h => ?_)
  · obtain ⟨x0, x1, x2, v1, v2, s0, s1, s2, ps, qs, rfl, _⟩ := h
    rfl
  · obtain ⟨x0, x1, x2, v1, v2, s0, s1, s2, ps, qs, rfl, R, l0, hT, z⟩ := h
    have hr7 := hr.mono (show 7 ≤ 8 by decide)
    have hr3 := hr.mono (show 3 ≤ 8 by decide)
    have hr2 := hr.mono (show 2 ≤ 8 by decide)
    refine ⟨_, pss_cons (ps_set (i := 5) scTWO.nd rfl (.inl rfl) (pe_call GK hr7 rfl mK FK.kp bK .nil pass0 (pa_cons (pv 0) (pa_cons (pv 1) (pa_cons (pv 2) (pa_cons (pv 3) (pa_cons (pv 4) pa_nil)))))))
      (pss_cons (ps_set (i := 6) scTWO.nd rfl (.inl rfl) (pe_call GF hr rfl mF FF.kp bF .nil pass0 (pa_cons (pv 0) (pa_cons (pv 1) (pa_cons (pv 2) (pa_cons (pv 3) (pa_cons (pv 4) pa_nil)))))))
      (pss_cons (ps_setLc (i := 7) (own := [("i", 8), ("fate", 9)]) (g := gTup K 2 (gCons (gName 8) (gCons (gName 9) gNil))) (tt := tTest (tOp rEq (tVar 9) (tC (.str "stands"))))
          (te := tTup (tCons (tOp (rI0 fun i j => V.int (i - j)) (tOp (rI CMul fun i j => V.int (i * j)) (tC (V.int 2)) (tVar 8)) (tC (V.int 1))) (tCons (tLst (tCons (tTup (tCons (tOp (rIx K) (tVar 0) (tOp (rI0 fun i j => V.int (i - j)) (tVar 8) (tC (V.int 1)))) (tCons (tTup (tCons (tC (.str "base")) (tCons (tVar 8) tNil))) tNil))) tNil)) tNil)))
          rfl scTWO.nd rfl rfl (sw_true rfl rfl rfl (by decide +kernel)) (pi_enumW rfl B.enum (pa_cons (pv 6) pa_nil) pe_int)
          (blkOk_by (own := [("i", 8), ("fate", 9)]) (N := nTWO) (sc := defScope sTWO) (by decide +kernel)) (fun _ _ _ _ _ => pg_tup rfl (pgs_cons (pg_name (i := 8) scTWO.nd rfl (.inl rfl)) (pgs_cons (pg_name (i := 9) scTWO.nd rfl (.inl rfl)) pgs_nil)))
          (fun _ _ _ _ _ => pts_one (pt_cmpR op_eq (pv 9) pe_str (nomark _)))
          (fun _ _ _ _ _ => pe_tup (pa_cons (pe_op op_sub (pe_op op_mul pe_int (pv 8)) pe_int) (pa_cons (pe_lst (pa_cons (pe_tup (pa_cons (pe_ix ix_seq (pv 0) (pe_op op_sub (pv 8) pe_int) (fun _ _ => rfl)) (pa_cons (pe_tup (pa_cons pe_str (pa_cons (pv 8) pa_nil))) pa_nil))) pa_nil)) pa_nil))))
      (pss_cons (ps_for PassesOwn.never rfl (pi_list (pv 5)) (pg_name (i := 10) scTWO.nd rfl (.inl rfl))
        (pss_one (ps_expr (pe_bm PySem.F.plainAttrs_list PySem.F.slot_list_append PySem.F.type_list_append mt_append (pv 7) (pa_cons (pe_tup (pa_cons (pe_ix ix_tup (pe_call GS hr2 rfl mS2 FS.kp bS .nil pass0 (pa_cons (pv 10) pa_nil)) pe_int (fun _ _ => rfl))
          (pa_cons (pe_call GT hr3 rfl mT FT.kp bT .nil pass0 (pa_cons (pv 10) (pa_cons (pv 0) (pa_cons (pv 1) (pa_cons (pv 2) (pa_cons (pv 3) (pa_cons (pv 4) pa_nil))))))) pa_nil))) pa_nil)))))
      (pss_one (ps_ret (pe_lc2 (own := [("_", 11), ("told", 12), ("token", 13)]) (vs1 := [13]) (g := gTup K 2 (gCons (gName 11) (gCons (gName 12) gNil))) (tt := tYes) (wi1 := iList K (tVar 12)) (g1 := gName 13) (tt1 := tYes) (te := tVar 13) rfl scTWO.nd
        (pi_list (pe_callBK (cr_sortedLam (k := 0) (L := lamT) (te := tOp (rIxT K) (tVar 0) (tC (.int 0))) scLam (hr.mono (show 3 ≤ 8 by decide)) lam_binds (fun _ _ _ _ _ _ _ => lam_body (L := []))) (by rfl) mS (by decide +kernel) (pa_cons (pv 7) pa_nil)
          (pk_cons (pe_lam1 (T := T) (c := c) (L := lamT) TB rfl rfl rfl lam_nofree rfl) pk_nil)))
        (blkOk_by (own := [("_", 11), ("told", 12), ("token", 13)]) (N := nTWO) (sc := defScope sTWO) (by decide +kernel)) (by decide) (fun _ _ _ _ _ => pg_tup rfl (pgs_cons (pg_name (i := 11) scTWO.nd rfl (.inl rfl)) (pgs_cons (pg_name (i := 12) scTWO.nd rfl (.inl rfl)) pgs_nil))) (fun _ _ _ _ _ => pts_nil)
        (fun _ _ _ _ _ => pi_list (pv 12)) (fun _ _ _ _ _ => pg_name (i := 13) scTWO.nd rfl (.inl rfl)) (fun _ _ _ _ _ => pts_nil) (fun _ _ _ _ _ => pv 13))))))), ?_⟩
    obtain ⟨nks, kfact⟩ := R.kn l0
    have l1' := R.t1.len
    have l2' := R.t2.len
    refine ⟨_, rfl, _, rfl, _, rfl, _, rfl, _, rfl, x0, x1, x2, v1, v2, s0, s1, s2, ps, qs, rfl, R.t0, R.t1, R.t2, R.p, R.ip, R.q, R.iq, fun kl xsK H1 h1 nk hk hxs => ?_⟩
    have R1 := R.same h1
    have hxs : DqAll K H1 xsK ((knR s0 s1 s2 ps qs).map knD) := hxs
    refine ⟨_, rfl, _, rfl, _, rfl, _, rfl, _, rfl, x0, x1, x2, v1, v2, s0, s1, s2, ps, qs, rfl, R1, l0, fun fl H2 h2 nfl hfl => ?_⟩
    have h12 := h1.trans h2
    have kslen : xsK.length = (knR s0 s1 s2 ps qs).length := by rw [hxs.length, List.length_map]
    refine ⟨_, rfl, fl, _, true, rfl, SqL.of hfl, fun D nD => ?_⟩
    refine lc_it walk_enumW (fun i Hx => Same H2 Hx ∧ ∃ us, Hx D = some (.lst (refs us)) ∧ LAt (PartAt K D Hx) us (standP s0 s1 s2 ps qs i)) ⟨same_upd nD, [], upd_same, .nil⟩ (fun i Hx _ hh => SqL.of (hh.1 _ _ hfl)) ?_ ?_
    · rintro i x Ha Hb hi ⟨sx, us, hD, hus⟩ ⟨t, y1, y2, rfl, nt, rfl, e1, e2⟩
      cases e1
      rw [tabV_len] at hi
      obtain rfl : V.str (fateF s1 s2 (knR s0 s1 s2 ps qs) i) = y2 := by
        have e2 : (tabV s0.length (fateF s1 s2 (knR s0 s1 s2 ps qs)))[i]? = some y2 := e2
        unfold tabV at e2
        rw [List.getElem?_map, List.getElem?_map, List.getElem?_range hi] at e2
        exact Option.some.inj e2
      have st := same_upd (o := .tup [V.int ((i + 1 : Nat) : Int), V.str (fateF s1 s2 (knR s0 s1 s2 ps qs) i)]) nt
      refine ⟨t, _, rfl, .inl (.inl upd_same), rfl, _, _, rfl, _, _, rfl, rfl, rfl, ?_⟩
      generalize upd Ha t (.tup [V.int ((i + 1 : Nat) : Int), V.str (fateF s1 s2 (knR s0 s1 s2 ps qs) i)]) = Hb at st ⊢
      have sb := sx.trans st
      have hDb := st _ _ hD
      have husb : LAt (PartAt K D Hb) us (standP s0 s1 s2 ps qs i) := hus.mono fun _ _ _ _ k => k.same st
      refine ⟨_, rfl, rfl, _, rfl, ?_⟩
      have plen : (standP s0 s1 s2 ps qs i).length ≤ i := by
        unfold standP
        rw [List.length_map]
        exact Nat.le_trans (List.length_filter_le _ _) (by rw [List.length_range]; exact Nat.le_refl _)
      by_cases cs : fateF s1 s2 (knR s0 s1 s2 ps qs) i = "stands"
      · rw [decide_eq_true (show V.str (fateF s1 s2 (knR s0 s1 s2 ps qs) i) = V.str "stands" by rw [cs])]
        dsimp only
        rw [if_pos rfl]
        have m1 : CMul 2 ((i + 1 : Nat) : Int) := .inl ⟨by omega, by omega⟩
        refine ⟨_, rfl, _, _, rfl, rfl, m1, _, _, rfl, rfl, _, rfl, _, rfl, _, _, rfl, rfl, ?_⟩
        refine ((R.same (h12.trans sb)).t0.a).ix (i := i) (List.getElem?_eq_getElem hi) (by omega) ?_
        refine ⟨_, rfl, ll20 (by show 2 ≤ 20; decide), fun u nu => ?_⟩
        have su := same_upd (o := .tup [V.str "base", V.int ((i + 1 : Nat) : Int)]) nu
        have hu := upd_same (H := Hb) (a := u) (o := .tup [V.str "base", V.int ((i + 1 : Nat) : Int)])
        generalize upd Hb u (.tup [V.str "base", V.int ((i + 1 : Nat) : Int)]) = Hc at su hu ⊢
        refine ⟨ll20 (by show 2 ≤ 20; decide), fun v nv => ?_⟩
        have sv := same_upd (o := .tup [V.str s0[i], V.ref u]) nv
        have hv := upd_same (H := Hc) (a := v) (o := .tup [V.str s0[i], V.ref u])
        generalize upd Hc v (.tup [V.str s0[i], V.ref u]) = Hd at sv hv ⊢
        refine ⟨ll20 (by show 1 ≤ 20; decide), fun l nl => ?_⟩
        have sl := same_upd (o := .lst [V.ref v]) nl
        have hl := upd_same (H := Hd) (a := l) (o := .lst [V.ref v])
        have lD : l ≠ D := (ne_of_none (sv _ _ (su _ _ hDb)) nl).symm
        have nL := noL_new (ys := [V.ref v]) nl
        generalize upd Hd l (.lst [V.ref v]) = He at sl hl nL ⊢
        refine ⟨ll20 (by show 2 ≤ 20; decide), fun q nq => ?_⟩
        have sq := same_upd (o := .tup [V.int (2 * ((i + 1 : Nat) : Int) - 1), V.ref l]) nq
        have hq := upd_same (H := He) (a := q) (o := .tup [V.int (2 * ((i + 1 : Nat) : Int) - 1), V.ref l])
        generalize upd He q (.tup [V.int (2 * ((i + 1 : Nat) : Int) - 1), V.ref l]) = Hf at sq hq ⊢
        have sbf := (((su.trans sv).trans sl).trans sq)
        have hDf := sbf _ _ hDb
        refine ⟨_, hDf, ?_, fun b' o' h => ?_, us ++ [q], ?_, ?_⟩
        · rw [hus.len]
          exact Nat.lt_of_le_of_lt (show _ ≤ 100 by omega) (by decide)
        · rw [upd_ne (ne_of_none h nD)]
          exact sbf _ _ (sb _ _ h)
        · rw [upd_same, refs_snoc]
        · rw [standP_succ, if_pos cs]
          refine (husb.mono fun _ _ _ _ k => (k.same sbf).updD hDf).append (.one (PartAt.updD hDf ⟨l, [V.ref v], hq, lD, sq _ _ hl, .cons (.tup (SqT.of (noL_tup (sq _ _ (sl _ _ hv)))) (.cons ?_ (.cons (.tup (SqT.of (noL_tup (sq _ _ (sl _ _ (sv _ _ hu))))) (.cons (.str _) (.cons (.int _) .nil))) .nil))) .nil, by show 1 ≤ 6000; decide⟩))
          show Dq K (noL Hf) (V.str s0[i]) (.str (s0.getD i ""))
          rw [show s0.getD i "" = s0[i] by rw [List.getD_eq_getElem?_getD, List.getElem?_eq_getElem hi]; rfl]
          exact .str _
      · rw [decide_eq_false (show ¬ V.str (fateF s1 s2 (knR s0 s1 s2 ps qs) i) = V.str "stands" from fun e => cs (by injection e))]
        dsimp only
        rw [if_neg (by decide)]
        refine ⟨sb, us, hDb, ?_⟩
        rw [standP_succ, if_neg cs, List.append_nil]
        exact husb
    rintro H3 ⟨s3, us0, hD, hus0⟩
    rw [tabV_len] at hus0
    have slen : (standP s0 s1 s2 ps qs s0.length).length ≤ 40 := by
      unfold standP
      rw [List.length_map]
      exact Nat.le_trans (List.length_filter_le _ _) (by rw [List.length_range]; exact l0)
    refine ⟨_, rfl, kl, rfl, ⟨_, SqL.of (s3 _ _ (h2 _ _ hk))⟩, ?_⟩
    have hk2 := h2 _ _ hk
    refine for_list (K := K) (a := kl) (xs := xsK) (fun j σ Hx => Same H2 Hx ∧ (∃ us, Hx D = some (.lst (refs us)) ∧ LAt (PartAt K D Hx) us (standP s0 s1 s2 ps qs s0.length ++ ((knR s0 s1 s2 ps qs).take j).map fun k => (firstK k, tokK s1 s2 ps qs k))) ∧ ∃ y8 y9 y10 y11 y12 y13, σ = [some x0, some x1, some x2, some v1, some v2, some (V.ref kl), some (V.ref fl), some (V.ref D), y8, y9, y10, y11, y12, y13])
      ⟨s3, ⟨us0, hD, by rw [List.take_zero, List.map_nil, List.append_nil]; exact hus0⟩, _, _, _, _, _, _, rfl⟩ (fun j σ Hx _ hh => SqL.of (hh.1 _ _ hk2)) ?_ ?_
    · rintro j x σ Hx hx ⟨sx, ⟨us, hDx, hus⟩, y8, y9, y10, y11, y12, y13, rfl⟩
      obtain ⟨d, hd1, hd2⟩ := hxs.get hx
      rw [List.getElem?_map] at hd1
      obtain ⟨k, hki, rfl⟩ := Option.map_eq_some_iff.mp hd1
      have kf := kfact k (List.mem_of_getElem? hki)
      have hj : j < 100 := by
        have := (List.getElem?_eq_some_iff.mp hki).1
        omega
      have s2x := h2.trans sx
      refine ⟨_, rfl, .inl ⟨rfl, _, SqL.of hDx⟩, _, rfl, x, k, rfl, hd2.same s2x, kf.ne, kf.len, kf.lo, fun t1 Ha sa na hta => ?_⟩
      refine ⟨t1, _, _, _, rfl, rfl, SqT.of hta, atI_nat (j := 0) rfl, ?_⟩
      refine ⟨_, rfl, _, rfl, _, rfl, _, rfl, _, rfl, _, rfl, x, x0, x1, x2, v1, v2, s0, s1, s2, ps, qs, k, rfl, R.same (h12.trans (sx.trans sa)), l0, hd2.same (s2x.trans sa), kf, fun l Hb xs' sb nl hl hds => ?_⟩
      have sxb := sa.trans sb
      have hDb := sxb _ _ hDx
      have lD : l ≠ D := fun e => by rw [e, sa _ _ hDx] at nl; cases nl
      refine ⟨ll20 (by show 2 ≤ 20; decide), fun q nq => ?_⟩
      have sq := same_upd (o := .tup [V.int (firstK k), V.ref l]) nq
      have hq := upd_same (H := Hb) (a := q) (o := .tup [V.int (firstK k), V.ref l])
      generalize upd Hb q (.tup [V.int (firstK k), V.ref l]) = Hc at sq hq ⊢
      have sxc := sxb.trans sq
      have hDc := sq _ _ hDb
      refine ⟨D, _, _, rfl, rfl, hDc, ?_, fun b' o' h => ?_, ⟨us ++ [q], ?_, ?_⟩, _, _, _, _, _, _, rfl⟩
      · rw [hus.len, List.length_append, List.length_map, List.length_take]
        exact Nat.lt_of_le_of_lt (show _ ≤ 200 by omega) (by decide)
      · rw [upd_ne (ne_of_none h nD)]
        exact sxc _ _ (sx _ _ h)
      · rw [upd_same, refs_snoc]
      · rw [List.take_add_one, hki, List.map_append, ← List.append_assoc]
        exact (hus.mono fun _ _ _ _ k => (k.same sxc).updD hDc).append (.one (PartAt.updD hDc ⟨l, xs', hq, lD, sq _ _ hl, hds.same (noL_same sq), tokK_len kf l1' l2'⟩))
    rintro σ H4 ⟨s4, ⟨us, hD4, hus⟩, y8, y9, y10, y11, y12, y13, rfl⟩
    rw [kslen, List.take_length] at hus
    have hus : LAt (PartAt K D H4) us (partsL s0 s1 s2 ps qs) := hus
    have plen : (partsL s0 s1 s2 ps qs).length ≤ 140 := by
      unfold partsL
      rw [List.length_append, List.length_map]
      omega
    have h14 := h12.trans s4
    have hT4 := hT.ext h14
    have erow : rowP s0 s1 s2 ps qs = ((partsL s0 s1 s2 ps qs).mergeSort lePart).flatMap (·.2) := rfl
    rw [erow] at z
    generalize partsL s0 s1 s2 ps qs = pts at hus plen z
    refine ⟨_, rfl, ⟨hT4, fun fa c' Hl kp tb nf hf hc => ?_⟩⟩
    obtain ⟨pt4, hpt4, _⟩ := id hT4
    have hDl : Hl D = some (.lst (refs us)) := kp _ _ hD4 fun e => by rw [e, hpt4] at hD4; cases hD4
    have husl : LAt (PartAt K D Hl) us pts := hus.mono fun _ _ _ _ k => k.butT hpt4 kp
    have lw : us.length = pts.length := hus.1
    have eW1 : (us.zip pts).map (fun w => w.1) = us := List.map_fst_zip (by omega)
    have eW2 : (us.zip pts).map (fun w => w.2) = pts := List.map_snd_zip (by omega)
    have hW : ∀ w ∈ us.zip pts, PartAt K D Hl w.1 w.2 := fun w hw => by
      obtain ⟨i, hi⟩ := List.getElem?_of_mem hw
      rw [List.getElem?_zip_eq_some] at hi
      obtain ⟨u, e1, e2⟩ := husl.2 i w.2 hi.2
      rw [hi.1] at e1
      cases e1
      exact e2
    generalize us.zip pts = W at eW1 eW2 hW
    refine ⟨D, fa, c', W.map fun w => (V.ref w.1, w.2.1), fun _ H' => H' = Hl, rfl, rfl, SqL.of ?_, rfl, fun j zz H' hz e => ?_, fun p H' e np => ?_⟩
    · rw [hDl, List.map_map, ← eW1]
      unfold refs
      rw [List.map_map]
      rfl
    · subst e
      rw [List.getElem?_map] at hz
      obtain ⟨w, hw, rfl⟩ := Option.map_eq_some_iff.mp hz
      obtain ⟨l, xs, q1, _⟩ := hW w (List.mem_of_getElem? hw)
      exact ⟨hf, hc, _, rfl, w.1, _, _, _, rfl, rfl, SqT.of q1, atI_nat (j := 0) rfl, rfl, rfl⟩
    subst e
    have eS : ((W.map fun w => ((V.ref w.1, w.2.1) : V × Int)).mergeSort fun x y => decide (x.2 ≤ y.2)).map (·.1) = refs ((W.mergeSort fun a b => lePart a.2 b.2).map (·.1)) := by
      rw [← List.map_mergeSort (r := fun a b : Addr × Part => lePart a.2 b.2) (f := fun w => ((V.ref w.1, w.2.1) : V × Int)) (fun a _ b _ => rfl)]
      unfold refs
      rw [List.map_map, List.map_map]
      rfl
    have eP : pts.mergeSort lePart = (W.mergeSort fun a b => lePart a.2 b.2).map (·.2) := by
      rw [← eW2, List.map_mergeSort (r := fun a b : Addr × Part => lePart a.2 b.2) (s := lePart) (f := fun w => w.2) (fun a _ b _ => rfl)]
    rw [eS]
    rw [eP] at z
    have wlen : (W.mergeSort fun a b => lePart a.2 b.2).length ≤ 140 := by
      rw [List.length_mergeSort, show W.length = pts.length by rw [← eW2, List.length_map]]
      exact plen
    have hW' : ∀ w ∈ W.mergeSort fun a b => lePart a.2 b.2, PartAt K D H' w.1 w.2 := fun w hw => hW w (List.mem_mergeSort.mp hw)
    generalize (W.mergeSort fun a b => lePart a.2 b.2) = S at z wlen hW'
    have sp := same_upd (o := .lst (refs (S.map (·.1)))) np
    have hp := upd_same (H := H') (a := p) (o := .lst (refs (S.map (·.1))))
    have tbp := tb.ext sp
    have nLp := noL_new (ys := refs (S.map (·.1))) np
    have hSp : ∀ w ∈ S, PartAt K D (upd H' p (.lst (refs (S.map (·.1))))) w.1 w.2 := fun w hw => (hW' w hw).same sp
    have kpp : ButT T H (upd H' p (.lst (refs (S.map (·.1))))) := ((ButT.of h14).trans kp).trans (.of sp)
    generalize upd H' p (.lst (refs (S.map (·.1)))) = Hp at sp hp tbp hSp kpp ⊢
    refine ⟨p, rfl, ⟨_, SqL.of hp⟩, fun D2 nD2 => ?_⟩
    have slS : (refs (S.map (·.1))).length = S.length := by unfold refs; rw [List.length_map, List.length_map]
    have cap : ∀ i, ((S.take i).flatMap fun w => w.2.2).length ≤ 6000 * 140 := fun i => by
      have key : ∀ L : List (Addr × Part), (∀ w ∈ L, w.2.2.length ≤ 6000) → (L.flatMap fun w => w.2.2).length ≤ 6000 * L.length := by
        intro L
        induction L with
        | nil => intro _; exact Nat.zero_le _
        | cons w L ih =>
          intro h
          have := ih fun x hx => h x (List.mem_cons_of_mem _ hx)
          have h0 := h w (List.mem_cons_self ..)
          rw [List.flatMap_cons, List.length_append, List.length_cons, Nat.mul_succ]
          omega
      have h1 := key (S.take i) fun w hw => by
        obtain ⟨_, _, _, _, _, _, q⟩ := hSp w (List.mem_of_mem_take hw)
        exact q
      rw [List.length_take] at h1
      omega
    refine lc_out (walk_list (K := K) (a := p) (xs := refs (S.map (·.1)))) (fun i Hx => Same Hp Hx ∧ ∃ ys, Hx D2 = some (.lst ys) ∧ DqAll K (noL Hx) ys (((S.take i).flatMap fun w => w.2.2).map tokD)) ⟨same_upd nD2, [], upd_same, .nil⟩ (fun i Hx _ hh => SqL.of (hh.1 _ _ hp)) ?_ ?_
    · rintro i x Ha Hb hi ⟨sx, ys, hD2, hys⟩ ⟨rfl, hx⟩
      obtain ⟨w, rfl, hw⟩ : ∃ w, x = V.ref w.1 ∧ S[i]? = some w := by
        unfold refs at hx
        rw [List.getElem?_map, List.getElem?_map] at hx
        obtain ⟨a1, e1, e2⟩ := Option.map_eq_some_iff.mp hx
        obtain ⟨a2, e3, e4⟩ := Option.map_eq_some_iff.mp e1
        exact ⟨a2, by rw [← e2, ← e4], e3⟩
      obtain ⟨l, xs, q1, q2, q3, q4, q5⟩ := hSp w (List.mem_of_getElem? hw)
      have q4x := q4.same (noL_same sx)
      refine ⟨w.1, _, rfl, SqT.of (sx _ _ q1), rfl, _, _, rfl, _, _, rfl, rfl, rfl, ?_⟩
      unfold tYes
      dsimp only
      rw [if_pos rfl]
      refine ⟨_, rfl, l, rfl, ⟨_, SqL.of (sx _ _ q3)⟩, ?_⟩
      have lxs : xs.length = w.2.2.length := by rw [q4.length, List.length_map]
      refine lc_out (walk_list (K := K) (a := l) (xs := xs)) (fun j Hy => Same Hp Hy ∧ ∃ ys', Hy D2 = some (.lst ys') ∧ DqAll K (noL Hy) ys' ((((S.take i).flatMap fun w => w.2.2) ++ w.2.2.take j).map tokD)) ⟨sx, ys, hD2, by rw [List.take_zero, List.append_nil]; exact hys⟩ (fun j Hy _ hh => SqL.of (hh.1 _ _ q3)) ?_ ?_
      · rintro j y Hc Hd hj ⟨sc, ys', hD2', hys'⟩ ⟨rfl, hy⟩
        obtain ⟨d, hd1, hd2⟩ := q4.get hy
        rw [List.getElem?_map] at hd1
        obtain ⟨tk, htk, rfl⟩ := Option.map_eq_some_iff.mp hd1
        refine ⟨rfl, ?_⟩
        rw [if_pos rfl]
        refine ⟨_, rfl, _, hD2', ?_, fun b' o' h => ?_, ys' ++ [y], upd_same, ?_⟩
        · have e1 := hys'.length
          rw [List.length_map, List.length_append, List.length_take] at e1
          have := cap i
          exact Nat.lt_of_le_of_lt (show _ ≤ 6000 * 140 + 6000 by omega) (by decide)
        · rw [upd_ne (ne_of_none h nD2)]
          exact sc _ _ h
        · rw [noL_upd hD2', List.take_add_one, htk, ← List.append_assoc, List.map_append]
          exact hys'.append (.cons (hd2.same (noL_same sc)) .nil)
      · rintro Hy ⟨sc, ys', hD2', hys'⟩
        refine ⟨sc, ys', hD2', ?_⟩
        rw [lxs, List.take_length] at hys'
        rw [List.take_add_one, hw, List.flatMap_append]
        simpa using hys'
    rintro Hx ⟨sx, ys, hD2, hys⟩
    rw [slS, List.take_length] at hys
    have nD2' : D2 ≠ T := fun e => by
      obtain ⟨pt, hpt, _⟩ := tbp
      rw [e, hpt] at nD2
      cases nD2
    refine z D2 Hx ys (kpp.trans (.of sx)) (tbp.ext sx) ?_ hD2 ?_
    · cases e : H D2 with
      | none => rfl
      | some o => rw [kpp _ _ e nD2'] at nD2; cases nD2
    · rw [List.flatMap_map]
      exact hys
end
end K62
namespace XR
open PySem L2 KT
/-- the merged row -/
def rowD (s0 s1 s2 : List Str) (ps qs : List (Nat × Nat)) : List PyData := (rowP s0 s1 s2 ps qs).map (·.1)
theorem rowP_len {K : PySem.W.Frag} {H : Hp} {x0 x1 x2 v1 v2 : V} {s0 s1 s2 : List Str} {ps qs : List (Nat × Nat)} (R : RowIn K H x0 x1 x2 v1 v2 s0 s1 s2 ps qs) (l0 : s0.length ≤ 40) : (rowP s0 s1 s2 ps qs).length ≤ 6000 * 140 := by
  obtain ⟨nks, kf⟩ := R.kn l0
  have key : ∀ L : List Part, (∀ w ∈ L, w.2.length ≤ 6000) → (L.flatMap fun w => w.2).length ≤ 6000 * L.length := by
    intro L
    induction L with
    | nil => intro _; exact Nat.zero_le _
    | cons w L ih =>
      intro h
      have := ih fun x hx => h x (List.mem_cons_of_mem _ hx)
      have h0 := h w (List.mem_cons_self ..)
      rw [List.flatMap_cons, List.length_append, List.length_cons, Nat.mul_succ]
      omega
  unfold rowP
  have h1 := key ((partsL s0 s1 s2 ps qs).mergeSort lePart) fun w hw => by
    have hw := List.mem_mergeSort.mp hw
    unfold partsL standP at hw
    rcases List.mem_append.mp hw with h | h
    · obtain ⟨i, _, rfl⟩ := List.mem_map.mp h
      show 1 ≤ 6000; decide
    · obtain ⟨k, hk, rfl⟩ := List.mem_map.mp h
      exact tokK_len (kf k hk) R.t1.len R.t2.len
  rw [List.length_mergeSort] at h1
  have : (partsL s0 s1 s2 ps qs).length ≤ 140 := by
    unfold partsL standP
    rw [List.length_append, List.length_map, List.length_map]
    have := List.length_filter_le (fun i => decide (fateF s1 s2 (knR s0 s1 s2 ps qs) i = "stands")) (List.range s0.length)
    rw [List.length_range] at this
    omega
  omega
def spMerged (K : PySem.W.Frag) (T : Addr) : Sp := fun vs H Q _ => ∃ (x0 x1 x2 v1 v2 : V) (s0 s1 s2 : List Str) (ps qs : List (Nat × Nat)), vs = [x0, x1, x2, v1, v2] ∧ RowIn K H x0 x1 x2 v1 v2 s0 s1 s2 ps qs ∧ s0.length ≤ 40 ∧ LamX.TabS H T lamQ ∧
  ∀ t H' xs, ButT T H H' → LamX.TabS H' T lamQ → H t = none → H' t = some (.tup xs) → DqAll K (noL H') xs (rowD s0 s1 s2 ps qs) → Q (.ref t) H'
end XR
namespace K62
open PySem L2 XR KT
section
variable {P : Program} {w : World} {K : PySem.W.Frag} {mg : Str → Option Value} {base : Heap}
abbrev sMerged : Stmt := top 30
abbrev nMerged : List Str := ["base", "one", "two", "diff_one", "diff_two", "token", "_"]
theorem scMerged : FnScope nMerged nVers (defScope sMerged) := ⟨rfl, rfl, rfl, by decide +kernel, rfl, by decide +kernel, by decide +kernel⟩
theorem ok_merged {f fT T : Addr} {fd fdT : FuncData} (F : Fun K "merged" "merged" sMerged f fd) (B : Blt mg)
    (FT : Fun K "tokens_with_origins" "tokens_with_origins" sTWO fT fdT) (GT : FnOk P w K mg base CX0 9 fT fdT nVers (spTWO K T)) (bT : Binds K fdT nVers []) (mT : mg "tokens_with_origins" = some (.ref fT)) : FnOk P w K mg base CX0 10 f fd nVers (spMerged K T) := by
  refine F.ok scMerged (fun vs H Q E h => ?_) (fun cdv A outer s H vs Q E hr h => ?_)
  · obtain ⟨x0, x1, x2, v1, v2, s0, s1, s2, ps, qs, rfl, _⟩ := h
    rfl
  · obtain ⟨x0, x1, x2, v1, v2, s0, s1, s2, ps, qs, rfl, R, l0, hT, z⟩ := h
    refine ⟨_, pss_one (ps_ret (pe_callTy call_tuple_of (by rfl) (B.all "tuple" (by decide)) (by decide +kernel) (pa_cons (pe_lc (own := [("token", 5), ("_", 6)]) (g := gTup K 2 (gCons (gName 5) (gCons (gName 6) gNil))) (tt := tYes) (te := tVar 5) rfl scMerged.nd
        (pi_list (pe_call GT hr rfl mT FT.kp bT .nil pass0 (pa_cons (pv 0) (pa_cons (pv 1) (pa_cons (pv 2) (pa_cons (pv 3) (pa_cons (pv 4) pa_nil)))))))
        (blkOk_by (own := [("token", 5), ("_", 6)]) (N := nMerged) (sc := defScope sMerged) (by decide +kernel)) (fun _ _ _ _ _ => pg_tup rfl (pgs_cons (pg_name (i := 5) scMerged.nd rfl (.inl rfl)) (pgs_cons (pg_name (i := 6) scMerged.nd rfl (.inl rfl)) pgs_nil))) (fun _ _ _ _ _ => pts_nil) (fun _ _ _ _ _ => pv 5)) pa_nil))), ?_⟩
    have rl := rowP_len R l0
    refine ⟨_, rfl, _, rfl, _, rfl, _, rfl, _, rfl, x0, x1, x2, v1, v2, s0, s1, s2, ps, qs, rfl, R, l0, hT, fun l H1 xs kp tb nl hl hds => ⟨l, rfl, ⟨_, SqL.of hl⟩, fun D nD => ?_⟩⟩
    have lxs : xs.length = (rowP s0 s1 s2 ps qs).length := by rw [hds.length, List.length_map]
    refine lc_list (K := K) (a := l) (xs := xs) (fun i Hx => Same H1 Hx ∧ ∃ ys, Hx D = some (.lst ys) ∧ DqAll K (noL H1) ys (((rowP s0 s1 s2 ps qs).take i).map (·.1))) ⟨same_upd nD, [], upd_same, .nil⟩ (fun i Hx _ hh => SqL.of (hh.1 _ _ hl)) ?_ ?_
    · rintro i x Hx hx ⟨sx, ys, hD, hys⟩
      obtain ⟨d, hd1, hd2⟩ := hds.get hx
      rw [List.getElem?_map] at hd1
      obtain ⟨tk, htk, rfl⟩ := Option.map_eq_some_iff.mp hd1
      obtain ⟨r, zs, rfl, hr1, hzs⟩ := tup_of hd2
      cases hzs with
      | @cons z1 _ _ _ q1 hzs => cases hzs with
        | @cons z2 _ _ _ q2 hzs =>
          cases hzs
          have hr1x := XR.Same.tup (noL_le.trans sx) hr1
          refine ⟨r, _, rfl, hr1x, rfl, _, _, rfl, _, _, rfl, rfl, rfl, ?_⟩
          unfold tYes
          dsimp only
          rw [if_pos rfl]
          refine ⟨_, rfl, _, hD, ?_, fun b' o' h => ?_, ys ++ [z1], upd_same, ?_⟩
          · have e1 := hys.length
            rw [List.length_map, List.length_take] at e1
            exact Nat.lt_of_le_of_lt (show _ ≤ 6000 * 140 by omega) (by decide)
          · rw [upd_ne (ne_of_none h nD)]
            exact sx _ _ h
          · rw [List.take_add_one, htk, List.map_append]
            exact hys.append (.cons q1 .nil)
    rintro H2 ⟨s2, ys, hD, hys⟩
    rw [lxs, List.take_length] at hys
    refine ⟨D, ys, rfl, .inl ⟨SqL.of hD, fun t nt => ?_⟩⟩
    have st := same_upd (o := .tup ys) nt
    have s2t := s2.trans st
    obtain ⟨pt, hpt, _⟩ := id tb
    refine z t _ ys (kp.trans (.of s2t)) (tb.ext s2t) ?_ upd_same (hys.same (noL_same s2t))
    cases e : H t with
    | none => rfl
    | some o =>
      by_cases c : t = T
      · rw [c] at nt
        rw [s2 _ _ hpt] at nt
        cases nt
      · rw [s2 _ _ (kp _ _ e c)] at nt
        cases nt
end
end K62
namespace XR
open PySem L2 KT
theorem CaseAt'.g1 {H : Hp} {c ra ta da wa t1 t2 d1 d2 : Addr} {C : CaseD} (h : CaseAt' H c ra ta da wa t1 t2 d1 d2 C) : DGet H c (.str "root") (some (.ref ra)) := by
  have := DGet.k (k := Sum.inr "root") h.h
  rw [case_root] at this
  exact this
theorem CaseAt'.g2 {H : Hp} {c ra ta da wa t1 t2 d1 d2 : Addr} {C : CaseD} (h : CaseAt' H c ra ta da wa t1 t2 d1 d2 C) : DGet H c (.str "texts") (some (.ref ta)) := by
  have := DGet.k (k := Sum.inr "texts") h.h
  rw [case_texts] at this
  exact this
theorem CaseAt'.g3 {H : Hp} {c ra ta da wa t1 t2 d1 d2 : Addr} {C : CaseD} (h : CaseAt' H c ra ta da wa t1 t2 d1 d2 C) : DGet H c (.str "diffs") (some (.ref da)) := by
  have := DGet.k (k := Sum.inr "diffs") h.h
  rw [case_diffs] at this
  exact this
end XR
namespace XR
open PySem L2 KT
theorem covs_eqv : ∀ S : List Blk, PyData.eqvAll (S.map covD) (S.map covD) = true
  | [] => by simp [PyData.eqvAll]
  | b :: S => by rw [List.map_cons, PyData.eqvAll, covs_eqv S, Bool.and_true]; exact (eqv_cov b b).mpr rfl
theorem cov_lay (b : Blk) : PyData.canLay0 (covD b) = true ∧ PyData.depth (covD b) ≤ 1 := by
  constructor
  · simp [covD, PyData.canLay0, PyData.canLayAll0]
  · simp [covD, PyData.depth, PyData.depthAll]
theorem covs_shaped (S : List Blk) : SeqAt.shaped (.list (S.map covD)) = true := by
  obtain ⟨h1, h2⟩ := layAll (k := 1) (ds := S.map covD) fun d hd => by
    obtain ⟨x, _, rfl⟩ := List.mem_map.mp hd
    exact cov_lay x
  unfold SeqAt.shaped
  rw [Bool.and_eq_true, decide_eq_true_eq]
  refine ⟨by simp only [PyData.canLay0, h1], ?_⟩
  have e : (PyData.list (S.map covD)).depth = PyData.depthAll (S.map covD) + 1 := by simp only [PyData.depth]
  omega
theorem CovAt.dp {K : PySem.W.Frag} {H : Hp} {t : Addr} {b : Blk} (h : CovAt H t b) : Dp K H (.ref t) (covD b) := .tup (SqT.of h) (.cons (.int _) (.cons (.int _) .nil))
theorem CovAt.same {H H' : Hp} {t : Addr} {b : Blk} (s : Same H H') (h : CovAt H t b) : CovAt H' t b := s _ _ h
theorem CovAt.updL {H : Hp} {t p : Addr} {b : Blk} {xs ys : List V} (h : CovAt H t b) (k : H p = some (.lst xs)) : CovAt (upd H p (.lst ys)) t b := by
  unfold CovAt at h ⊢
  rw [upd_ne (fun q => by rw [q, k] at h; cases h)]
  exact h
/-- the spans of blocks, in a new list -/
theorem cov_read {K : PySem.W.Frag} {H : Hp} {Q : VK} {lp : Addr} {rs : List Addr} {S : List Blk} {x0 x1 x2 x3 x5 x6 x7 x8 x9 : Option V} (h : H lp = some (.lst (refs rs))) (hb : BsAt H rs S) (lo : ∀ b ∈ S, b.1 ≤ 100 ∧ b.2.1 ≤ 100) (len : S.length ≤ 1000)
    (z : ∀ (D : Addr) (ts : List Addr) H', Same H H' → H D = none → H' D = some (.lst (refs ts)) → LAt (CovAt H') ts S → Q (.ref D) H') :
    tLc (iList K (tVar 4)) (gName 8) tYes (tCall (spCover K) [] E0 (tCons (tVar 8) tNil)) [8] [x0, x1, x2, x3, some (.ref lp), x5, x6, x7, x8, x9] H Q := by
  refine ⟨_, rfl, lp, rfl, ⟨_, SqL.of h⟩, fun D nD => ?_⟩
  refine lc_list (K := K) (a := lp) (xs := refs rs) (fun j Hx => Same H Hx ∧ ∃ ts, Hx D = some (.lst (refs ts)) ∧ LAt (CovAt Hx) ts (S.take j)) ⟨same_upd nD, [], upd_same, .nil⟩ (fun j Hx _ hh => SqL.of (hh.1 _ _ h)) ?_ ?_
  · rintro j x Hx hx ⟨sx, ts, hD, hts⟩
    obtain ⟨r, b, rfl, _, hbj, hr⟩ := hb.lat.at hx
    have lw := lo b (List.mem_of_getElem? hbj)
    refine ⟨rfl, ?_⟩
    unfold tYes
    dsimp only
    rw [if_pos rfl]
    refine ⟨_, rfl, r, b, rfl, fourV_sq (sx _ _ hr), lw.1, lw.2, fun t H2 s2 nt ht => ?_⟩
    have hD2 := s2 _ _ hD
    refine ⟨_, hD2, ?_, fun b o h => ?_, ts ++ [t], ?_, ?_⟩
    · rw [hts.len, List.length_take]
      exact Nat.lt_of_le_of_lt (Nat.le_trans (Nat.min_le_right _ _) len) (by decide)
    · rw [upd_ne (ne_of_none h nD)]
      exact s2 _ _ (sx _ _ h)
    · rw [upd_same, refs_snoc]
    · rw [List.take_add_one, hbj]
      exact (hts.mono fun _ _ _ _ k => (k.same s2).updL hD2).append (.one (CovAt.updL ht hD2))
  rintro H2 ⟨s2, ts, hD, hts⟩
  rw [hb.lat.len, List.take_length] at hts
  exact z D ts H2 s2 nD hD hts
/-- a text, in a list or a tuple, raw -/
def TxR (H : Hp) (x : V) (ss : List Str) : Prop := ∃ p, x = .ref p ∧ (H p = some (.lst (ss.map .str)) ∨ H p = some (.tup (ss.map .str)))
theorem TxR.but {a : Addr} {H H' : Hp} {x : V} {ss : List Str} (b : But a H H') (hp : PotAt H a) (h : TxR H x ss) : TxR H' x ss := by
  obtain ⟨p, e, h | h⟩ := h
  · exact ⟨p, e, .inl (b _ _ h (pot_neL hp h (strs_ne _)))⟩
  · exact ⟨p, e, .inr (b.tup hp h)⟩
theorem TxR.same {H H' : Hp} {x : V} {ss : List Str} (s : Same H H') (h : TxR H x ss) : TxR H' x ss := by
  obtain ⟨p, e, h | h⟩ := h
  · exact ⟨p, e, .inl (s _ _ h)⟩
  · exact ⟨p, e, .inr (s _ _ h)⟩
theorem TxR.v {K : PySem.W.Frag} {H : Hp} {x : V} {ss : List Str} (h : TxR H x ss) (w : Lns ss) (l : ss.length ≤ 60) : TxV K H x ss := by
  obtain ⟨p, rfl, h | h⟩ := h
  · exact lst_textL (SqL.of h) w l
  · exact tup_textL (SqT.of h) w l
def spKRight : Sp := fun vs H Q _ => ∃ (a : Addr), vs = [.ref a] ∧ PotAt H a ∧ ∀ H', PotAt H' a → But a H H' → Q (.bl true) H'
end XR
namespace XR
open PySem L2 KT
/-- what the knots of a case are like -/
theorem CaseOk.kn {C : CaseD} (ok : CaseOk C) : (knC C).length ≤ 16 ∧ ∀ k ∈ knC C, KnFact C.s0 C.s1 C.s2 k := by
  have tl := told_le ok
  have sp0 := blocks_spread ok.p
  have sp1 := blocks_spread ok.q
  have l0 := ok.l0
  refine ⟨Nat.le_trans (knots_count _ _) tl, fun k hk => ?_⟩
  obtain ⟨i1, i2, kne, n1, n2⟩ := knots_in hk
  refine ⟨fun b hb => ⟨(sp0.good b (i1 b hb)).2.1, (blocks_le ok.p (i1 b hb)).2.2.2⟩, fun b hb => ⟨(sp1.good b (i2 b hb)).2.1, (blocks_le ok.q (i2 b hb)).2.2.2⟩, kne, by rw [List.length_append]; omega, by omega, by omega, fun b hb => ?_⟩
  rcases List.mem_append.mp hb with q | q
  · have := blocks_le ok.p (i1 b q)
    omega
  · have := blocks_le ok.q (i2 b q)
    omega
/-- the clash of a knot -/
def clashK (s1 s2 : List Str) (ps qs : List (Nat × Nat)) (k : List Blk × List Blk) : PyData := clashD (loN k) (hiN k) (withinL s1 ps k.1 (loN k) (hiN k)) (withinL s2 qs k.2 (loN k) (hiN k))
def spClash (K : PySem.W.Frag) : Sp := fun vs H Q _ => ∃ (c ra ta da wa t1 t2 d1 d2 : Addr) (C : CaseD) (x : V) (k : List Blk × List Blk), vs = [.ref c, x] ∧ CaseAt' H c ra ta da wa t1 t2 d1 d2 C ∧ CaseOk C ∧ Dq K H x (knD k) ∧ KnFact C.s0 C.s1 C.s2 k ∧
  ∀ t H', Same H H' → H t = none → Dq K (noL H') (.ref t) (clashK C.s1 C.s2 C.ps C.qs k) → Q (.ref t) H'
end XR
namespace XR
open PySem L2 KT
theorem kind_shape (k : List Blk × List Blk) (s1 s2 : List Str) : kindL k s1 s2 = "going" ∨ (kindL k s1 s2 = "two" ∧ ∃ b, k = ([], [b])) ∨ (kindL k s1 s2 = "one" ∧ ∃ b, k = ([b], [])) ∨
    (kindL k s1 s2 = "alike" ∧ ∃ b c, k = ([b], [c]) ∧ b.1 = c.1 ∧ b.2.1 = c.2.1 ∧ seg s1 b.2.2.1 b.2.2.2 = seg s2 c.2.2.1 c.2.2.2) ∨ kindL k s1 s2 = "clash" := by
  obtain ⟨k1, k2⟩ := k
  unfold kindL
  split
  · exact .inl rfl
  · split
    · rename_i h
      have h : (k1 ++ k2).length = 1 := h
      match k1, k2, h with
      | [], [b], _ => exact .inr (.inl ⟨rfl, b, rfl⟩)
      | [b], [], _ => exact .inr (.inr (.inl ⟨rfl, b, rfl⟩))
      | [], [], h => cases h
      | [_], _ :: _, h => simp at h
      | _ :: _ :: _, _, h => simp at h
      | [], _ :: _ :: _, h => simp at h
    · match k1, k2 with
      | [b], [c] =>
        by_cases e : b.1 = c.1 ∧ b.2.1 = c.2.1
        · by_cases e2 : seg s1 b.2.2.1 b.2.2.2 = seg s2 c.2.2.1 c.2.2.2
          · exact .inr (.inr (.inr (.inl ⟨by show (if _ then _ else _) = _; rw [if_pos e, if_pos e2], b, c, rfl, e.1, e.2, e2⟩)))
          · exact .inr (.inr (.inr (.inr (by show (if _ then _ else _) = _; rw [if_pos e, if_neg e2]))))
        · exact .inr (.inr (.inr (.inr (by show (if _ then _ else _) = _; rw [if_neg e]))))
      | [], _ => exact .inr (.inr (.inr (.inr rfl)))
      | [_], [] => exact .inr (.inr (.inr (.inr rfl)))
      | [_], _ :: _ :: _ => exact .inr (.inr (.inr (.inr rfl)))
      | _ :: _ :: _, _ => exact .inr (.inr (.inr (.inr rfl)))
theorem numB_lines {ss : List Str} {b : Blk} (h : b.2.2.2 ≤ ss.length) : (numB b).map (fun j => ss.getD (j - 1) "") = seg ss b.2.2.1 b.2.2.2 := by
  unfold numB seg
  rw [List.map_map]
  refine List.ext_getElem? fun i => ?_
  rw [List.getElem?_map]
  by_cases hi : i < b.2.2.2 - b.2.2.1
  · rw [List.getElem?_range hi, List.getElem?_take_of_lt hi, List.getElem?_drop]
    have hlt : b.2.2.1 + i < ss.length := by omega
    rw [List.getElem?_eq_getElem hlt]
    show some (ss.getD (b.2.2.1 + 1 + i - 1) "") = _
    rw [show b.2.2.1 + 1 + i - 1 = b.2.2.1 + i by omega, List.getD_eq_getElem?_getD, List.getElem?_eq_getElem hlt]
    rfl
  · rw [List.getElem?_eq_none (by rw [List.length_range]; omega), List.getElem?_eq_none (by rw [List.length_take, List.length_drop]; omega)]
    rfl
def strsD (ss : List Str) : List PyData := ss.map .str
/-- what a knot puts into the row -/
def putL (s1 s2 : List Str) (ps qs : List (Nat × Nat)) (k : List Blk × List Blk) : List PyData := (tokK s1 s2 ps qs k).map (·.1)
theorem putL_one {s1 s2 : List Str} {ps qs : List (Nat × Nat)} {b : Blk} (h : b.2.2.2 ≤ s1.length) (e : kindL ([b], []) s1 s2 = "one") : putL s1 s2 ps qs ([b], []) = strsD (seg s1 b.2.2.1 b.2.2.2) := by
  unfold putL tokK
  rw [if_neg (by rw [e]; decide +kernel), if_pos e, List.map_map, ← numB_lines h]
  unfold strsD numsB
  rw [List.map_map]
  simp [lnTok, Function.comp_def]
theorem putL_two {s1 s2 : List Str} {ps qs : List (Nat × Nat)} {b : Blk} (h : b.2.2.2 ≤ s2.length) (e : kindL ([], [b]) s1 s2 = "two") : putL s1 s2 ps qs ([], [b]) = strsD (seg s2 b.2.2.1 b.2.2.2) := by
  unfold putL tokK
  rw [if_neg (by rw [e]; decide +kernel), if_neg (by rw [e]; decide +kernel), if_pos e, List.map_map, ← numB_lines h]
  unfold strsD numsB
  rw [List.map_map]
  simp [lnTok, Function.comp_def]
theorem seg_length {ss : List Str} {a b : Nat} (h1 : a ≤ b) (h : b ≤ ss.length) : (seg ss a b).length = b - a := by
  unfold seg
  rw [List.length_take, List.length_drop]
  omega
theorem putL_alike {s1 s2 : List Str} {ps qs : List (Nat × Nat)} {b c : Blk} (hb : b.2.2.1 ≤ b.2.2.2 ∧ b.2.2.2 ≤ s1.length) (hc : c.2.2.1 ≤ c.2.2.2 ∧ c.2.2.2 ≤ s2.length) (es : seg s1 b.2.2.1 b.2.2.2 = seg s2 c.2.2.1 c.2.2.2) (e : kindL ([b], [c]) s1 s2 = "alike") : putL s1 s2 ps qs ([b], [c]) = strsD (seg s1 b.2.2.1 b.2.2.2) := by
  unfold putL tokK
  rw [if_neg (by rw [e]; decide +kernel), if_neg (by rw [e]; decide +kernel), if_neg (by rw [e]; decide +kernel), if_pos e, List.map_map]
  have el : (numB b).length = (numB c).length := by
    have := congrArg List.length es
    rw [seg_length hb.1 hb.2, seg_length hc.1 hc.2] at this
    rw [numB_len, numB_len, this]
  have z1 : ((numsB [b]).zip (numsB [c])).map (fun q => q.1) = numB b := by
    unfold numsB
    rw [List.flatMap_cons, List.flatMap_cons, List.flatMap_nil, List.append_nil, List.append_nil]
    exact List.map_fst_zip (by omega)
  have e2 : (((numsB [b]).zip (numsB [c])).map ((fun x : TokP => x.1) ∘ bothTok s1)) = (((numsB [b]).zip (numsB [c])).map (fun q => q.1)).map fun j => PyData.str (s1.getD (j - 1) "") := by
    rw [List.map_map]
    rfl
  show ((numsB [b]).zip (numsB [c])).map ((fun x : TokP => x.1) ∘ bothTok s1) = _
  rw [e2, z1, ← numB_lines hb.2]
  unfold strsD
  rw [List.map_map]
  rfl
theorem putL_going {s1 s2 : List Str} {ps qs : List (Nat × Nat)} {k : List Blk × List Blk} (e : kindL k s1 s2 = "going") : putL s1 s2 ps qs k = [] := by
  unfold putL tokK
  rw [if_neg (by rw [e]; decide +kernel), if_neg (by rw [e]; decide +kernel), if_neg (by rw [e]; decide +kernel), if_neg (by rw [e]; decide +kernel)]
  rfl
theorem putL_clash {s1 s2 : List Str} {ps qs : List (Nat × Nat)} {k : List Blk × List Blk} (e : kindL k s1 s2 = "clash") : putL s1 s2 ps qs k = [clashK s1 s2 ps qs k] := by
  unfold putL tokK
  rw [if_pos e]
  rfl
def spPut (K : PySem.W.Frag) : Sp := fun vs H Q _ => ∃ (c ra ta da wa t1 t2 d1 d2 : Addr) (C : CaseD) (x : V) (k : List Blk × List Blk), vs = [.ref c, x] ∧ CaseAt' H c ra ta da wa t1 t2 d1 d2 C ∧ CaseOk C ∧ CaseWd C ∧ Dq K H x (knD k) ∧ KnFact C.s0 C.s1 C.s2 k ∧
  ∀ t H' xs, Same H H' → H t = none → H' t = some (.tup xs) → DqAll K (noL H') xs (putL C.s1 C.s2 C.ps C.qs k) → Q (.ref t) H'
end XR
namespace XR
open PySem L2 KT
def covB (p : Int) (b : Blk) : Bool := decide ((coverB b).1 ≤ p ∧ p ≤ (coverB b).2)
/-- what is true of the knots of two versions -/
structure KnSeq (ks : List (List Blk × List Blk)) (m : Nat) : Prop where
  le : ∀ k ∈ ks, firstK k ≤ lastK k
  be : ks.Pairwise fun k h => lastK k < firstK h
  co : ∀ k ∈ ks, ∀ p : Int, firstK k ≤ p → p ≤ lastK k → ∃ b ∈ k.1 ++ k.2, covB p b = true
  inn : ∀ k ∈ ks, ∀ b ∈ k.1 ++ k.2, firstK k ≤ (coverB b).1 ∧ (coverB b).2 ≤ lastK k
  lo : ∀ k ∈ ks, 0 ≤ firstK k
  hi : ∀ k ∈ ks, lastK k ≤ 2 * (m : Int)
theorem firstK_is {k : List Blk × List Blk} (h : k.1 ++ k.2 ≠ []) : IsMin (firstK k) ((k.1 ++ k.2).map fun b => (coverB b).1) := by
  unfold firstK
  cases e : ((k.1 ++ k.2).map fun b => (coverB b).1).min? with
  | none => exact absurd (List.map_eq_nil_iff.mp (List.min?_eq_none_iff.mp e)) h
  | some m => exact List.min?_eq_some_iff.mp e
theorem lastK_is {k : List Blk × List Blk} (h : k.1 ++ k.2 ≠ []) : IsMax (lastK k) ((k.1 ++ k.2).map fun b => (coverB b).2) := by
  unfold lastK
  cases e : ((k.1 ++ k.2).map fun b => (coverB b).2).max? with
  | none => exact absurd (List.map_eq_nil_iff.mp (List.max?_eq_none_iff.mp e)) h
  | some m => exact List.max?_eq_some_iff.mp e
theorem cov_le {b : Blk} (h : GoodB b) : (coverB b).1 ≤ (coverB b).2 := by
  obtain ⟨h1, h2, h3⟩ := h
  unfold coverB
  split
  · dsimp only; omega
  · dsimp only; omega
theorem side_both {g : List Itm} (h : ∀ x ∈ g, x.1 = 0 ∨ x.1 = 1) {b : Blk} : b ∈ side 0 g ++ side 1 g ↔ ∃ x ∈ g, x.2 = b := by
  unfold side
  rw [List.mem_append, List.mem_map, List.mem_map]
  constructor
  · rintro (⟨x, hx, rfl⟩ | ⟨x, hx, rfl⟩)
    · exact ⟨x, (List.mem_filter.mp hx).1, rfl⟩
    · exact ⟨x, (List.mem_filter.mp hx).1, rfl⟩
  · rintro ⟨x, hx, rfl⟩
    rcases h x hx with e | e
    · exact .inl ⟨x, List.mem_filter.mpr ⟨hx, decide_eq_true e⟩, rfl⟩
    · exact .inr ⟨x, List.mem_filter.mpr ⟨hx, decide_eq_true e⟩, rfl⟩
theorem kn_seq {S0 S1 : List Blk} {m : Nat} (h0 : Spread S0) (h1 : Spread S1) (b0 : ∀ b ∈ S0, b.2.1 ≤ m) (b1 : ∀ b ∈ S1, b.2.1 ≤ m) : KnSeq (knotsL S0 S1) m := by
  have tot : ∀ a b, (leI a b || leI b a) = true := fun a b => by rw [Bool.or_eq_true]; exact leI_tot.total a b
  have srt := (List.pairwise_mergeSort leI_tot.trans tot (told S0 S1)).imp fun h => leI_mon _ _ h
  have I := sweep_inv (lo := loI) (hi := hiI) lo_hi lo_pos ((told S0 S1).mergeSort leI) srt
  have seg := I.seg
  have fl := I.fl
  clear I
  unfold knotsL
  generalize (sweep loI hiI ((told S0 S1).mergeSort leI)).1 = L at seg fl
  have mem : ∀ g ∈ L, ∀ x ∈ g, x ∈ told S0 S1 := fun g hg x hx => (List.mergeSort_perm _ leI).mem_iff.mp (by rw [← fl]; exact List.mem_flatten.mpr ⟨g, hg, hx⟩)
  have good : ∀ x ∈ told S0 S1, GoodB x.2 ∧ (x.1 = 0 ∨ x.1 = 1) ∧ x.2.2.1 ≤ m := fun x hx => by
    unfold told at hx
    rcases List.mem_append.mp hx with h | h
    · obtain ⟨b, hb, rfl⟩ := List.mem_map.mp h
      exact ⟨h0.good b hb, .inl rfl, b0 b hb⟩
    · obtain ⟨b, hb, rfl⟩ := List.mem_map.mp h
      exact ⟨h1.good b hb, .inr rfl, b1 b hb⟩
  have two : ∀ g ∈ L, ∀ b, b ∈ side 0 g ++ side 1 g ↔ ∃ x ∈ g, x.2 = b := fun g hg b => side_both fun x hx => (good x (mem g hg x hx)).2.1
  have ne : ∀ g ∈ L, side 0 g ++ side 1 g ≠ [] := fun g hg e => by
    obtain ⟨x, hx⟩ := List.exists_mem_of_ne_nil g (seg.ne g hg)
    have := (two g hg x.2).mpr ⟨x, hx, rfl⟩
    rw [e] at this
    cases this
  have hiE : ∀ g ∈ L, ∀ x ∈ g, hiI x = (coverB x.2).2 := fun g hg x hx => hi_good (good x (mem g hg x hx)).1
  have fst : ∀ g ∈ L, (∃ x ∈ g, loI x = firstK (side 0 g, side 1 g)) ∧ ∀ x ∈ g, firstK (side 0 g, side 1 g) ≤ loI x := fun g hg => by
    obtain ⟨a1, a2⟩ := firstK_is (k := (side 0 g, side 1 g)) (ne g hg)
    refine ⟨?_, fun x hx => a2 _ (List.mem_map.mpr ⟨x.2, (two g hg _).mpr ⟨x, hx, rfl⟩, rfl⟩)⟩
    obtain ⟨b, hb, e⟩ := List.mem_map.mp a1
    obtain ⟨x, hx, rfl⟩ := (two g hg b).mp hb
    exact ⟨x, hx, e⟩
  have lst : ∀ g ∈ L, (∃ x ∈ g, hiI x = lastK (side 0 g, side 1 g)) ∧ ∀ x ∈ g, hiI x ≤ lastK (side 0 g, side 1 g) := fun g hg => by
    obtain ⟨a1, a2⟩ := lastK_is (k := (side 0 g, side 1 g)) (ne g hg)
    refine ⟨?_, fun x hx => by rw [hiE g hg x hx]; exact a2 _ (List.mem_map.mpr ⟨x.2, (two g hg _).mpr ⟨x, hx, rfl⟩, rfl⟩)⟩
    obtain ⟨b, hb, e⟩ := List.mem_map.mp a1
    obtain ⟨x, hx, rfl⟩ := (two g hg b).mp hb
    exact ⟨x, hx, by rw [hiE g hg x hx]; exact e⟩
  refine ⟨fun k hk => ?_, ?_, fun k hk p p1 p2 => ?_, fun k hk b hb => ?_, fun k hk => ?_, fun k hk => ?_⟩
  · obtain ⟨g, hg, rfl⟩ := List.mem_map.mp hk
    obtain ⟨x, hx, e⟩ := (fst g hg).1
    have := (lst g hg).2 x hx
    have := lo_hi x
    omega
  · rw [List.pairwise_map]
    refine seg.be.imp_of_mem fun {g h} hg hh b => ?_
    obtain ⟨x, hx, e⟩ := (lst g hg).1
    obtain ⟨y, hy, e2⟩ := (fst h hh).1
    have := b x hx y hy
    omega
  · obtain ⟨g, hg, rfl⟩ := List.mem_map.mp hk
    by_cases c : ∃ x ∈ g, covB p x.2 = true
    · obtain ⟨x, hx, h⟩ := c
      exact ⟨x.2, (two g hg _).mpr ⟨x, hx, rfl⟩, h⟩
    · exfalso
      have un : ∀ x ∈ g, hiI x < p ∨ p < loI x := fun x hx => by
        by_cases c1 : (coverB x.2).1 ≤ p
        · by_cases c2 : p ≤ (coverB x.2).2
          · exact absurd ⟨x, hx, decide_eq_true ⟨c1, c2⟩⟩ c
          · exact .inl (by rw [hiE g hg x hx]; omega)
        · exact .inr (by show p < (coverB x.2).1; omega)
      have sg : g.Pairwise fun x y => loI x ≤ loI y := srt.sublist (by rw [← fl]; exact List.sublist_flatten_of_mem hg)
      have cut : ∀ g : List Itm, (g.Pairwise fun x y => loI x ≤ loI y) → ∃ a b, g = a ++ b ∧ (∀ x ∈ a, loI x ≤ p) ∧ ∀ x ∈ b, p < loI x := by
        intro g
        induction g with
        | nil => intro _; exact ⟨[], [], rfl, fun x h => (nomatch h), fun x h => (nomatch h)⟩
        | cons y g ih =>
          intro h
          have h2 := List.pairwise_cons.mp h
          by_cases c : loI y ≤ p
          · obtain ⟨a, b, e, q1, q2⟩ := ih h2.2
            refine ⟨y :: a, b, by rw [e]; rfl, fun x hx => ?_, q2⟩
            rcases List.mem_cons.mp hx with r | r
            · rw [r]; exact c
            · exact q1 x r
          · refine ⟨[], y :: g, rfl, fun x h => (nomatch h), fun x hx => ?_⟩
            rcases List.mem_cons.mp hx with r | r
            · rw [r]; omega
            · have := h2.1 x r; omega
      obtain ⟨a, b, e, q1, q2⟩ := cut g sg
      refine seg.ti g hg a b e (fun z => ?_) (fun z => ?_) fun x hx y hy => ?_
      · obtain ⟨x, hx, ex⟩ := (fst g hg).1
        rw [e, z, List.nil_append] at hx
        have := q2 x hx
        omega
      · obtain ⟨x, hx, ex⟩ := (lst g hg).1
        have hx2 := hx
        rw [e, z, List.append_nil] at hx2
        have := q1 x hx2
        have := un x hx
        omega
      · have := q1 x hx
        have := q2 y hy
        have := un x (by rw [e]; exact List.mem_append_left _ hx)
        omega
  · obtain ⟨g, hg, rfl⟩ := List.mem_map.mp hk
    obtain ⟨x, hx, rfl⟩ := (two g hg b).mp hb
    exact ⟨(fst g hg).2 x hx, by rw [← hiE g hg x hx]; exact (lst g hg).2 x hx⟩
  · obtain ⟨g, hg, rfl⟩ := List.mem_map.mp hk
    obtain ⟨x, hx, e⟩ := (fst g hg).1
    rw [← e]
    exact lo_pos x
  · obtain ⟨g, hg, rfl⟩ := List.mem_map.mp hk
    obtain ⟨x, hx, e⟩ := (lst g hg).1
    rw [← e, hiE g hg x hx]
    have := (good x (mem g hg x hx)).2.2
    unfold coverB
    split
    · dsimp only; omega
    · dsimp only; omega
/-! ### the row, place by place -/
/-- what stands at a place of the row -/
def atP (s0 s1 s2 : List Str) (ps qs : List (Nat × Nat)) (ks : List (List Blk × List Blk)) (p : Nat) : List PyData :=
  (match ks.find? fun k => decide (firstK k = (p : Int)) with | some k => putL s1 s2 ps qs k | none => []) ++
    (if (∀ k ∈ ks, ¬ (firstK k ≤ (p : Int) ∧ (p : Int) ≤ lastK k)) ∧ p / 2 * 2 < p then [PyData.str (s0.getD (p / 2) "")] else [])
def rowLaw (s0 s1 s2 : List Str) (ps qs : List (Nat × Nat)) : List PyData := (List.range (2 * s0.length + 1)).flatMap (atP s0 s1 s2 ps qs (knR s0 s1 s2 ps qs))
/-- parts with keys below N, no two alike: sorted they stand in the order of the places -/
theorem parts_places {β : Type} (N : Nat) (L : List (Int × β)) (nd : (L.map (·.1)).Nodup) (h : ∀ x ∈ L, 0 ≤ x.1 ∧ x.1 < (N : Int)) :
    L.mergeSort (fun x y => decide (x.1 ≤ y.1)) = (List.range N).flatMap fun p : Nat => L.filter fun x => decide (x.1 = (p : Int)) := by
  have inj : ∀ x ∈ L, ∀ y ∈ L, x.1 = y.1 → x = y := by
    clear h
    induction L with
    | nil => intro x hx; cases hx
    | cons z L ih =>
      rw [List.map_cons, List.nodup_cons] at nd
      intro x hx y hy e
      rcases List.mem_cons.mp hx with r | r
      · rcases List.mem_cons.mp hy with t | t
        · rw [r, t]
        · exact absurd (List.mem_map.mpr ⟨y, t, by rw [← e, r]⟩) nd.1
      · rcases List.mem_cons.mp hy with t | t
        · exact absurd (List.mem_map.mpr ⟨x, r, by rw [e, t]⟩) nd.1
        · exact ih nd.2 x r y t e
  have ndL : L.Nodup := (List.pairwise_map.mp nd).imp fun h e => h (congrArg _ e)
  refine List.Perm.eq_of_pairwise (le := fun x y => x.1 ≤ y.1) (fun a b ha hb h1 h2 => ?_) ?_ ?_ ?_
  · have ha := List.mem_mergeSort.mp ha
    have hb : b ∈ L := by
      obtain ⟨p, _, hb⟩ := List.mem_flatMap.mp hb
      exact (List.mem_filter.mp hb).1
    exact inj a ha b hb (by omega)
  · refine (List.pairwise_mergeSort (le := fun x y : Int × β => decide (x.1 ≤ y.1)) (fun a b c h1 h2 => ?_) (fun a b => ?_) L).imp fun h => of_decide_eq_true h
    · have := of_decide_eq_true h1
      have := of_decide_eq_true h2
      exact decide_eq_true (by omega)
    · rw [Bool.or_eq_true, decide_eq_true_iff, decide_eq_true_iff]
      omega
  · unfold List.flatMap
    rw [List.pairwise_flatten, List.pairwise_map]
    refine ⟨fun l hl => ?_, List.pairwise_lt_range.imp fun {p q} hpq x hx y hy => ?_⟩
    · obtain ⟨p, _, rfl⟩ := List.mem_map.mp hl
      refine List.Pairwise.imp_of_mem (R := fun _ _ => True) (fun {a b} ha hb _ => ?_) (List.pairwise_of_forall fun _ _ => trivial)
      have := of_decide_eq_true (List.mem_filter.mp ha).2
      have := of_decide_eq_true (List.mem_filter.mp hb).2
      omega
    · have := of_decide_eq_true (List.mem_filter.mp hx).2
      have := of_decide_eq_true (List.mem_filter.mp hy).2
      omega
  · refine (List.mergeSort_perm _ _).trans ?_
    refine (List.perm_ext_iff_of_nodup ndL ?_).mpr fun x => ?_
    · unfold List.flatMap List.Nodup
      rw [List.pairwise_flatten, List.pairwise_map]
      refine ⟨fun l hl => ?_, List.pairwise_lt_range.imp fun {p q} hpq x hx y hy => ?_⟩
      · obtain ⟨p, _, rfl⟩ := List.mem_map.mp hl
        exact ndL.sublist List.filter_sublist
      · intro e
        have := of_decide_eq_true (List.mem_filter.mp hx).2
        have := of_decide_eq_true (List.mem_filter.mp hy).2
        rw [e] at *
        omega
    · rw [List.mem_flatMap]
      constructor
      · intro hx
        have := h x hx
        exact ⟨x.1.toNat, List.mem_range.mpr (by omega), List.mem_filter.mpr ⟨hx, decide_eq_true (by omega)⟩⟩
      · rintro ⟨p, _, hx⟩
        exact (List.mem_filter.mp hx).1
end XR
namespace XR
open PySem L2 KT
theorem word_ne (s1 s2 : List Str) (k : List Blk × List Blk) : wordF s1 s2 k ≠ "stands" := by
  unfold wordF
  split <;> decide +kernel
theorem fate_go (s1 s2 : List Str) (i : Nat) : ∀ (ks : List (List Blk × List Blk)) (f : Str), ks.foldl (fun f k => if hitK k i = true then wordF s1 s2 k else f) f = "stands" ↔ f = "stands" ∧ ∀ k ∈ ks, hitK k i = false
  | [], f => by simp
  | k :: ks, f => by
    rw [List.foldl_cons, fate_go s1 s2 i ks]
    by_cases h : hitK k i = true
    · rw [if_pos h]
      constructor
      · intro ⟨e, _⟩
        exact absurd e (word_ne s1 s2 k)
      · intro ⟨_, q⟩
        rw [q k (List.mem_cons_self ..)] at h
        cases h
    · rw [if_neg h]
      constructor
      · intro ⟨e, q⟩
        refine ⟨e, fun x hx => ?_⟩
        rcases List.mem_cons.mp hx with r | r
        · rw [r]; exact Bool.not_eq_true _ ▸ h
        · exact q x r
      · intro ⟨e, q⟩
        exact ⟨e, fun x hx => q x (List.mem_cons_of_mem _ hx)⟩
theorem fate_stands {s1 s2 : List Str} {ks : List (List Blk × List Blk)} {i : Nat} : fateF s1 s2 ks i = "stands" ↔ ∀ k ∈ ks, ¬ (firstK k ≤ ((2 * i + 1 : Nat) : Int) ∧ ((2 * i + 1 : Nat) : Int) ≤ lastK k) := by
  unfold fateF
  rw [fate_go]
  constructor
  · intro ⟨_, q⟩ k hk h
    have := of_decide_eq_false (q k hk)
    exact this ⟨by omega, by omega⟩
  · intro q
    exact ⟨rfl, fun k hk => decide_eq_false fun h => q k hk ⟨by omega, by omega⟩⟩
theorem filter_find {α : Type} (P : α → Bool) : ∀ {L : List α}, (L.Pairwise fun a b => ¬ (P a = true ∧ P b = true)) → L.filter P = (L.find? P).toList
  | [], _ => rfl
  | a :: L, h => by
    have h2 := List.pairwise_cons.mp h
    cases e : P a with
    | true =>
      rw [List.filter_cons_of_pos e, List.find?_cons_of_pos e, List.filter_eq_nil_iff.mpr fun b hb k => h2.1 b hb ⟨e, k⟩]
      rfl
    | false =>
      rw [List.filter_cons_of_neg (by rw [e]; decide), List.find?_cons_of_neg (by rw [e]; decide)]
      exact filter_find P h2.2
theorem range_filter (m j : Nat) : (List.range m).filter (fun i => decide (i = j)) = if j < m then [j] else [] := by
  induction m with
  | zero => simp
  | succ m ih =>
    rw [List.range_succ, List.filter_append, ih]
    by_cases c : m = j
    · subst c
      simp
    · rw [List.filter_cons_of_neg (by simpa using c)]
      by_cases d : j < m
      · rw [if_pos d, if_pos (by omega)]; rfl
      · rw [if_neg d, if_neg (by omega)]; rfl
/-- the standing line at a place -/
theorem stand_at (s0 s1 s2 : List Str) (ps qs : List (Nat × Nat)) {m p : Nat} (hp : p < 2 * m + 1) :
    (standP s0 s1 s2 ps qs m).filter (fun x => decide (x.1 = (p : Int))) = if (∀ k ∈ knR s0 s1 s2 ps qs, ¬ (firstK k ≤ (p : Int) ∧ (p : Int) ≤ lastK k)) ∧ p / 2 * 2 < p then [((p : Int), [baseTok s0 (p / 2)])] else [] := by
  unfold standP
  rw [List.filter_map, List.filter_filter]
  by_cases c : p / 2 * 2 < p
  · have ep : p = 2 * (p / 2) + 1 := by omega
    by_cases h : ∀ k ∈ knR s0 s1 s2 ps qs, ¬ (firstK k ≤ (p : Int) ∧ (p : Int) ≤ lastK k)
    · rw [if_pos ⟨h, c⟩]
      have hs : fateF s1 s2 (knR s0 s1 s2 ps qs) (p / 2) = "stands" := fate_stands.mpr (by rw [← ep]; exact h)
      have e : (List.range m).filter (fun i => ((fun x : Part => decide (x.1 = (p : Int))) ∘ fun i : Nat => ((2 * ((i + 1 : Nat) : Int) - 1, [baseTok s0 i]) : Part)) i && decide (fateF s1 s2 (knR s0 s1 s2 ps qs) i = "stands")) = (List.range m).filter (fun i => decide (i = p / 2)) := by
        refine List.filter_congr fun i _ => ?_
        show (decide (2 * ((i + 1 : Nat) : Int) - 1 = (p : Int)) && _) = _
        by_cases d : i = p / 2
        · rw [d, decide_eq_true hs, decide_eq_true (show 2 * ((p / 2 + 1 : Nat) : Int) - 1 = (p : Int) by omega), decide_eq_true rfl]; rfl
        · rw [decide_eq_false d, decide_eq_false (show ¬ 2 * ((i + 1 : Nat) : Int) - 1 = (p : Int) by omega)]; rfl
      rw [e, range_filter, if_pos (by omega), List.map_singleton, show 2 * ((p / 2 + 1 : Nat) : Int) - 1 = (p : Int) by omega]
    · rw [if_neg fun q => h q.1, List.filter_eq_nil_iff.mpr, List.map_nil]
      intro i _ q
      rw [Bool.and_eq_true] at q
      have q1 := of_decide_eq_true (show decide (2 * ((i + 1 : Nat) : Int) - 1 = (p : Int)) = true from q.1)
      have q2 := fate_stands.mp (of_decide_eq_true q.2)
      exact h (by rw [ep, show p / 2 = i by omega]; exact q2)
  · rw [if_neg fun q => c q.2, List.filter_eq_nil_iff.mpr, List.map_nil]
    intro i _ q
    rw [Bool.and_eq_true] at q
    have q1 := of_decide_eq_true (show decide (2 * ((i + 1 : Nat) : Int) - 1 = (p : Int)) = true from q.1)
    omega
theorem kn_alone {ks : List (List Blk × List Blk)} {m : Nat} (h : KnSeq ks m) (p : Int) : ks.Pairwise fun a b => ¬ (decide (firstK a = p) = true ∧ decide (firstK b = p) = true) := by
  refine h.be.imp_of_mem fun {a b} ha hb c q => ?_
  have := of_decide_eq_true q.1
  have := of_decide_eq_true q.2
  have := h.le a ha
  omega
theorem row_same {s0 s1 s2 : List Str} {ps qs : List (Nat × Nat)} (h : KnSeq (knR s0 s1 s2 ps qs) s0.length) : rowD s0 s1 s2 ps qs = rowLaw s0 s1 s2 ps qs := by
  unfold rowD rowP
  have pp := parts_places (2 * s0.length + 1) (partsL s0 s1 s2 ps qs) ?_ ?_
  · rw [show lePart = fun x y => decide (x.1 ≤ y.1) from rfl, pp, List.flatMap_assoc]
    unfold rowLaw
    rw [List.map_flatMap]
    unfold List.flatMap
    congr 1
    refine List.map_congr_left fun p hp => ?_
    have hp := List.mem_range.mp hp
    unfold partsL
    show (List.flatMap _ _).map _ = _
    rw [List.filter_append, stand_at s0 s1 s2 ps qs hp, List.filter_map]
    have ef : (knR s0 s1 s2 ps qs).filter ((fun x : Part => decide (x.1 = (p : Int))) ∘ fun k => ((firstK k, tokK s1 s2 ps qs k) : Part)) = ((knR s0 s1 s2 ps qs).find? fun k => decide (firstK k = (p : Int))).toList := filter_find (fun k => decide (firstK k = (p : Int))) (kn_alone h p)
    rw [ef]
    unfold atP
    cases e : (knR s0 s1 s2 ps qs).find? fun k => decide (firstK k = (p : Int)) with
    | none =>
      dsimp only
      split
      · simp [baseTok]
      · simp
    | some k =>
      have hk := List.mem_of_find?_eq_some e
      have hf : firstK k = (p : Int) := of_decide_eq_true (List.find?_some (p := fun k => decide (firstK k = (p : Int))) e)
      have no : ¬ ((∀ k ∈ knR s0 s1 s2 ps qs, ¬ (firstK k ≤ (p : Int) ∧ (p : Int) ≤ lastK k)) ∧ p / 2 * 2 < p) := fun q => q.1 k hk ⟨by omega, by have := h.le k hk; omega⟩
      rw [if_neg no, if_neg no]
      simp [putL]
  · unfold partsL
    rw [List.map_append, List.nodup_append]
    refine ⟨?_, ?_, fun a ha b hb e => ?_⟩
    · unfold standP List.Nodup
      rw [List.map_map, List.pairwise_map]
      refine (List.Pairwise.sublist List.filter_sublist List.pairwise_lt_range).imp fun {a b} q e => ?_
      have e : 2 * ((a + 1 : Nat) : Int) - 1 = 2 * ((b + 1 : Nat) : Int) - 1 := e
      omega
    · rw [List.map_map]
      unfold List.Nodup
      rw [List.pairwise_map]
      refine h.be.imp_of_mem fun {a b} ha hb c e => ?_
      have e : firstK a = firstK b := e
      have := h.le a ha
      omega
    · rw [List.map_map] at hb
      obtain ⟨k, hk, rfl⟩ := List.mem_map.mp hb
      have e : a = firstK k := e
      unfold standP at ha
      rw [List.map_map] at ha
      obtain ⟨i, hi, q⟩ := List.mem_map.mp ha
      have q : 2 * ((i + 1 : Nat) : Int) - 1 = a := q
      have st := fate_stands.mp (of_decide_eq_true (List.mem_filter.mp hi).2)
      have := h.le k hk
      exact st k hk ⟨by omega, by omega⟩
  · intro x hx
    unfold partsL at hx
    rcases List.mem_append.mp hx with hx | hx
    · unfold standP at hx
      obtain ⟨i, hi, rfl⟩ := List.mem_map.mp hx
      have := List.mem_range.mp (List.mem_filter.mp hi).1
      dsimp only
      omega
    · obtain ⟨k, hk, rfl⟩ := List.mem_map.mp hx
      have := h.lo k hk
      have := h.le k hk
      have := h.hi k hk
      dsimp only
      omega
end XR
/-! d.update(e): both dicts. -/
namespace XR
open PyProof.Rows hiding St
open PySem L2
section
variable {X : Cx} {pins : List (Addr × Obj)} {σ : L2.St} {H : Hp} {s : Shared} {E : Value → Shared → Prop}
theorem d_upd {a b : Addr} {kvs more : List (Key × V)} {Q : Value → Shared → Prop} (I : Inv X pins σ H s) (ha : H a = some (.dK kvs)) (hb : H b = some (.dK more)) (ne : a ≠ b) (sz : kvs.length + more.length ≤ sizeLine)
    (h : ∀ s', Inv X pins σ (L2.upd H a (.dK (mergeK kvs more))) s' → Q .none s') : wpAny (model X.prog X.w) X.A (call (.builtin "dict.update") [.ref a, .ref b]) Q E s := by
  obtain ⟨za, na, va, ra, da⟩ := dk_of I.hok ha
  obtain ⟨zb, nb, vb, rb, db⟩ := dk_of I.hok hb
  have la := ra.length
  have lb := rb.length
  refine call_meetsIn PySem.F.slot_dict_update da.typeIs PySem.F.entry_dict_update (PySem.F.args_dict_update_2 _ _) (meets_dict_update (mixKind X.prog X.w) a b ne nb) ⟨va, vb, da, db, by omega, fun h' d1 _ sb => h _ ?_⟩
  obtain ⟨ob, w1, w2, w3, w4⟩ := id d1
  exact d_write (t' := s.toks) I (by rw [ha]; trivial) sb ⟨ob, w3⟩ (dk_new (Nat.le_trans (length_mergeK more kvs) sz) na (KV.merge rb ra) d1)
end
/-- d.update(e) -/
def tDUpd (td ty : TE) : TE := fun σ H Q => td σ H fun x H1 => ∃ a, x = .ref a ∧ IsD H1 a ∧ ty σ H1 fun y H2 => ∃ b kvs more, y = .ref b ∧ a ≠ b ∧ H2 a = some (.dK kvs) ∧ H2 b = some (.dK more) ∧ kvs.length + more.length ≤ sizeLine ∧ Q .non (L2.upd H2 a (.dK (mergeK kvs more)))
theorem pe_dupd {X : Cx} {o e : Expr} {td ty : TE} {apos cpos : Pos} (ho : PE X o td) (he : PE X e ty) (m : M1 X o "update" apos e cpos) : PE X (.Call (.Attribute o "update" apos) [e] [] cpos) (tDUpd td ty) := by
  refine ⟨fun pins s σ H Q I h => wpAny_Call_method m.base m.few m.line PySem.F.plainAttrs_dict PySem.F.slot_dict_update PySem.F.type_dict_update (thn (ho.run pins s σ H _ I h) fun u s1 ⟨x, H1, I1, rx, a, ea, isd, q1⟩ => ?_)⟩
  cases ea
  cases rx
  obtain ⟨k1, k2, _⟩ := isD_at I1 isd
  refine ⟨k1, k2, ?_⟩
  rw [m.trees]
  refine Calls.callWith_builtin rfl (Calls.evalArgs_plain (Calls.spliced_cons (thn (he.run pins s1 σ H1 _ I1 q1) fun iv s2 ⟨y, H2, I2, ry, b, kvs, more, ey, ne, h1, h2, sz, q2⟩ => Calls.spliced_nil ?_)))
  cases ey
  cases ry
  exact d_upd I2 h1 h2 ne sz fun s3 I3 => ⟨.non, _, I3, rfl, q2⟩
end XR
namespace XR
open PySem L2 KT
/-! ### dicts with whole numbers as keys -/
def mkT (i : Int) : Key × V := (Sum.inl i, V.bl true)
def addI (gs : List Int) (i : Int) : List Int := if i ∈ gs then gs else gs ++ [i]
theorem any_mk (gs : List Int) (i : Int) : ((gs.map mkT).any fun kv => decide (kv.1 = Sum.inl i)) = decide (i ∈ gs) := by
  induction gs with
  | nil => simp
  | cons g gs ih =>
    rw [List.map_cons, List.any_cons, ih]
    by_cases e : g = i
    · subst e
      rw [show decide ((mkT g).1 = (Sum.inl g : Key)) = true from decide_eq_true rfl, decide_eq_true (List.mem_cons_self ..)]
      rfl
    · rw [show decide ((mkT g).1 = (Sum.inl i : Key)) = false from decide_eq_false (fun h => e (Sum.inl.inj h)), Bool.false_or, decide_eq_decide, List.mem_cons]
      exact ⟨.inr, fun h => h.resolve_left fun h => e h.symm⟩
theorem some_mk (gs : List Int) (i : Int) : (valV (gs.map mkT) (Sum.inl i)).isSome = decide (i ∈ gs) := by
  rw [← valV_any, any_mk]
theorem put_mk (gs : List Int) (i : Int) : putK (gs.map mkT) (Sum.inl i) (V.bl true) = (addI gs i).map mkT := by
  unfold putK addI
  rw [any_mk]
  by_cases h : i ∈ gs
  · rw [decide_eq_true h, if_pos rfl, if_pos h, List.map_map]
    refine List.map_congr_left fun x _ => ?_
    show (if (mkT x).1 = Sum.inl i then ((mkT x).1, V.bl true) else mkT x) = mkT x
    split <;> rfl
  · rw [decide_eq_false h, if_neg (by decide), if_neg h, List.map_append]
    rfl
theorem merge_mk : ∀ (rs gs : List Int), mergeK (gs.map mkT) (rs.map mkT) = (rs.foldl addI gs).map mkT
  | [], gs => rfl
  | r :: rs, gs => by
    have ih := merge_mk rs (addI gs r)
    unfold mergeK at ih ⊢
    rw [List.map_cons, List.foldl_cons, List.foldl_cons, ← ih]
    congr 1
    exact put_mk gs r
theorem adds_mem {x : Int} : ∀ {rs gs : List Int}, x ∈ rs.foldl addI gs ↔ x ∈ gs ∨ x ∈ rs
  | [], gs => by simp
  | r :: rs, gs => by
    rw [List.foldl_cons, adds_mem, List.mem_cons]
    unfold addI
    split
    · rename_i h
      constructor
      · rintro (a | a)
        · exact .inl a
        · exact .inr (.inr a)
      · rintro (a | rfl | a)
        · exact .inl a
        · exact .inl h
        · exact .inr a
    · rw [List.mem_append, List.mem_singleton, or_assoc]
theorem adds_len : ∀ {rs gs : List Int}, (rs.foldl addI gs).length ≤ gs.length + rs.length
  | [], gs => by simp
  | r :: rs, gs => by
    rw [List.foldl_cons, List.length_cons]
    refine Nat.le_trans adds_len ?_
    unfold addI
    split
    · omega
    · rw [List.length_append]
      have : ([r] : List Int).length = 1 := rfl
      omega
/-- whole numbers from a on -/
def rngZ (a : Int) (n : Nat) : List Int := (List.range n).map fun i : Nat => a + (i : Int)
theorem rngZ_mem {a : Int} {n : Nat} {x : Int} : x ∈ rngZ a n ↔ a ≤ x ∧ x < a + (n : Int) := by
  unfold rngZ
  rw [List.mem_map]
  constructor
  · rintro ⟨i, hi, rfl⟩
    have := List.mem_range.mp hi
    omega
  · intro ⟨h1, h2⟩
    exact ⟨(x - a).toNat, List.mem_range.mpr (by omega), by omega⟩
theorem rngZ_len (a : Int) (n : Nat) : (rngZ a n).length = n := by unfold rngZ; rw [List.length_map, List.length_range]
theorem rngZ_succ (a : Int) (i : Nat) : rngZ a (i + 1) = rngZ a i ++ [a + (i : Int)] := by unfold rngZ; rw [List.range_succ, List.map_append]; rfl
/-- the places that spans hold -/
structure Held (gs : List Int) (bs : List Blk) (n : Nat) : Prop where
  mem : ∀ x, x ∈ gs ↔ ∃ b ∈ bs, covB x b = true
  len : gs.length ≤ 100 * n
theorem Held.snoc {gs : List Int} {bs : List Blk} {n : Nat} {b : Blk} (h : Held gs bs n) {m : Nat} (hm : (m : Int) = (coverB b).2 + 1 - (coverB b).1) (hl : m ≤ 100) : Held (((rngZ (coverB b).1 m).foldl addI []).foldl addI gs) (bs ++ [b]) (n + 1) := by
  refine ⟨fun x => ?_, ?_⟩
  · rw [adds_mem, h.mem, adds_mem, rngZ_mem]
    constructor
    · rintro (⟨c, hc, k⟩ | k | k)
      · exact ⟨c, List.mem_append_left _ hc, k⟩
      · cases k
      · exact ⟨b, List.mem_append_right _ (List.mem_singleton.mpr rfl), decide_eq_true ⟨k.1, by omega⟩⟩
    · rintro ⟨c, hc, k⟩
      rcases List.mem_append.mp hc with hc | hc
      · exact .inl ⟨c, hc, k⟩
      · rw [List.mem_singleton.mp hc] at k
        have k := of_decide_eq_true k
        exact .inr (.inr ⟨k.1, by omega⟩)
  · have := h.len
    have a1 := adds_len (rs := (rngZ (coverB b).1 m).foldl addI []) (gs := gs)
    have a2 := adds_len (rs := rngZ (coverB b).1 m) (gs := [])
    rw [rngZ_len] at a2
    simp only [List.length_nil] at a2
    omega
/-- the knots by their first places -/
def startsK (W : List (Addr × (List Blk × List Blk))) : List (Key × V) := W.map fun w => (Sum.inl (firstK w.2), V.ref w.1)
theorem starts_at (W : List (Addr × (List Blk × List Blk))) (p : Int) : valV (startsK W) (Sum.inl p) = (W.find? fun w => decide (firstK w.2 = p)).map fun w => V.ref w.1 := by
  unfold valV startsK
  rw [List.find?_map, Option.map_map]
  have e : ((fun kv : Key × V => decide (kv.1 = Sum.inl p)) ∘ fun w : Addr × (List Blk × List Blk) => ((Sum.inl (firstK w.2), V.ref w.1) : Key × V)) = fun w => decide (firstK w.2 = p) := by
    funext w
    show decide ((Sum.inl (firstK w.2) : Key) = Sum.inl p) = decide (firstK w.2 = p)
    rw [decide_eq_decide]
    exact ⟨fun h => Sum.inl.inj h, fun h => by rw [h]⟩
  rw [e]
  rfl
theorem starts_new {W : List (Addr × (List Blk × List Blk))} {u : Addr} {k : List Blk × List Blk} (h : ∀ w ∈ W, firstK w.2 ≠ firstK k) : putK (startsK W) (Sum.inl (firstK k)) (V.ref u) = startsK (W ++ [(u, k)]) := by
  rw [L2.putK_new _ (by rw [starts_at, List.find?_eq_none.mpr fun w hw e => h w hw (of_decide_eq_true e)]; rfl)]
  unfold startsK
  rw [List.map_append]
  rfl
theorem cat_dqN {K : PySem.W.Frag} {H : Hp} {Q : VK} {x y : V} {ds es : List PyData} (h : Dq K (noL H) x (.tuple ds)) (k : Dq K (noL H) y (.tuple es)) (n : ds.length + es.length ≤ sizeLine) (z : ∀ t H', Same H H' → Dq K (noL H') (.ref t) (.tuple (ds ++ es)) → Q (.ref t) H') : rCatA K x y H Q := by
  cases h with
  | @tup a xs ds h1 h2 =>
    cases k with
    | @tup b ys es k1 k2 =>
      have hl := h2.length
      have kl := k2.length
      refine ⟨a, b, xs, ys, rfl, rfl, XR.Same.tup noL_le h1, XR.Same.tup noL_le k1, by omega, fun e => ?_, fun _ e => ?_, fun _ _ t nt => ?_⟩
      · subst e
        cases h2
        exact z b H (fun _ _ e => e) (.tup k1 k2)
      · subst e
        cases k2
        exact z a H (fun _ _ e => e) (by rw [List.append_nil]; exact .tup h1 h2)
      · exact z t _ (same_upd nt) (.tup (SqT.of (noL_tup upd_same)) ((DqAll.append h2 k2).same (noL_same (same_upd nt))))
/-- all is kept but what lies at two places -/
def But2 (S T : Addr) (H H' : Hp) : Prop := ∀ b o, H b = some o → b ≠ S → b ≠ T → H' b = some o
theorem But2.of {S T : Addr} {H H' : Hp} (s : Same H H') : But2 S T H H' := fun b o e _ _ => s b o e
theorem But2.trans {S T : Addr} {H H1 H2 : Hp} (a : But2 S T H H1) (b : But2 S T H1 H2) : But2 S T H H2 := fun c o e n m => b _ _ (a _ _ e n m) n m
def spRow (K : PySem.W.Frag) : Sp := fun vs H Q _ => ∃ (c ra ta da wa t1 t2 d1 d2 : Addr) (C : CaseD), vs = [.ref c] ∧ CaseAt' H c ra ta da wa t1 t2 d1 d2 C ∧ CaseOk C ∧ CaseWd C ∧
  ∀ t H', Same H H' → Dq K (noL H') (.ref t) (.tuple (rowLaw C.s0 C.s1 C.s2 C.ps C.qs)) → Q (.ref t) H'
theorem CaseOk.seq {C : CaseD} (ok : CaseOk C) : KnSeq (knR C.s0 C.s1 C.s2 C.ps C.qs) C.s0.length :=
  kn_seq (blocks_spread ok.p) (blocks_spread ok.q) (fun b hb => (blocks_le ok.p hb).2.1) (fun b hb => (blocks_le ok.q hb).2.1)
end XR
namespace XR
open PySem L2 KT
theorem KOut.mono {H H' : Hp} {w : Addr} {k : List Blk × List Blk} (f : ∀ {b : Addr} {xs : List V}, H b = some (.tup xs) → H' b = some (.tup xs)) (h : KOut H w k) : KOut H' w k := by
  obtain ⟨a, b, r0, r1, h1, h2, h3, h4, h5⟩ := h
  exact ⟨a, b, r0, r1, f h1, f h2, ⟨h3.1, fun i b hb => let ⟨r, e1, e2⟩ := h3.2 i b hb; ⟨r, e1, f e2⟩⟩, f h4, ⟨h5.1, fun i b hb => let ⟨r, e1, e2⟩ := h5.2 i b hb; ⟨r, e1, f e2⟩⟩⟩
theorem held_step (gs : List Int) {b : Blk} {m : Nat} (hm : (m : Int) = (coverB b).2 + 1 - (coverB b).1) (hl : m ≤ 100) : (∀ x, x ∈ ((rngZ (coverB b).1 m).foldl addI []).foldl addI gs ↔ x ∈ gs ∨ covB x b = true) ∧ (((rngZ (coverB b).1 m).foldl addI []).foldl addI gs).length ≤ gs.length + 100 := by
  refine ⟨fun x => ?_, ?_⟩
  · rw [adds_mem, adds_mem, rngZ_mem]
    refine or_congr Iff.rfl ?_
    unfold covB
    rw [decide_eq_true_iff]
    constructor
    · rintro (k | k)
      · cases k
      · exact ⟨k.1, by omega⟩
    · exact fun k => .inr ⟨k.1, by omega⟩
  · have a1 := adds_len (rs := (rngZ (coverB b).1 m).foldl addI []) (gs := gs)
    have a2 := adds_len (rs := rngZ (coverB b).1 m) (gs := [])
    rw [rngZ_len] at a2
    simp only [List.length_nil] at a2
    omega
theorem at_len {s0 s1 s2 : List Str} {ps qs : List (Nat × Nat)} {ks : List (List Blk × List Blk)} (kf : ∀ k ∈ ks, KnFact s0 s1 s2 k) (l1 : s1.length ≤ 60) (l2 : s2.length ≤ 60) : ∀ i : Nat, ((List.range i).flatMap (atP s0 s1 s2 ps qs ks)).length ≤ 6001 * i
  | 0 => Nat.zero_le _
  | i + 1 => by
    have ih := at_len (ps := ps) (qs := qs) kf l1 l2 i
    have h : (atP s0 s1 s2 ps qs ks i).length ≤ 6001 := by
      unfold atP
      rw [List.length_append]
      refine Nat.le_trans (Nat.add_le_add (b := 6000) (d := 1) ?_ ?_) (Nat.le_refl 6001)
      · split
        · rename_i k e
          unfold putL
          rw [List.length_map]
          exact tokK_len (kf k (List.mem_of_find?_eq_some e)) l1 l2
        · exact Nat.zero_le _
      · split
        · exact Nat.le_refl _
        · exact Nat.zero_le _
    rw [List.range_succ, List.flatMap_append, List.length_append]
    simp only [List.flatMap_cons, List.flatMap_nil, List.append_nil]
    omega
end XR
namespace XR
open PySem L2 KT
/-- a case to be merged: a dict of lists -/
structure CaseM (H : Hp) (c ra ta da t1 t2 d1 d2 : Addr) (s0 s1 s2 : List Str) (ps qs : List (Nat × Nat)) : Prop where
  h : ∃ kvs, H c = some (.dK kvs) ∧ valV kvs (Sum.inr "root") = some (.ref ra) ∧ valV kvs (Sum.inr "texts") = some (.ref ta) ∧ valV kvs (Sum.inr "diffs") = some (.ref da)
  r : H ra = some (.lst (s0.map .str))
  t : H ta = some (.lst [.ref t1, .ref t2])
  x : H t1 = some (.lst (s1.map .str))
  y : H t2 = some (.lst (s2.map .str))
  d : H da = some (.lst [.ref d1, .ref d2])
  p : DfAt H d1 ps
  q : DfAt H d2 qs
theorem CaseM.same {H H' : Hp} {c ra ta da t1 t2 d1 d2 : Addr} {s0 s1 s2 : List Str} {ps qs : List (Nat × Nat)} (s : Same H H') (h : CaseM H c ra ta da t1 t2 d1 d2 s0 s1 s2 ps qs) : CaseM H' c ra ta da t1 t2 d1 d2 s0 s1 s2 ps qs :=
  ⟨let ⟨kvs, a, b⟩ := h.h; ⟨kvs, s _ _ a, b⟩, s _ _ h.r, s _ _ h.t, s _ _ h.x, s _ _ h.y, s _ _ h.d, let ⟨r, a, b⟩ := h.p; ⟨r, s _ _ a, b.same s⟩, let ⟨r, a, b⟩ := h.q; ⟨r, s _ _ a, b.same s⟩⟩
theorem CaseAt'.m {H : Hp} {c ra ta da wa t1 t2 d1 d2 : Addr} {C : CaseD} (h : CaseAt' H c ra ta da wa t1 t2 d1 d2 C) : CaseM H c ra ta da t1 t2 d1 d2 C.s0 C.s1 C.s2 C.ps C.qs :=
  ⟨⟨_, h.h, case_root, case_texts, case_diffs⟩, h.r, h.t, h.x, h.y, h.d, h.p, h.q⟩
theorem CaseM.g1 {H : Hp} {c ra ta da t1 t2 d1 d2 : Addr} {s0 s1 s2 : List Str} {ps qs : List (Nat × Nat)} (h : CaseM H c ra ta da t1 t2 d1 d2 s0 s1 s2 ps qs) : DGet H c (.str "root") (some (.ref ra)) := by
  obtain ⟨kvs, a, b, _⟩ := h.h
  have := DGet.k (k := Sum.inr "root") a
  rw [b] at this
  exact this
theorem CaseM.g2 {H : Hp} {c ra ta da t1 t2 d1 d2 : Addr} {s0 s1 s2 : List Str} {ps qs : List (Nat × Nat)} (h : CaseM H c ra ta da t1 t2 d1 d2 s0 s1 s2 ps qs) : DGet H c (.str "texts") (some (.ref ta)) := by
  obtain ⟨kvs, a, _, b, _⟩ := h.h
  have := DGet.k (k := Sum.inr "texts") a
  rw [b] at this
  exact this
theorem CaseM.g3 {H : Hp} {c ra ta da t1 t2 d1 d2 : Addr} {s0 s1 s2 : List Str} {ps qs : List (Nat × Nat)} (h : CaseM H c ra ta da t1 t2 d1 d2 s0 s1 s2 ps qs) : DGet H c (.str "diffs") (some (.ref da)) := by
  obtain ⟨kvs, a, _, _, b⟩ := h.h
  have := DGet.k (k := Sum.inr "diffs") a
  rw [b] at this
  exact this
/-- two diffs of texts of the law's words -/
structure MOk (s0 s1 s2 : List Str) (ps qs : List (Nat × Nat)) : Prop where
  p : IsDf s0 s1 ps
  q : IsDf s0 s2 qs
  w0 : WdK s0
  w1 : WdK s1
  w2 : WdK s2
  l0 : s0.length ≤ 7
  l1 : s1.length ≤ 24
  l2 : s2.length ≤ 24
theorem MOk.of {C : CaseD} (ok : CaseOk C) (wd : CaseWd C) : MOk C.s0 C.s1 C.s2 C.ps C.qs := ⟨ok.p, ok.q, wd.w0, wd.w1, wd.w2, ok.l0, ok.l1, ok.l2⟩
theorem MOk.swap {s0 s1 s2 : List Str} {ps qs : List (Nat × Nat)} (h : MOk s0 s1 s2 ps qs) : MOk s0 s2 s1 qs ps := ⟨h.q, h.p, h.w0, h.w2, h.w1, h.l0, h.l2, h.l1⟩
theorem rowIn_of {K : PySem.W.Frag} {H : Hp} {a0 a1 a2 : Addr} {v1 v2 : V} {s0 s1 s2 : List Str} {ps qs : List (Nat × Nat)} (m : MOk s0 s1 s2 ps qs) (h0 : H a0 = some (.lst (s0.map .str))) (h1 : H a1 = some (.lst (s1.map .str))) (h2 : H a2 = some (.lst (s2.map .str)))
    (p : DfV K H v1 ps) (q : DfV K H v2 qs) : RowIn K H (.ref a0) (.ref a1) (.ref a2) v1 v2 s0 s1 s2 ps qs := by
  have := m.l0
  have := m.l1
  have := m.l2
  exact ⟨lst_textL (SqL.of h0) m.w0.lns (by omega), lst_textL (SqL.of h1) m.w1.lns (by omega), lst_textL (SqL.of h2) m.w2.lns (by omega), p, m.p, q, m.q, m.w1.oks, m.w2.oks⟩
def spLMerged (K : PySem.W.Frag) (T : Addr) : Sp := fun vs H Q _ => ∃ (c ra ta da t1 t2 d1 d2 : Addr) (s0 s1 s2 : List Str) (ps qs : List (Nat × Nat)), vs = [.ref c] ∧ CaseM H c ra ta da t1 t2 d1 d2 s0 s1 s2 ps qs ∧ MOk s0 s1 s2 ps qs ∧ LamX.TabS H T lamQ ∧
  ∀ t H' xs, ButT T H H' → LamX.TabS H' T lamQ → H t = none → H' t = some (.tup xs) → DqAll K (noL H') xs (rowD s0 s1 s2 ps qs) → Q (.ref t) H'
def idD (n : Nat) : List (Nat × Nat) := (List.range n).map fun k => (k + 1, k + 1)
theorem id_df (ss : List Str) : IsDf ss ss (idD ss.length) := by
  refine ⟨fun q hq => ?_, ?_⟩
  · unfold idD at hq
    obtain ⟨k, hk, rfl⟩ := List.mem_map.mp hq
    have := List.mem_range.mp hk
    exact ⟨by show 1 ≤ k + 1; omega, by show k + 1 ≤ _; omega, by show 1 ≤ k + 1; omega, by show k + 1 ≤ _; omega, ss[k], List.getElem?_eq_getElem this, List.getElem?_eq_getElem this⟩
  · unfold idD
    rw [List.pairwise_map]
    exact List.Pairwise.imp (fun {a b} h => ⟨by show a + 1 < b + 1; omega, by show a + 1 < b + 1; omega⟩) List.pairwise_lt_range
def spAllKept : Sp := fun vs H Q _ => ∃ (a : Addr) (ss : List Str), vs = [.ref a] ∧ H a = some (.lst (ss.map .str)) ∧ ss.length ≤ 60 ∧ ∀ t H', Same H H' → H t = none → DfAt H' t (idD ss.length) → Q (.ref t) H'
/-- a clash with its sides exchanged -/
def turnD : PyData → PyData
  | .tuple [a, b, c, d, e] => .tuple [a, b, c, e, d]
  | x => x
def spTurnAll (K : PySem.W.Frag) : Sp := fun vs H Q _ => ∃ (x : V) (ds : List PyData), vs = [x] ∧ Dq K (noL H) x (.tuple ds) ∧ (∀ d ∈ ds, (∃ s, d = .str s) ∨ ∃ a b c e f, d = .tuple [a, b, c, e, f]) ∧ ds.length ≤ 100100 ∧
  ∀ t H', Same H H' → Dq K (noL H') (.ref t) (.tuple (ds.map turnD)) → Q (.ref t) H'
theorem kit_strM (d : PyData) : kitB (tyN d) "str" = some (match d with | .str _ => true | _ => false) := by
  cases d <;> kernel_rfl
end XR
namespace XR
open PySem L2 KT
theorem butF {T : Addr} {q : Str} {H H' : Hp} (hT : LamX.TabS H T q) (s : ButT T H H') : ∀ {b : Addr} {o : HO}, H b = some o → (∀ ps, o ≠ .tbl ps) → H' b = some o := fun {b o} e n => by
  obtain ⟨ps, hps, _⟩ := hT
  exact s _ _ e fun c => by rw [c, hps] at e; exact n ps (Option.some.inj e).symm
theorem butN {T : Addr} {q : Str} {H H' : Hp} (hT : LamX.TabS H T q) (s : ButT T H H') : Same (noL H) (noL H') := by
  obtain ⟨ps, hps, _⟩ := hT
  exact noL_but hps s
theorem DfAt.mono {H H' : Hp} {t : Addr} {ps : List (Nat × Nat)} (f : ∀ {b : Addr} {o : HO}, H b = some o → (∀ ps, o ≠ .tbl ps) → H' b = some o) (h : DfAt H t ps) : DfAt H' t ps :=
  let ⟨r, a, b1, b2⟩ := h; ⟨r, f a (fun _ e => nomatch e), b1, fun i q hq => let ⟨u, e1, e2⟩ := b2 i q hq; ⟨u, e1, f e2 (fun _ e => nomatch e)⟩⟩
theorem CaseAt'.mono {H H' : Hp} {c ra ta da wa t1 t2 d1 d2 : Addr} {C : CaseD} (f : ∀ {b : Addr} {o : HO}, H b = some o → (∀ ps, o ≠ .tbl ps) → H' b = some o) (h : CaseAt' H c ra ta da wa t1 t2 d1 d2 C) : CaseAt' H' c ra ta da wa t1 t2 d1 d2 C :=
  ⟨f h.h (fun _ e => nomatch e), f h.r (fun _ e => nomatch e), f h.t (fun _ e => nomatch e), f h.x (fun _ e => nomatch e), f h.y (fun _ e => nomatch e), f h.d (fun _ e => nomatch e), h.p.mono f, h.q.mono f, f h.w (fun _ e => nomatch e)⟩
theorem strs_of {K : PySem.W.Frag} {H : Hp} : ∀ {xs : List V} {ss : List Str}, DqAll K H xs (strsD ss) → xs = ss.map V.str
  | [], [], _ => rfl
  | _ :: _, [], h => by cases h
  | [], _ :: _, h => by cases h
  | x :: xs, s :: ss, h => by
    cases h with
    | cons h1 h2 =>
      cases h1
      rw [strs_of h2]
      rfl
theorem dpStrs {K : PySem.W.Frag} {H : Hp} : ∀ ss : List Str, DpAll K H (ss.map V.str) (strsD ss)
  | [] => .nil
  | s :: ss => .cons (.str s) (dpStrs ss)
theorem tup_shaped {ss : List Str} (w : WdK ss) : SeqAt.shaped (.tuple (strsD ss)) = true := by
  obtain ⟨h1, h2⟩ := strs_lay w.oks
  unfold SeqAt.shaped
  rw [Bool.and_eq_true, decide_eq_true_eq]
  have e1 : strsD ss = ss.map PyData.str := rfl
  refine ⟨by simp only [PyData.canLay0, e1, h1], ?_⟩
  have e : (PyData.tuple (strsD ss)).depth = PyData.depthAll (ss.map PyData.str) + 1 := by simp only [PyData.depth, e1]
  omega
theorem tabS_updK {T p : Addr} {q : Str} {H : Hp} {k : List (Key × V)} {o : HO} (hp : H p = some (.dK k)) (h : LamX.TabS H T q) : LamX.TabS (upd H p o) T q := by
  obtain ⟨ps, h1, h2, h3⟩ := h
  refine ⟨ps, ?_, h2, fun pos cv e => ?_⟩
  · rw [upd_ne (fun e => by rw [e, hp] at h1; cases h1)]
    exact h1
  · obtain ⟨c, e1, e2⟩ := h3 pos cv e
    refine ⟨c, e1, ?_⟩
    rw [upd_ne (fun e => by rw [e, hp] at e2; unfold LamX.CodeO at e2; cases e2)]
    exact e2
def othK (ra tr dr : Addr) : List (Key × V) := [(Sum.inr "root", .ref ra), (Sum.inr "texts", .ref tr), (Sum.inr "diffs", .ref dr)]
theorem oth_put (ra tr dr : Addr) : mergeK [] (othK ra tr dr) = putK (putK (putK [] (Sum.inr "root" : Key) (V.ref ra)) (Sum.inr "texts" : Key) (.ref tr)) (Sum.inr "diffs" : Key) (.ref dr) := by
  unfold mergeK othK
  rfl
theorem oth_root (ra tr dr : Addr) : valV (mergeK [] (othK ra tr dr)) (Sum.inr "root") = some (.ref ra) := by
  rw [oth_put, valV_put, if_neg (by decide +kernel), valV_put, if_neg (by decide +kernel), valV_put, if_pos rfl]
theorem oth_texts (ra tr dr : Addr) : valV (mergeK [] (othK ra tr dr)) (Sum.inr "texts") = some (.ref tr) := by
  rw [oth_put, valV_put, if_neg (by decide +kernel), valV_put, if_pos rfl]
theorem oth_diffs (ra tr dr : Addr) : valV (mergeK [] (othK ra tr dr)) (Sum.inr "diffs") = some (.ref dr) := by
  rw [oth_put, valV_put, if_pos rfl]
def spFacts (K : PySem.W.Frag) (T : Addr) : Sp := fun vs H Q _ => ∃ (c ra ta da wa t1 t2 d1 d2 : Addr) (C : CaseD) (y : V), vs = [.ref c, y] ∧ CaseAt' H c ra ta da wa t1 t2 d1 d2 C ∧ CaseOk C ∧ CaseWd C ∧ Dq K (noL H) y (.tuple (rowD C.s0 C.s1 C.s2 C.ps C.qs)) ∧ LamX.TabS H T lamQ ∧
  ∀ H', ButT T H H' → LamX.TabS H' T lamQ → Q (.bl true) H'
end XR
namespace XR
open PySem L2 KT
theorem noL_butL {H H' : Hp} {a : Addr} {xs : List V} (h : H a = some (.lst xs)) (s : But a H H') : Same (noL H) (noL H') := fun b o e => by
  obtain ⟨e1, n1, n2⟩ := noL_some e
  exact noL_of (s _ _ e1 fun c => by rw [c, h] at e1; exact n1 xs (Option.some.inj e1).symm) n1 n2
theorem tabS_butL {T a : Addr} {q : Str} {H H' : Hp} {xs : List V} (hp : H a = some (.lst xs)) (s : But a H H') (h : LamX.TabS H T q) : LamX.TabS H' T q := by
  obtain ⟨ps, h1, h2, h3⟩ := h
  refine ⟨ps, s _ _ h1 (fun e => by rw [e, hp] at h1; cases h1), h2, fun pos cv e => ?_⟩
  obtain ⟨c, e1, e2⟩ := h3 pos cv e
  exact ⟨c, e1, s _ _ e2 (fun e => by rw [e, hp] at e2; unfold LamX.CodeO at e2; cases e2)⟩
theorem PotAt.mono {H H' : Hp} {a : Addr} (f : ∀ {b : Addr} {o : HO}, H b = some o → (∀ ps, o ≠ .tbl ps) → H' b = some o) (h : PotAt H a) : PotAt H' a := by
  obtain ⟨p, q, e, k⟩ := h
  exact ⟨p, q, f e (fun _ z => nomatch z), k⟩
theorem TxR.mono {H H' : Hp} {x : V} {ss : List Str} (f : ∀ {b : Addr} {o : HO}, H b = some o → (∀ ps, o ≠ .tbl ps) → H' b = some o) (h : TxR H x ss) : TxR H' x ss := by
  obtain ⟨p, e, h | h⟩ := h
  · exact ⟨p, e, .inl (f h (fun _ z => nomatch z))⟩
  · exact ⟨p, e, .inr (f h (fun _ z => nomatch z))⟩
/-- what a turn of the law keeps -/
structure LawSt (K : PySem.W.Frag) (a T : Addr) (H0 H : Hp) (c ra ta da wa t1 t2 d1 d2 : Addr) (C : CaseD) (y : V) : Prop where
  pot : PotAt H a
  tab : LamX.TabS H T lamQ
  cs : CaseAt' H c ra ta da wa t1 t2 d1 d2 C
  due : Dq K (noL H) y (.tuple (rowD C.s0 C.s1 C.s2 C.ps C.qs))
  but : But2 a T H0 H
theorem LawSt.same {K : PySem.W.Frag} {a T : Addr} {H0 H H' : Hp} {c ra ta da wa t1 t2 d1 d2 : Addr} {C : CaseD} {y : V} (h : LawSt K a T H0 H c ra ta da wa t1 t2 d1 d2 C y) (s : Same H H') : LawSt K a T H0 H' c ra ta da wa t1 t2 d1 d2 C y :=
  ⟨h.pot.same s, tabS_same s h.tab, h.cs.same s, h.due.same (noL_same s), h.but.trans (.of s)⟩
theorem LawSt.butT {K : PySem.W.Frag} {a T : Addr} {H0 H H' : Hp} {c ra ta da wa t1 t2 d1 d2 : Addr} {C : CaseD} {y : V} (h : LawSt K a T H0 H c ra ta da wa t1 t2 d1 d2 C y) (s : ButT T H H') (t : LamX.TabS H' T lamQ) : LawSt K a T H0 H' c ra ta da wa t1 t2 d1 d2 C y :=
  ⟨h.pot.mono (butF h.tab s), t, h.cs.mono (butF h.tab s), h.due.same (butN h.tab s), h.but.trans fun b o e _ n => s b o e n⟩
theorem LawSt.butA {K : PySem.W.Frag} {a T : Addr} {H0 H H' : Hp} {c ra ta da wa t1 t2 d1 d2 : Addr} {C : CaseD} {y : V} (h : LawSt K a T H0 H c ra ta da wa t1 t2 d1 d2 C y) (s : But a H H') (p : PotAt H' a) : LawSt K a T H0 H' c ra ta da wa t1 t2 d1 d2 C y := by
  obtain ⟨x1, x2, e, _⟩ := id h.pot
  exact ⟨p, tabS_butL e s h.tab, h.cs.but s h.pot, h.due.same (noL_butL e s), h.but.trans fun b o e n _ => s b o e n⟩
abbrev rLstOf (K : PySem.W.Frag) : List V → Hp → VK → Prop := fun xs H Q => ∃ p ys, xs = [.ref p] ∧ (SqL K H p ys ∨ SqT K H p ys) ∧ ∀ l, H l = none → Q (.ref l) (upd H l (.lst ys))
def spRRight (T : Addr) : Sp := fun vs H Q _ => ∃ (a : Addr), vs = [.ref a] ∧ PotAt H a ∧ LamX.TabS H T lamQ ∧ ∀ H', PotAt H' a → LamX.TabS H' T lamQ → But2 a T H H' → Q (.bl true) H'
end XR
namespace XR
open PySem L2 KT
theorem seqL_butT {K : PySem.W.Frag} {T : Addr} {q : Str} {H H' : Hp} {a : Addr} {xs : List V} (hT : LamX.TabS H T q) (s : ButT T H H') (h : SqL K H a xs) : SqL K H' a xs := by
  rcases h with (h | ⟨o, h⟩) | h
  · exact .inl (.inl (butF hT s h (fun _ e => nomatch e)))
  · exact .inl (.inr ⟨o, butF hT s h (fun _ e => nomatch e)⟩)
  · exact .inr h
theorem tabS_nil {H : Hp} {T : Addr} {q : Str} (h : H T = some (.tbl #[])) : LamX.TabS H T q := by
  refine ⟨#[], h, ?_, fun pos cv e => ?_⟩
  · trivial
  · cases e
theorem tabS_updL {T p : Addr} {q : Str} {H : Hp} {k : List V} {o : HO} (hp : H p = some (.lst k)) (h : LamX.TabS H T q) : LamX.TabS (upd H p o) T q := by
  obtain ⟨ps, h1, h2, h3⟩ := h
  refine ⟨ps, ?_, h2, fun pos cv e => ?_⟩
  · rw [upd_ne (fun e => by rw [e, hp] at h1; cases h1)]
    exact h1
  · obtain ⟨c, e1, e2⟩ := h3 pos cv e
    refine ⟨c, e1, ?_⟩
    rw [upd_ne (fun e => by rw [e, hp] at e2; unfold LamX.CodeO at e2; cases e2)]
    exact e2
def spLaw (K : PySem.W.Frag) (T : Addr) : Sp := fun vs H Q _ => ∃ (a : Addr) (ns : List Int), vs = [.ref a] ∧ SqL K H a (ns.map V.int) ∧ ns.length ≤ 63 ∧ LamX.TabS H T lamQ ∧ ∀ H', Q (.bl true) H'
end XR
namespace XR
open PySem L2
/-- the table of a def's code object, step by step -/
theorem tabIn_of {K : PySem.W.Frag} {x : Str} {f c T : Addr} {o1 : Value} {o2 : Option Addr} {fd : FuncData} {o3 : Array (Option Value)} {q1 : Value} {q2 : Option Addr} {vs : Array Value} {q4 : Array (Option Value)} (u : PySem.W.nsIn K mainGlobals x = some (some (.ref f))) (l : K.lookup f = some ⟨o1, o2, .func fd, o3⟩) (e : fd.code = .ref c) (lc : K.lookup c = some ⟨q1, q2, .fields vs, q4⟩) (v : vs[11]? = some (.ref T)) : PySem.W.tabIn K x = some (c, T) := by
  unfold PySem.W.tabIn
  rw [u]
  dsimp only
  rw [l]
  dsimp only
  rw [e]
  dsimp only
  rw [lc]
  dsimp only
  rw [v]
end XR
namespace XR
open PySem L2 KT
def isT : PyData → Bool
  | .tuple _ => true
  | _ => false
/-- the origins of tokens, clashes numbered from n on -/
def orgD : Nat → List TokP → List PyData
  | _, [] => []
  | n, t :: ts => (if isT t.1 = true then .tuple [.str "clash", .int (n : Int)] else t.2) :: orgD (if isT t.1 = true then n + 1 else n) ts
def nCl (ts : List TokP) : Nat := (ts.filter fun t => isT t.1).length
theorem nCl_append (a b : List TokP) : nCl (a ++ b) = nCl a + nCl b := by unfold nCl; rw [List.filter_append, List.length_append]
theorem orgD_append : ∀ (a b : List TokP) (n : Nat), orgD n (a ++ b) = orgD n a ++ orgD (n + nCl a) b
  | [], b, n => rfl
  | t :: a, b, n => by
    show _ :: orgD _ (a ++ b) = _ :: (orgD _ a ++ _)
    rw [orgD_append a b]
    congr 3
    unfold nCl
    by_cases h : isT t.1 = true
    · rw [if_pos h, List.filter_cons_of_pos (p := fun t : TokP => isT t.1) h, List.length_cons]
      omega
    · rw [if_neg h, List.filter_cons_of_neg (p := fun t : TokP => isT t.1) h]
theorem orgD_len : ∀ (a : List TokP) (n : Nat), (orgD n a).length = a.length
  | [], _ => rfl
  | t :: a, n => by show (orgD _ a).length + 1 = a.length + 1; rw [orgD_len a]
theorem nCl_le (a : List TokP) : nCl a ≤ a.length := List.length_filter_le _ _
def spTO (K : PySem.W.Frag) (T : Addr) : Sp := fun vs H Q _ => ∃ (x0 x1 x2 v1 v2 : V) (s0 s1 s2 : List Str) (ps qs : List (Nat × Nat)), vs = [x0, x1, x2, v1, v2] ∧ RowIn K H x0 x1 x2 v1 v2 s0 s1 s2 ps qs ∧ s0.length ≤ 40 ∧ LamX.TabS H T lamQ ∧
  ∀ l H' xs, ButT T H H' → LamX.TabS H' T lamQ → H l = none → H' l = some (.lst xs) → DqAll K (noL H') xs (orgD 0 (rowP s0 s1 s2 ps qs)) → Q (.ref l) H'
end XR
namespace K62
open PySem L2 XR KT
section
variable {P : Program} {w : World} {K : PySem.W.Frag} {mg : Str → Option Value} {base : Heap}
abbrev sIsC : Stmt := top 32
theorem scIsC : FnScope ["token"] ["token"] (defScope sIsC) := ⟨rfl, rfl, rfl, by decide +kernel, rfl, by decide +kernel, by decide +kernel⟩
theorem ok_isC {f : Addr} {fd : FuncData} (F : Fun K "is_clash" "is_clash" sIsC f fd) (T : Blt mg) : FnOk P w K mg base CX0 1 f fd ["token"] (spJudge K isT) := by
  refine F.ok scIsC (fun vs H Q E h => ?_) (fun cdv A outer s H vs Q E hr h => ?_)
  · obtain ⟨x, d, rfl, _⟩ := h
    rfl
  · obtain ⟨x, d, rfl, hd, z⟩ := h
    refine ⟨_, pss_one (ps_ret (pe_callB call_isi (by rfl) T.isin (by decide +kernel) (pa_cons (pv 0) (pa_cons (pe_bltn (v := .ty "tuple") (u := .type "tuple") (by rfl) (T.all "tuple" (by decide)) (by decide +kernel) rfl) pa_nil)))), ?_⟩
    refine ⟨_, rfl, x, _, _, _, _, rfl, .ty "tuple", hd.ty, kit_ty (kit_tuple d), ?_⟩
    have zz := z H (fun _ _ e => e)
    cases d <;> exact zz
abbrev sTO : Stmt := top 31
abbrev nTO : List Str := ["base", "one", "two", "diff_one", "diff_two", "origins", "clashed", "token", "origin"]
theorem scTO : FnScope nTO nVers (defScope sTO) := ⟨rfl, rfl, rfl, by decide +kernel, rfl, by decide +kernel, by decide +kernel⟩
theorem ok_to {f fT fI T : Addr} {fd fdT fdI : FuncData} (F : Fun K "token_origins" "token_origins" sTO f fd) (B : Blt mg)
    (FT : Fun K "tokens_with_origins" "tokens_with_origins" sTWO fT fdT) (GT : FnOk P w K mg base CX0 9 fT fdT nVers (spTWO K T)) (bT : Binds K fdT nVers []) (mT : mg "tokens_with_origins" = some (.ref fT))
    (FI : Fun K "is_clash" "is_clash" sIsC fI fdI) (GI : FnOk P w K mg base CX0 1 fI fdI ["token"] (spJudge K isT)) (bI : Binds K fdI ["token"] []) (mI : mg "is_clash" = some (.ref fI)) : FnOk P w K mg base CX0 10 f fd nVers (spTO K T) := by
  refine F.ok scTO (fun vs H Q E h => ?_) (fun cdv A outer s H vs Q E hr h => ?_)
  · obtain ⟨x0, x1, x2, v1, v2, s0, s1, s2, ps, qs, rfl, _⟩ := h
    rfl
  · obtain ⟨x0, x1, x2, v1, v2, s0, s1, s2, ps, qs, rfl, R, l0, hT, z⟩ := h
    have hr1 := hr.mono (show 1 ≤ 9 by decide)
    refine ⟨_, pss_cons (ps_par (i := 5) (j := 6) rfl scTO.nd rfl rfl (by decide) rfl rfl (pa_cons (pe_lst pa_nil) (pa_cons pe_int pa_nil)) rfl)
      (pss_cons (ps_for PassesOwn.never rfl (pi_list (pe_call GT hr rfl mT FT.kp bT .nil pass0 (pa_cons (pv 0) (pa_cons (pv 1) (pa_cons (pv 2) (pa_cons (pv 3) (pa_cons (pv 4) pa_nil))))))) (pg_tup rfl (pgs_cons (pg_name (i := 7) scTO.nd rfl (.inl rfl)) (pgs_cons (pg_name (i := 8) scTO.nd rfl (.inl rfl)) pgs_nil)))
        (pss_cons (ps_expr (pe_bm PySem.F.plainAttrs_list PySem.F.slot_list_append PySem.F.type_list_append mt_append (pv 5) (pa_cons (pe_ifExp (pt_val (pe_call GI hr1 rfl mI FI.kp bI .nil pass0 (pa_cons (pv 7) pa_nil))) (pe_tup (pa_cons pe_str (pa_cons (pv 6) pa_nil))) (pv 8)) pa_nil)))
        (pss_one (ps_aug (i := 6) scTO.nd rfl (.inl rfl) (pe_ifExp (pt_val (pe_call GI hr1 rfl mI FI.kp bI .nil pass0 (pa_cons (pv 7) pa_nil))) pe_int pe_int) ip_add))))
      (pss_one (ps_ret (pv 5)))), ?_⟩
    have rl := rowP_len R l0
    refine ⟨ll20 (by show 0 ≤ 20; decide), fun D nD => ⟨_, _, rfl, ?_⟩⟩
    have sD := same_upd (o := .lst []) nD
    have hD0 := upd_same (H := H) (a := D) (o := .lst [])
    generalize upd H D (.lst []) = H0 at sD hD0 ⊢
    refine ⟨_, rfl, _, rfl, _, rfl, _, rfl, _, rfl, x0, x1, x2, v1, v2, s0, s1, s2, ps, qs, rfl, R.same sD, l0, tabS_same sD hT, fun l H1 xs kp tb nl hl hds => ⟨l, rfl, ⟨_, SqL.of hl⟩, ?_⟩⟩
    have DT : D ≠ T := fun e => by
      obtain ⟨q, hq, _⟩ := tabS_same sD hT
      rw [e, hq] at hD0
      cases hD0
    have hD1 := kp _ _ hD0 DT
    have lD : l ≠ D := fun e => by rw [e, hD0] at nl; cases nl
    have lxs : xs.length = (rowP s0 s1 s2 ps qs).length := by rw [hds.length, List.length_map]
    have fin : ∀ H' xs, ButT T H H' → LamX.TabS H' T lamQ → H' D = some (.lst xs) → DqAll K (noL H') xs (orgD 0 (rowP s0 s1 s2 ps qs)) → Q (.ref D) H' := fun H' xs b t h d => z D H' xs b t nD h d
    have kpH : ButT T H H1 := (ButT.of sD).trans kp
    generalize rowP s0 s1 s2 ps qs = row at hds lxs rl fin
    refine for_list (K := K) (a := l) (xs := xs) (fun i σ Hx => But D H1 Hx ∧ ∃ y7 y8 ys, σ = [some x0, some x1, some x2, some v1, some v2, some (V.ref D), some (.int (nCl (row.take i) : Int)), y7, y8] ∧ Hx D = some (.lst ys) ∧ DqAll K (noL Hx) ys (orgD 0 (row.take i)))
      ⟨But.refl D H1, _, _, [], rfl, hD1, .nil⟩ (fun i σ Hx _ hh => SqL.of (hh.1 _ _ hl lD)) ?_ ?_
    · rintro i x σ Hx hx ⟨bx, y7, y8, ys, rfl, hD, hys⟩
      obtain ⟨d, hd1, hd2⟩ := hds.get hx
      rw [List.getElem?_map] at hd1
      obtain ⟨tk, htk, rfl⟩ := Option.map_eq_some_iff.mp hd1
      have nx : Same (noL H1) (noL Hx) := noL_butL hD1 bx
      obtain ⟨r, zs, rfl, hr1', hzs⟩ := tup_of (hd2.same nx)
      cases hzs with
      | @cons z1 _ _ _ q1 hzs => cases hzs with
        | @cons z2 _ _ _ q2 hzs =>
          cases hzs
          have lys : ys.length ≤ 6000 * 140 := by
            rw [hys.length, orgD_len, List.length_take]
            omega
          have tkc : row.take (i + 1) = row.take i ++ [tk] := by rw [List.take_add_one, htk]; rfl
          refine ⟨r, _, rfl, XR.Same.tup noL_le hr1', rfl, _, _, rfl, _, _, rfl, rfl, ?_⟩
          refine ⟨_, rfl, .inl ⟨rfl, _, SqL.of hD⟩, _, rfl, z1, tk.1, rfl, q1.same noL_le, fun Ha sa => ⟨_, rfl, ?_⟩⟩
          have ncl : nCl (row.take (i + 1)) = nCl (row.take i) + (if isT tk.1 = true then 1 else 0) := by
            rw [tkc, nCl_append]
            congr 1
            unfold nCl
            by_cases h : isT tk.1 = true
            · rw [if_pos h, List.filter_cons_of_pos (p := fun t : TokP => isT t.1) h]; rfl
            · rw [if_neg h, List.filter_cons_of_neg (p := fun t : TokP => isT t.1) h]; rfl
          have og : orgD 0 (row.take (i + 1)) = orgD 0 (row.take i) ++ [if isT tk.1 = true then .tuple [.str "clash", .int (nCl (row.take i) : Int)] else tk.2] := by
            rw [tkc, orgD_append, Nat.zero_add]
            rfl
          have fin1 : ∀ (Hb : Hp) (v : V) (n : Nat), Same Hx Hb → nCl (row.take (i + 1)) = n → Dq K (noL Hb) v (if isT tk.1 = true then .tuple [.str "clash", .int (nCl (row.take i) : Int)] else tk.2) → ∀ Hc, Same (upd Hb D (.lst (ys ++ [v]))) Hc → But D H1 Hc ∧ ∃ y7 y8 ys', [some x0, some x1, some x2, some v1, some v2, some (V.ref D), some (.int (n : Int)), some z1, some z2] = [some x0, some x1, some x2, some v1, some v2, some (V.ref D), some (.int (nCl (row.take (i + 1)) : Int)), y7, y8] ∧ Hc D = some (.lst ys') ∧ DqAll K (noL Hc) ys' (orgD 0 (row.take (i + 1))) := fun Hb v n sb en hv Hc sc => by
            refine ⟨fun b o e n => sc _ _ ?_, _, _, _, by rw [en], sc _ _ upd_same, ?_⟩
            · rw [upd_ne n]
              exact sb _ _ (bx _ _ e n)
            · rw [og]
              refine DqAll.same (noL_same sc) ?_
              rw [noL_upd (sb _ _ hD)]
              exact (hys.same (noL_same sb)).append (.cons hv .nil)
          have qd : ∀ (Hb : Hp) (v : V), Same Hx Hb → Dq K (upd Hb D (.lst (ys ++ [v]))) z1 tk.1 := fun Hb v sb => by
            have h := q1.same (noL_same sb)
            rw [← noL_upd (ys := ys ++ [v]) (sb _ _ hD)] at h
            exact h.same noL_le
          cases c : isT tk.1 with
          | true =>
            refine iteT ⟨_, rfl, ll20 (by show 2 ≤ 20; decide), fun u nu => ?_⟩
            have su := same_upd (o := .tup [V.str "clash", V.int (nCl (row.take i) : Int)]) nu
            have sau := sa.trans su
            refine ⟨D, _, _, rfl, rfl, sau _ _ hD, Nat.lt_of_le_of_lt lys (by decide), ?_⟩
            refine ⟨_, rfl, _, rfl, z1, tk.1, rfl, qd _ _ sau, fun Hc sc => ⟨_, rfl, ?_⟩⟩
            · rw [c]
              refine iteT ⟨_, _, rfl, rfl, ?_⟩
              refine fin1 _ (.ref u) (nCl (row.take i) + 1) sau (by rw [ncl, c]; rfl) ?_ Hc sc
              rw [if_pos c]
              exact .tup (SqT.of (noL_tup upd_same)) (.cons (.str _) (.cons (.int _) .nil))
          | false =>
            refine iteF ⟨_, rfl, D, _, _, rfl, rfl, sa _ _ hD, Nat.lt_of_le_of_lt lys (by decide), ?_⟩
            refine ⟨_, rfl, _, rfl, z1, tk.1, rfl, qd _ _ sa, fun Hc sc => ⟨_, rfl, ?_⟩⟩
            · rw [c]
              refine iteF ⟨_, _, rfl, rfl, ?_⟩
              refine fin1 Ha z2 (nCl (row.take i)) sa (by rw [ncl, c]; rfl) ?_ Hc sc
              rw [if_neg (by rw [c]; decide)]
              exact q2.same (noL_same sa)
    rintro σ Hx ⟨bx, y7, y8, ys, rfl, hD, hys⟩
    rw [lxs, List.take_length] at hys
    refine ⟨_, rfl, fin Hx ys (fun b o e n => ?_) ?_ hD hys⟩
    · by_cases c : b = D
      · rw [c, nD] at e
        cases e
      · exact bx _ _ (kpH _ _ e n) c
    · exact tabS_butL hD1 bx tb
end
end K62
namespace XR
open PySem L2 KT
theorem orgD_plain : ∀ (ts : List TokP) (n : Nat), (∀ t ∈ ts, isT t.1 = false) → orgD n ts = ts.map (·.2)
  | [], _, _ => rfl
  | t :: ts, n, h => by
    have h0 := h t (List.mem_cons_self ..)
    show (if isT t.1 = true then _ else _) :: orgD _ ts = _
    rw [if_neg (by rw [h0]; decide), orgD_plain ts _ fun x hx => h x (List.mem_cons_of_mem _ hx)]
    rfl
/-- the origins of a knot's tokens -/
def srcL (s1 s2 : List Str) (ps qs : List (Nat × Nat)) (k : List Blk × List Blk) (n : Nat) : List PyData := orgD n (tokK s1 s2 ps qs k)
section
variable {s1 s2 : List Str} {ps qs : List (Nat × Nat)} {n : Nat}
theorem src_going {k : List Blk × List Blk} (e : kindL k s1 s2 = "going") : srcL s1 s2 ps qs k n = [] := by
  unfold srcL tokK
  rw [if_neg (by rw [e]; decide +kernel), if_neg (by rw [e]; decide +kernel), if_neg (by rw [e]; decide +kernel), if_neg (by rw [e]; decide +kernel)]
  rfl
theorem src_clash {k : List Blk × List Blk} (e : kindL k s1 s2 = "clash") : srcL s1 s2 ps qs k n = [.tuple [.str "clash", .int (n : Int)]] := by
  unfold srcL tokK
  rw [if_pos e]
  rfl
theorem src_one {b : Blk} (e : kindL ([b], []) s1 s2 = "one") : srcL s1 s2 ps qs ([b], []) n = (numB b).map fun j => .tuple [.int 1, .int (j : Int)] := by
  unfold srcL tokK
  rw [if_neg (by rw [e]; decide +kernel), if_pos e, orgD_plain _ _ fun t ht => by obtain ⟨j, _, rfl⟩ := List.mem_map.mp ht; rfl, List.map_map]
  unfold numsB
  simp [lnTok, Function.comp_def]
theorem src_two {b : Blk} (e : kindL ([], [b]) s1 s2 = "two") : srcL s1 s2 ps qs ([], [b]) n = (numB b).map fun j => .tuple [.int 2, .int (j : Int)] := by
  unfold srcL tokK
  rw [if_neg (by rw [e]; decide +kernel), if_neg (by rw [e]; decide +kernel), if_pos e, orgD_plain _ _ fun t ht => by obtain ⟨j, _, rfl⟩ := List.mem_map.mp ht; rfl, List.map_map]
  unfold numsB
  simp [lnTok, Function.comp_def]
theorem src_alike {b c : Blk} (e : kindL ([b], [c]) s1 s2 = "alike") : srcL s1 s2 ps qs ([b], [c]) n = ((numB b).zip (numB c)).map fun q => .tuple [.str "both", .int (q.1 : Int), .int (q.2 : Int)] := by
  unfold srcL tokK
  rw [if_neg (by rw [e]; decide +kernel), if_neg (by rw [e]; decide +kernel), if_neg (by rw [e]; decide +kernel), if_pos e, orgD_plain _ _ fun t ht => by obtain ⟨j, _, rfl⟩ := List.mem_map.mp ht; rfl, List.map_map]
  unfold numsB
  simp [bothTok, Function.comp_def]
end
def numV (b : Blk) : List V := (numB b).map fun j : Nat => V.int (j : Int)
theorem rg_numB (b : Blk) : rgV ((b.2.2.1 : Int) + 1) ((b.2.2.2 : Int) + 1) = numV b := by
  unfold rgV numV numB
  rw [List.map_map, show ((b.2.2.2 : Int) + 1 - ((b.2.2.1 : Int) + 1)).toNat = b.2.2.2 - b.2.2.1 by omega]
  refine List.map_congr_left fun i _ => ?_
  show V.int _ = V.int _
  congr 1
def spSrc (K : PySem.W.Frag) : Sp := fun vs H Q _ => ∃ (c ra ta da wa t1 t2 d1 d2 : Addr) (C : CaseD) (x : V) (k : List Blk × List Blk) (n : Nat), vs = [.ref c, x, .int (n : Int)] ∧ CaseAt' H c ra ta da wa t1 t2 d1 d2 C ∧ CaseOk C ∧ CaseWd C ∧ Dq K H x (knD k) ∧ KnFact C.s0 C.s1 C.s2 k ∧
  ∀ l H' xs, Same H H' → H l = none → H' l = some (.lst xs) → DqAll K (noL H') xs (srcL C.s1 C.s2 C.ps C.qs k n) → Q (.ref l) H'
end XR
namespace K62
open PySem L2 XR KT
section
variable {P : Program} {w : World} {K : PySem.W.Frag} {mg : Str → Option Value} {base : Heap}
abbrev sSrc : Stmt := top 54
abbrev nSrc : List Str := ["_law_case_here", "_law_knot", "_law_ahead", "_law_word", "_law_spans", "_law_part", "_law_j", "_law_k"]
theorem scSrc : FnScope nSrc ["_law_case_here", "_law_knot", "_law_ahead"] (defScope sSrc) := ⟨rfl, rfl, rfl, by decide +kernel, rfl, by decide +kernel, by decide +kernel⟩
theorem ok_src {f fS : Addr} {fd fdS : FuncData} (F : Fun K "_law_sources" "_law_sources" sSrc f fd) (T : Blt mg)
    (FS : Fun K "_law_sort_of" "_law_sort_of" sSort fS fdS) (GS : FnOk P w K mg base CX0 2 fS fdS ["_law_knot", "_law_case_here"] (spSort K)) (bS : Binds K fdS ["_law_knot", "_law_case_here"] []) (mS : mg "_law_sort_of" = some (.ref fS)) : FnOk P w K mg base CX0 3 f fd ["_law_case_here", "_law_knot", "_law_ahead"] (spSrc K) := by
  refine F.ok scSrc (fun vs H Q E h => ?_) (fun cdv A outer s H vs Q E hr h => ?_)
  · obtain ⟨c, ra, ta, da, wa, t1, t2, d1, d2, C, x, k, n, rfl, _⟩ := h
    rfl
  · obtain ⟨c, ra, ta, da, wa, t1, t2, d1, d2, C, x, k, n, rfl, hc, ok, wd, hx, kf, z⟩ := h
    refine ⟨_, pss_cons (ps_set (i := 3) scSrc.nd rfl (.inr rfl) (pe_call GS hr rfl mS FS.kp bS .nil pass0 (pa_cons (pv 1) (pa_cons (pv 0) pa_nil))))
      (pss_cons (ps_if (pt_cmpR op_eq (pv 3) pe_str (nomark _)) (pss_one (ps_ret (pe_lst pa_nil))) pss_nil)
      (pss_cons (ps_if (pt_cmpR op_eq (pv 3) pe_str (nomark _)) (pss_one (ps_ret (pe_lst (pa_cons (pe_tup (pa_cons pe_str (pa_cons (pv 2) pa_nil))) pa_nil)))) pss_nil)
      (pss_cons (ps_setLc (i := 4) (own := [("_law_part", 5)]) (g := gName 5) (tt := tYes) (te := tLstRg (tRg2 (tOp (rI0 fun i j => V.int (i + j)) (tOp (rIxT K) (tVar 5) (tC (.int 2))) (tC (.int 1))) (tOp (rI0 fun i j => V.int (i + j)) (tOp (rIxT K) (tVar 5) (tC (.int 3))) (tC (.int 1))))) rfl scSrc.nd rfl rfl (sw_true rfl rfl rfl (by decide +kernel)) (pi_tup (pe_op op_catA (pe_ix ix_tup (pv 1) pe_int (fun _ _ => rfl)) (pe_ix ix_tup (pv 1) pe_int (fun _ _ => rfl))))
          (blkOk_by (own := [("_law_part", 5)]) (N := nSrc) (sc := defScope sSrc) (by decide +kernel)) (fun _ _ _ _ _ => pg_name (i := 5) scSrc.nd rfl (.inl rfl)) (fun _ _ _ _ _ => pts_nil)
          (fun _ _ _ _ _ => pe_listRg rfl (by rfl) (T.all "list" (by decide)) (prg_2 (by rfl) T.range (pe_op op_add (pe_ix ix_tup (pv 5) pe_int (fun _ _ => rfl)) pe_int) (pe_op op_add (pe_ix ix_tup (pv 5) pe_int (fun _ _ => rfl)) pe_int))))
      (pss_cons (ps_if (pt_cmpR op_eq (pv 3) pe_str (nomark _)) (pss_one (ps_ret (pe_lc (own := [("_law_j", 6), ("_law_k", 7)]) (g := gTup K 2 (gCons (gName 6) (gCons (gName 7) gNil))) (tt := tYes) (te := tTup (tCons (tC (.str "both")) (tCons (tVar 6) (tCons (tVar 7) tNil)))) rfl scSrc.nd
          (pi_zipW rfl (T.all "zip" (by decide)) (pa_cons (pe_ix ix_list (pv 4) pe_int (fun _ _ => rfl)) (pa_cons (pe_ix ix_list (pv 4) pe_int (fun _ _ => rfl)) pa_nil)))
          (blkOk_by (own := [("_law_j", 6), ("_law_k", 7)]) (N := nSrc) (sc := defScope sSrc) (by decide +kernel)) (fun _ _ _ _ _ => pg_tup rfl (pgs_cons (pg_name (i := 6) scSrc.nd rfl (.inl rfl)) (pgs_cons (pg_name (i := 7) scSrc.nd rfl (.inl rfl)) pgs_nil))) (fun _ _ _ _ _ => pts_nil)
          (fun _ _ _ _ _ => pe_tup (pa_cons pe_str (pa_cons (pv 6) (pa_cons (pv 7) pa_nil))))))) pss_nil)
      (pss_one (ps_ret (pe_lc (own := [("_law_j", 6)]) (g := gName 6) (tt := tYes) (te := tTup (tCons (tOp (rI0 fun i j => V.int (i + j)) (tBM K "list" (rIndex K) (tLst (tCons (tC (.str "one")) (tCons (tC (.str "two")) tNil))) (tCons (tVar 3) tNil)) (tC (.int 1))) (tCons (tVar 6) tNil))) rfl scSrc.nd
          (pi_list (pe_ix ix_list (pv 4) pe_int (fun _ _ => rfl)))
          (blkOk_by (own := [("_law_j", 6)]) (N := nSrc) (sc := defScope sSrc) (by decide +kernel)) (fun _ _ _ _ _ => pg_name (i := 6) scSrc.nd rfl (.inl rfl)) (fun _ _ _ _ _ => pts_nil)
          (fun _ _ _ _ _ => pe_tup (pa_cons (pe_op op_add (pe_bm PySem.F.plainAttrs_list PySem.F.slot_list_index PySem.F.type_list_index mt_index (pe_lst (pa_cons pe_str (pa_cons pe_str pa_nil))) (pa_cons (pv 3) pa_nil)) pe_int) (pa_cons (pv 6) pa_nil)))))))))), ?_⟩
    have str_ne : ∀ {a b : Str}, a ≠ b → decide (V.str a = V.str b) = false := fun n => decide_eq_false fun e => n (by injection e)
    refine ⟨_, rfl, _, rfl, x, k, c, ra, ta, da, wa, t1, t2, d1, d2, C, rfl, hx, hc, wd.w1.oks, wd.w2.oks, kf.i1, kf.i2, kf.len, fun H1 h1 => ?_⟩
    have hx1 := hx.same h1
    have l1' := ok.l1
    have l2' := ok.l2
    refine ⟨_, rfl, rfl, _, rfl, ?_⟩
    by_cases g : kindL k C.s1 C.s2 = "going"
    · rw [g, decide_eq_true rfl]
      refine iteT ⟨ll20 (by show 0 ≤ 20; decide), fun t nt => ?_⟩
      refine z t _ [] (h1.trans (same_upd nt)) (none_before h1 nt) upd_same ?_
      rw [src_going g]
      exact .nil
    rw [str_ne g]
    refine iteF ⟨_, rfl, rfl, _, rfl, ?_⟩
    by_cases cl : kindL k C.s1 C.s2 = "clash"
    · rw [cl, decide_eq_true rfl]
      refine iteT ⟨_, rfl, ll20 (by show 2 ≤ 20; decide), fun u nu => ⟨ll20 (by show 1 ≤ 20; decide), fun t nt => ?_⟩⟩
      have su := same_upd (o := .tup [V.str "clash", V.int (n : Int)]) nu
      have hu' := upd_same (H := H1) (a := u) (o := .tup [V.str "clash", V.int (n : Int)])
      generalize upd H1 u (.tup [V.str "clash", V.int (n : Int)]) = H2 at su hu' nt ⊢
      have st := same_upd (o := .lst [V.ref u]) nt
      refine z t _ [.ref u] ((h1.trans su).trans st) (none_before (h1.trans su) nt) upd_same ?_
      rw [src_clash cl, noL_new nt]
      exact .cons (.tup (SqT.of (noL_tup hu')) (.cons (.str _) (.cons (.int _) .nil))) .nil
    rw [str_ne cl]
    refine iteF ?_
    obtain ⟨r, y0, y1, rfl, hr0, d0, d1'⟩ := knD_of hx1
    refine ⟨_, rfl, r, _, _, _, rfl, rfl, hr0, atI_nat (j := 0) rfl, _, rfl, r, _, _, _, rfl, rfl, hr0, atI_nat (j := 1) rfl, ?_⟩
    refine cat_dq d0 d1' (by rw [List.length_map, List.length_map, ← List.length_append]; exact Nat.le_trans kf.len (by decide)) fun t ys H2 s2 ht hys => ?_
    rw [← List.map_append] at hys
    obtain ⟨bs, ebs⟩ : ∃ bs, bs = k.1 ++ k.2 := ⟨_, rfl⟩
    have klen := kf.len
    have kin : ∀ b ∈ k.1 ++ k.2, b.2.2.1 ≤ 24 ∧ b.2.2.2 ≤ 24 := fun b hb => by
      rcases List.mem_append.mp hb with q | q
      · have := kf.i1 b q
        omega
      · have := kf.i2 b q
        omega
    rw [← ebs] at hys klen kin
    have lys : ys.length = bs.length := by rw [hys.length, List.length_map]
    refine ⟨t, rfl, ⟨_, ht⟩, fun D nD => ?_⟩
    refine lc_tup (K := K) (a := t) (xs := ys) (fun j Hx => Same H2 Hx ∧ ∃ us, Hx D = some (.lst (refs us)) ∧ LAt (fun u b => Hx u = some (.lst (numV b)) ∧ u ≠ D) us (bs.take j)) ⟨same_upd nD, [], upd_same, .nil⟩ (fun j Hx _ hh => XR.Same.tup hh.1 ht) ?_ ?_
    · rintro j y Hx hy ⟨sx, us, hD, hus⟩
      obtain ⟨d, hd1, hd2⟩ := hys.get hy
      rw [List.getElem?_map] at hd1
      obtain ⟨b, hbj, rfl⟩ := Option.map_eq_some_iff.mp hd1
      obtain ⟨rb, rfl, hrb⟩ := blk_of (hd2.same sx)
      obtain ⟨q1, q2⟩ := kin b (List.mem_of_getElem? hbj)
      refine ⟨wipe_one, ?_⟩
      unfold tYes
      dsimp only
      rw [if_pos rfl]
      refine ⟨_, rfl, rb, _, _, _, rfl, rfl, hrb, atI_nat (j := 2) rfl, _, _, rfl, rfl, _, rfl, rb, _, _, _, rfl, rfl, hrb, atI_nat (j := 3) rfl, _, _, rfl, rfl, _, _, rfl, rfl, RgOk.of_le (by omega) (by omega) (by omega) (by omega), fun u nu => ?_⟩
      rw [rg_numB]
      have su := same_upd (o := .lst (numV b)) nu
      have hu' := upd_same (H := Hx) (a := u) (o := .lst (numV b))
      generalize upd Hx u (.lst (numV b)) = Hy at su hu' ⊢
      have hDy := su _ _ hD
      have uD : u ≠ D := (ne_of_none hD nu).symm
      refine ⟨_, hDy, ?_, fun b' o' h => ?_, us ++ [u], ?_, ?_⟩
      · rw [hus.len, List.length_take]
        exact Nat.lt_of_le_of_lt (Nat.le_trans (Nat.min_le_right _ _) klen) (by decide)
      · rw [upd_ne (ne_of_none h nD)]
        exact su _ _ (sx _ _ h)
      · rw [upd_same, refs_snoc]
      · rw [List.take_add_one, hbj]
        have keep : ∀ {v : Addr} {vs : List V}, Hy v = some (.lst vs) → v ≠ D → upd Hy D (.lst (refs us ++ [V.ref u])) v = some (.lst vs) := fun {v vs} e n => by
          rw [upd_ne n]
          exact e
        exact (hus.mono fun v b' _ _ q => ⟨keep (su _ _ q.1) q.2, q.2⟩).append (.one ⟨keep hu' uD, uD⟩)
    rintro H3 ⟨s3, us, hD, hus⟩
    rw [lys, List.take_length] at hus
    have s13 := (h1.trans s2).trans s3
    refine ⟨_, rfl, rfl, _, rfl, ?_⟩
    -- one pair for each line
    have pairs : ∀ (wd' : Str) (v : Int) (b : Blk) (u : Addr), kindL k C.s1 C.s2 = wd' → ((wd' = "one" ∧ v = 0) ∨ (wd' = "two" ∧ v = 1)) → us[0]? = some u → H3 u = some (.lst (numV b)) → (numB b).length ≤ 24 → srcL C.s1 C.s2 C.ps C.qs k n = (numB b).map (fun j : Nat => PyData.tuple [.int (v + 1), .int (j : Int)]) →
        tRet (tLc (iList K (tOp (rIxL K) (tVar 4) (tC (.int 0)))) (gName 6) tYes (tTup (tCons (tOp (rI0 fun i j => V.int (i + j)) (tBM K "list" (rIndex K) (tLst (tCons (tC (.str "one")) (tCons (tC (.str "two")) tNil))) (tCons (tVar 3) tNil)) (tC (.int 1))) (tCons (tVar 6) tNil))) [6])
          { nx := fun _ H' => Q .non H', rt := Q } [some (.ref c), some (.ref r), some (.int (n : Int)), some (.str wd'), some (.ref D), none, none, none] H3 := by
      intro wd' v b u ek hv hu0 hu1 lb hsrc
      refine ⟨_, rfl, D, _, _, _, rfl, rfl, SqL.of hD, atI_nat (j := 0) (by unfold refs; rw [List.getElem?_map, hu0]; rfl), u, rfl, ⟨_, SqL.of hu1⟩, fun E' nE => ?_⟩
      have lnv : (numV b).length = (numB b).length := List.length_map ..
      refine lc_list (K := K) (a := u) (xs := numV b) (fun j Hx => Same H3 Hx ∧ ∃ ys, Hx E' = some (.lst ys) ∧ DqAll K (noL Hx) ys (((numB b).take j).map fun j : Nat => PyData.tuple [.int (v + 1), .int (j : Int)])) ⟨same_upd nE, [], upd_same, .nil⟩ (fun j Hx _ hh => SqL.of (hh.1 _ _ hu1)) ?_ ?_
      · rintro j y Hx hy ⟨sx, ys', hE, hys'⟩
        obtain ⟨i, rfl, hi⟩ : ∃ i : Nat, y = V.int (i : Int) ∧ (numB b)[j]? = some i := by
          unfold numV at hy
          rw [List.getElem?_map] at hy
          obtain ⟨i, e1, e2⟩ := Option.map_eq_some_iff.mp hy
          exact ⟨i, e2.symm, e1⟩
        refine ⟨wipe_one, ?_⟩
        unfold tYes
        dsimp only
        rw [if_pos rfl]
        refine ⟨ll20 (by show 2 ≤ 20; decide), fun p np => ?_⟩
        have sp := same_upd (o := .lst [V.str "one", V.str "two"]) np
        have hp := upd_same (H := Hx) (a := p) (o := .lst [V.str "one", V.str "two"])
        generalize upd Hx p (.lst [V.str "one", V.str "two"]) = Hy at sp hp ⊢
        refine ⟨.inl ⟨rfl, _, SqL.of hp⟩, _, rfl, ?_⟩
        have idx : ∀ Q' : VK, Q' (.int v) Hy → rIndex K (.ref p) [.str wd'] Hy Q' := fun Q' q => by
          rcases hv with ⟨rfl, rfl⟩ | ⟨rfl, rfl⟩
          · exact ⟨p, _, _, 0, _, rfl, rfl, SqL.of hp, rfl, rfl, rfl, by decide +kernel, fun m z' hm => absurd hm (Nat.not_lt_zero m), q⟩
          · exact ⟨p, _, _, 1, _, rfl, rfl, SqL.of hp, rfl, rfl, rfl, by decide +kernel, fun m z' hm e => by
              have : m = 0 := by omega
              subst this
              cases Option.some.inj e
              decide +kernel, q⟩
        dsimp only [tNil]
        refine idx _ ?_
        refine ⟨_, _, rfl, rfl, _, rfl, ll20 (by show 2 ≤ 20; decide), fun q nq => ?_⟩
        have sq := same_upd (o := .tup [V.int (v + 1), V.int (i : Int)]) nq
        have hq := upd_same (H := Hy) (a := q) (o := .tup [V.int (v + 1), V.int (i : Int)])
        generalize upd Hy q (.tup [V.int (v + 1), V.int (i : Int)]) = Hz at sq hq ⊢
        have spq := sp.trans sq
        refine ⟨_, spq _ _ hE, ?_, fun b' o' h => ?_, ys' ++ [.ref q], upd_same, ?_⟩
        · rw [hys'.length, List.length_map, List.length_take]
          exact Nat.lt_of_le_of_lt (show _ ≤ 24 by omega) (by decide)
        · rw [upd_ne (ne_of_none h nE)]
          exact spq _ _ (sx _ _ h)
        · rw [noL_upd (spq _ _ hE), List.take_add_one, hi, List.map_append]
          exact (hys'.same (noL_same spq)).append (.cons (.tup (SqT.of (noL_tup hq)) (.cons (.int _) (.cons (.int _) .nil))) .nil)
      rintro H4 ⟨s4, ys', hE, hys'⟩
      rw [lnv, List.take_length] at hys'
      refine z E' H4 ys' (s13.trans s4) (none_before s13 nE) hE ?_
      rw [hsrc]
      exact hys'
    rcases kind_shape k C.s1 C.s2 with c1 | ⟨c1, b, ek⟩ | ⟨c1, b, ek⟩ | ⟨c1, b, b', ek, _, _, es⟩ | c1
    · exact absurd c1 g
    · rw [str_ne (by rw [c1]; decide +kernel)]
      refine iteF ?_
      subst ek
      rw [ebs] at hus
      obtain ⟨u, hu0, hu1⟩ := hus.2 0 b rfl
      rw [c1]
      exact pairs "two" 1 b u c1 (.inr ⟨rfl, rfl⟩) hu0 hu1.1 (by rw [numB_len]; have := kf.i2 b (List.mem_singleton.mpr rfl); omega) (src_two c1)
    · rw [str_ne (by rw [c1]; decide +kernel)]
      refine iteF ?_
      subst ek
      rw [ebs] at hus
      obtain ⟨u, hu0, hu1⟩ := hus.2 0 b rfl
      rw [c1]
      exact pairs "one" 0 b u c1 (.inl ⟨rfl, rfl⟩) hu0 hu1.1 (by rw [numB_len]; have := kf.i1 b (List.mem_singleton.mpr rfl); omega) (src_one c1)
    · rw [c1, decide_eq_true rfl]
      subst ek
      rw [ebs] at hus
      obtain ⟨u, hu0, hu1, _⟩ := hus.2 0 b rfl
      obtain ⟨u', hv0, hv1, _⟩ := hus.2 1 b' rfl
      have lb : (numB b).length ≤ 24 := by rw [numB_len]; have := kf.i1 b (List.mem_singleton.mpr rfl); omega
      have ln : (numV b).length = (numB b).length := List.length_map ..
      have ln' : (numV b').length = (numB b').length := List.length_map ..
      refine iteT ⟨_, rfl, D, _, _, _, rfl, rfl, SqL.of hD, atI_nat (j := 0) (by unfold refs; rw [List.getElem?_map, hu0]; rfl), _, rfl, D, _, _, _, rfl, rfl, SqL.of hD, atI_nat (j := 1) (by unfold refs; rw [List.getElem?_map, hv0]; rfl), u, u', _, _, true, true, rfl, SqL.of hu1, SqL.of hv1, fun E' nE => ?_⟩
      refine lc_it (walk_zipW (n := ((numB b).zip (numB b')).length) (by rw [ln, ln', List.length_zip])) (fun j Hx => Same H3 Hx ∧ ∃ ys, Hx E' = some (.lst ys) ∧ DqAll K (noL Hx) ys ((((numB b).zip (numB b')).take j).map fun q : Nat × Nat => PyData.tuple [.str "both", .int (q.1 : Int), .int (q.2 : Int)])) ⟨same_upd nE, [], upd_same, .nil⟩ (fun j Hx _ hh => ⟨SqL.of (hh.1 _ _ hu1), SqL.of (hh.1 _ _ hv1)⟩) ?_ ?_
      · rintro j x Ha Hb hj ⟨sm, ys', hE, hys'⟩ ⟨T0, y1, y2, rfl, nT, rfl, e1, e2⟩
        have hz := List.getElem?_eq_getElem hj
        obtain ⟨z1, z2⟩ := List.getElem?_zip_eq_some.mp hz
        generalize ((numB b).zip (numB b'))[j] = q at hz z1 z2
        have ey1 : y1 = V.int (q.1 : Int) := by
          have e1 : (numV b)[j]? = some y1 := e1
          unfold numV at e1
          rw [List.getElem?_map, z1] at e1
          exact (Option.some.inj e1).symm
        have ey2 : y2 = V.int (q.2 : Int) := by
          have e2 : (numV b')[j]? = some y2 := e2
          unfold numV at e2
          rw [List.getElem?_map, z2] at e2
          exact (Option.some.inj e2).symm
        subst ey1 ey2
        have sT := same_upd (o := .tup [V.int (q.1 : Int), V.int (q.2 : Int)]) nT
        have hT := upd_same (H := Ha) (a := T0) (o := .tup [V.int (q.1 : Int), V.int (q.2 : Int)])
        generalize upd Ha T0 (.tup [V.int (q.1 : Int), V.int (q.2 : Int)]) = Hb at sT hT ⊢
        refine ⟨T0, _, rfl, SqT.of hT, rfl, _, _, rfl, _, _, rfl, rfl, rfl, ?_⟩
        unfold tYes
        dsimp only
        rw [if_pos rfl]
        refine ⟨_, rfl, _, rfl, ll20 (by show 3 ≤ 20; decide), fun p np => ?_⟩
        have sp := same_upd (o := .tup [V.str "both", V.int (q.1 : Int), V.int (q.2 : Int)]) np
        have hp := upd_same (H := Hb) (a := p) (o := .tup [V.str "both", V.int (q.1 : Int), V.int (q.2 : Int)])
        generalize upd Hb p (.tup [V.str "both", V.int (q.1 : Int), V.int (q.2 : Int)]) = Hc at sp hp ⊢
        have stp := sT.trans sp
        refine ⟨_, stp _ _ hE, ?_, fun b' o' h => ?_, ys' ++ [.ref p], upd_same, ?_⟩
        · rw [hys'.length, List.length_map, List.length_take, List.length_zip]
          exact Nat.lt_of_le_of_lt (show _ ≤ 24 by omega) (by decide)
        · rw [upd_ne (ne_of_none h nE)]
          exact stp _ _ (sm _ _ h)
        · rw [noL_upd (stp _ _ hE), List.take_add_one, hz, List.map_append]
          exact (hys'.same (noL_same stp)).append (.cons (.tup (SqT.of (noL_tup hp)) (.cons (.str _) (.cons (.int _) (.cons (.int _) .nil)))) .nil)
      rintro H4 ⟨s4, ys', hE, hys'⟩
      rw [List.take_length] at hys'
      refine z E' H4 ys' (s13.trans s4) (none_before s13 nE) hE ?_
      rw [src_alike c1]
      exact hys'
    · exact absurd c1 cl
end
end K62
namespace XR
open PySem L2 KT
/-- an origin that tells where the token is from -/
def SrcOf (s0 s1 s2 : List Str) (d o : PyData) : Prop :=
  (isT d = true ∧ ∃ n : Nat, o = .tuple [.str "clash", .int (n : Int)] ∧ n ≤ 900000) ∨
  (∃ (i : Nat) (s : Str), s0[i]? = some s ∧ d = .str s ∧ o = .tuple [.str "base", .int ((i + 1 : Nat) : Int)]) ∨
  (∃ (i j : Nat) (s : Str), s1[i]? = some s ∧ s2[j]? = some s ∧ d = .str s ∧ o = .tuple [.str "both", .int ((i + 1 : Nat) : Int), .int ((j + 1 : Nat) : Int)]) ∨
  (∃ (i : Nat) (s : Str), s1[i]? = some s ∧ d = .str s ∧ o = .tuple [.int 1, .int ((i + 1 : Nat) : Int)]) ∨
  (∃ (i : Nat) (s : Str), s2[i]? = some s ∧ d = .str s ∧ o = .tuple [.int 2, .int ((i + 1 : Nat) : Int)])
theorem getD_some {ss : List Str} {i : Nat} (h : i < ss.length) : ss[i]? = some (ss.getD i "") := by
  rw [List.getD_eq_getElem?_getD, List.getElem?_eq_getElem h]
  rfl
theorem tok_src {s0 s1 s2 : List Str} {ps qs : List (Nat × Nat)} {k : List Blk × List Blk} (kf : KnFact s0 s1 s2 k) : ∀ t ∈ tokK s1 s2 ps qs k, isT t.1 = true ∨ SrcOf s0 s1 s2 t.1 t.2 := by
  intro t ht
  unfold tokK at ht
  rcases kind_shape k s1 s2 with e | ⟨e, b, rfl⟩ | ⟨e, b, rfl⟩ | ⟨e, b, c, rfl, _, _, es⟩ | e
  · rw [if_neg (by rw [e]; decide +kernel), if_neg (by rw [e]; decide +kernel), if_neg (by rw [e]; decide +kernel), if_neg (by rw [e]; decide +kernel)] at ht
    cases ht
  · rw [if_neg (by rw [e]; decide +kernel), if_neg (by rw [e]; decide +kernel), if_pos e] at ht
    obtain ⟨j, hj, rfl⟩ := List.mem_map.mp ht
    have hj : j ∈ numB b := by unfold numsB at hj; simpa using hj
    have h1 := numB_mem.mp hj
    have h2 := kf.i2 b (List.mem_singleton.mpr rfl)
    refine .inr (.inr (.inr (.inr (.inr ⟨j - 1, _, getD_some (by omega), rfl, ?_⟩))))
    show PyData.tuple [.int 2, .int (j : Int)] = _
    rw [show j - 1 + 1 = j by omega]
  · rw [if_neg (by rw [e]; decide +kernel), if_pos e] at ht
    obtain ⟨j, hj, rfl⟩ := List.mem_map.mp ht
    have hj : j ∈ numB b := by unfold numsB at hj; simpa using hj
    have h1 := numB_mem.mp hj
    have h2 := kf.i1 b (List.mem_singleton.mpr rfl)
    refine .inr (.inr (.inr (.inr (.inl ⟨j - 1, _, getD_some (by omega), rfl, ?_⟩))))
    show PyData.tuple [.int 1, .int (j : Int)] = _
    rw [show j - 1 + 1 = j by omega]
  · rw [if_neg (by rw [e]; decide +kernel), if_neg (by rw [e]; decide +kernel), if_neg (by rw [e]; decide +kernel), if_pos e] at ht
    obtain ⟨q, hq, rfl⟩ := List.mem_map.mp ht
    have i1 := kf.i1 b (List.mem_singleton.mpr rfl)
    have i2 := kf.i2 c (List.mem_singleton.mpr rfl)
    obtain ⟨i, hi⟩ := List.getElem?_of_mem hq
    obtain ⟨e1, e2⟩ := List.getElem?_zip_eq_some.mp hi
    have n1 : numsB [b] = numB b := by unfold numsB; simp
    have n2 : numsB [c] = numB c := by unfold numsB; simp
    rw [n1] at e1
    rw [n2] at e2
    have il : i < b.2.2.2 - b.2.2.1 := by
      have := (List.getElem?_eq_some_iff.mp e1).1
      rw [numB_len] at this
      exact this
    have il2 : i < c.2.2.2 - c.2.2.1 := by
      have := (List.getElem?_eq_some_iff.mp e2).1
      rw [numB_len] at this
      exact this
    have v1 : q.1 = b.2.2.1 + 1 + i := by
      unfold numB at e1
      rw [List.getElem?_map, List.getElem?_range il] at e1
      exact (Option.some.inj e1).symm
    have v2 : q.2 = c.2.2.1 + 1 + i := by
      unfold numB at e2
      rw [List.getElem?_map, List.getElem?_range il2] at e2
      exact (Option.some.inj e2).symm
    have es' := congrArg (fun l => l[i]?) es
    unfold seg at es'
    rw [List.getElem?_take_of_lt il, List.getElem?_drop, List.getElem?_take_of_lt il2, List.getElem?_drop] at es'
    have g1 : s1[q.1 - 1]? = some (s1.getD (q.1 - 1) "") := getD_some (by omega)
    refine .inr (.inr (.inr (.inl ⟨q.1 - 1, q.2 - 1, _, g1, ?_, rfl, ?_⟩)))
    · rw [show q.2 - 1 = c.2.2.1 + i by omega, ← es', show b.2.2.1 + i = q.1 - 1 by omega]
      exact g1
    · show PyData.tuple [.str "both", .int (q.1 : Int), .int (q.2 : Int)] = _
      rw [show q.1 - 1 + 1 = q.1 by omega, show q.2 - 1 + 1 = q.2 by omega]
  · rw [if_pos e] at ht
    rw [List.mem_singleton.mp ht]
    exact .inl rfl
theorem row_src {s0 s1 s2 : List Str} {ps qs : List (Nat × Nat)} (kf : ∀ k ∈ knR s0 s1 s2 ps qs, KnFact s0 s1 s2 k) : ∀ t ∈ rowP s0 s1 s2 ps qs, isT t.1 = true ∨ SrcOf s0 s1 s2 t.1 t.2 := by
  intro t ht
  unfold rowP at ht
  obtain ⟨p, hp, ht⟩ := List.mem_flatMap.mp ht
  have hp := List.mem_mergeSort.mp hp
  unfold partsL at hp
  rcases List.mem_append.mp hp with hp | hp
  · unfold standP at hp
    obtain ⟨i, hi, rfl⟩ := List.mem_map.mp hp
    rw [List.mem_singleton.mp ht]
    have := List.mem_range.mp (List.mem_filter.mp hi).1
    exact .inr (.inr (.inl ⟨i, _, getD_some this, rfl, rfl⟩))
  · obtain ⟨k, hk, rfl⟩ := List.mem_map.mp hp
    exact tok_src (kf k hk) t ht
theorem org_src {s0 s1 s2 : List Str} : ∀ (ts : List TokP) (n : Nat), n + ts.length ≤ 900000 → (∀ t ∈ ts, isT t.1 = true ∨ SrcOf s0 s1 s2 t.1 t.2) → ∀ (i : Nat) (t : TokP), ts[i]? = some t → ∃ o, (orgD n ts)[i]? = some o ∧ SrcOf s0 s1 s2 t.1 o
  | [], _, _, _, i, t, h => by simp at h
  | u :: ts, n, hn, hs, 0, t, h => by
    cases Option.some.inj h
    refine ⟨_, rfl, ?_⟩
    rw [List.length_cons] at hn
    by_cases c : isT u.1 = true
    · rw [if_pos c]
      exact .inl ⟨c, n, rfl, by omega⟩
    · rw [if_neg c]
      exact (hs u (List.mem_cons_self ..)).resolve_left c
  | u :: ts, n, hn, hs, i + 1, t, h => by
    rw [List.length_cons] at hn
    refine org_src ts _ ?_ (fun x hx => hs x (List.mem_cons_of_mem _ hx)) i t h
    split <;> omega
def spFrom (K : PySem.W.Frag) : Sp := fun vs H Q _ => ∃ (c ra ta da wa t1 t2 d1 d2 : Addr) (C : CaseD) (x y : V) (d o : PyData), vs = [.ref c, x, y] ∧ CaseAt' H c ra ta da wa t1 t2 d1 d2 C ∧ Dq K H x d ∧ Dq K H y o ∧ SrcOf C.s0 C.s1 C.s2 d o ∧ ∀ H', Same H H' → Q (.bl true) H'
end XR
namespace K62
open PySem L2 XR KT
section
variable {P : Program} {w : World} {K : PySem.W.Frag} {mg : Str → Option Value} {base : Heap}
abbrev sFrom : Stmt := top 56
abbrev nFrom : List Str := ["_law_case_here", "_law_token", "_law_source"]
theorem scFrom : FnScope nFrom nFrom (defScope sFrom) := ⟨rfl, rfl, rfl, by decide +kernel, rfl, by decide +kernel, by decide +kernel⟩
theorem ok_from {f : Addr} {fd : FuncData} (F : Fun K "_law_is_from" "_law_is_from" sFrom f fd) (T : Blt mg) : FnOk P w K mg base CX0 1 f fd nFrom (spFrom K) := by
  refine F.ok scFrom (fun vs H Q E h => ?_) (fun cdv A outer s H vs Q E hr h => ?_)
  · obtain ⟨c, ra, ta, da, wa, t1, t2, d1, d2, C, x, y, d, o, rfl, _⟩ := h
    rfl
  · obtain ⟨c, ra, ta, da, wa, t1, t2, d1, d2, C, x, y, d, o, rfl, hc, hx, hy, hs, z⟩ := h
    have hu := hu_of hr
    refine ⟨_, pss_cons (ps_if (pt_cmpR op_eq (pe_ix ix_tup (pv 2) pe_int (fun _ _ => rfl)) pe_str (nomark _)) (pss_one (ps_ret (pe_callB call_isi (by rfl) T.isin (by decide +kernel) (pa_cons (pv 1) (pa_cons (pe_bltn (v := .ty "tuple") (u := .type "tuple") (by rfl) (T.all "tuple" (by decide)) (by decide +kernel) rfl) pa_nil))))) pss_nil)
      (pss_cons (ps_if (pt_cmpR op_eq (pe_ix ix_tup (pv 2) pe_int (fun _ _ => rfl)) pe_str (nomark _)) (pss_one (ps_ret (pe_cmpR op_eq (pv 1) (pe_ix ix_list (pe_dget hu (pv 0) pe_str (fun _ _ => rfl)) (pe_op op_sub (pe_ix ix_tup (pv 2) pe_int (fun _ _ => rfl)) pe_int) (fun _ _ => rfl)) (nomark _)))) pss_nil)
      (pss_cons (ps_if (pt_cmpR op_eq (pe_ix ix_tup (pv 2) pe_int (fun _ _ => rfl)) pe_str (nomark _)) (pss_one (ps_ret (pe_and (pe_cmpR op_eq (pv 1) (pe_ix ix_list (pe_ix ix_list (pe_dget hu (pv 0) pe_str (fun _ _ => rfl)) pe_int (fun _ _ => rfl)) (pe_op op_sub (pe_ix ix_tup (pv 2) pe_int (fun _ _ => rfl)) pe_int) (fun _ _ => rfl)) (nomark _))
          (pe_one (pe_cmpR op_eq (pv 1) (pe_ix ix_list (pe_ix ix_list (pe_dget hu (pv 0) pe_str (fun _ _ => rfl)) pe_int (fun _ _ => rfl)) (pe_op op_sub (pe_ix ix_tup (pv 2) pe_int (fun _ _ => rfl)) pe_int) (fun _ _ => rfl)) (nomark _)))))) pss_nil)
      (pss_one (ps_ret (pe_cmpR op_eq (pv 1) (pe_ix ix_list (pe_ix ix_list (pe_dget hu (pv 0) pe_str (fun _ _ => rfl)) (pe_op op_sub (pe_ix ix_tup (pv 2) pe_int (fun _ _ => rfl)) pe_int) (fun _ _ => rfl)) (pe_op op_sub (pe_ix ix_tup (pv 2) pe_int (fun _ _ => rfl)) pe_int) (fun _ _ => rfl)) (nomark _)))))), ?_⟩
    have zz := z H (fun _ _ e => e)
    have str_ne : ∀ {a b : Str}, a ≠ b → decide (V.str a = V.str b) = false := fun n => decide_eq_false fun e => n (by injection e)
    have at_ : ∀ {ss : List Str} {i : Nat} {s : Str}, ss[i]? = some s → atI (ss.map V.str) (((i + 1 : Nat) : Int) - 1) = some (.str s) := fun {ss i s} e => by
      rw [show ((i + 1 : Nat) : Int) - 1 = (i : Int) by omega]
      exact atI_nat (j := i) (by rw [List.getElem?_map, e]; rfl)
    rcases hs with ⟨ht, n, rfl, _⟩ | ⟨i, s', e0, rfl, rfl⟩ | ⟨i, j, s', e1, e2, rfl, rfl⟩ | ⟨i, s', e1, rfl, rfl⟩ | ⟨i, s', e1, rfl, rfl⟩
    · obtain ⟨r, zs, rfl, hr0, hzs⟩ := tup_of hy
      cases hzs with
      | @cons y0 _ _ _ k0 hzs => cases hzs with
        | @cons y1 _ _ _ k1 hzs =>
          cases hzs
          cases k0
          refine ⟨_, rfl, r, _, _, _, rfl, rfl, hr0, atI_nat (j := 0) rfl, rfl, _, rfl, ?_⟩
          rw [decide_eq_true rfl]
          refine iteT ⟨_, rfl, x, _, _, _, _, rfl, .ty "tuple", hx.ty, kit_ty (kit_tuple d), ?_⟩
          cases d with
          | tuple _ => exact zz
          | _ => cases ht
    · obtain ⟨r, zs, rfl, hr0, hzs⟩ := tup_of hy
      cases hx
      cases hzs with
      | @cons y0 _ _ _ k0 hzs => cases hzs with
        | @cons y1 _ _ _ k1 hzs =>
          cases hzs
          cases k0
          cases k1
          refine ⟨_, rfl, r, _, _, _, rfl, rfl, hr0, atI_nat (j := 0) rfl, rfl, _, rfl, ?_⟩
          rw [str_ne (by decide +kernel)]
          refine iteF ⟨_, rfl, r, _, _, _, rfl, rfl, hr0, atI_nat (j := 0) rfl, rfl, _, rfl, ?_⟩
          rw [decide_eq_true rfl]
          refine iteT ⟨_, rfl, _, rfl, c, _, rfl, hc.g1, _, rfl, r, _, _, _, rfl, rfl, hr0, atI_nat (j := 1) rfl, _, _, rfl, rfl, ra, _, _, V.str s', rfl, rfl, SqL.of hc.r, at_ e0, rfl, ?_⟩
          rw [decide_eq_true rfl]
          exact zz
    · obtain ⟨r, zs, rfl, hr0, hzs⟩ := tup_of hy
      cases hx
      cases hzs with
      | @cons y0 _ _ _ k0 hzs => cases hzs with
        | @cons y1 _ _ _ k1 hzs => cases hzs with
          | @cons y2 _ _ _ k2 hzs =>
            cases hzs
            cases k0
            cases k1
            cases k2
            refine ⟨_, rfl, r, _, _, _, rfl, rfl, hr0, atI_nat (j := 0) rfl, rfl, _, rfl, ?_⟩
            rw [str_ne (by decide +kernel)]
            refine iteF ⟨_, rfl, r, _, _, _, rfl, rfl, hr0, atI_nat (j := 0) rfl, rfl, _, rfl, ?_⟩
            rw [str_ne (by decide +kernel)]
            refine iteF ⟨_, rfl, r, _, _, _, rfl, rfl, hr0, atI_nat (j := 0) rfl, rfl, _, rfl, ?_⟩
            rw [decide_eq_true rfl]
            refine iteT ⟨_, rfl, _, rfl, c, _, rfl, hc.g2, ta, _, _, _, rfl, rfl, SqL.of hc.t, atI_nat (j := 0) rfl, _, rfl, r, _, _, _, rfl, rfl, hr0, atI_nat (j := 1) rfl, _, _, rfl, rfl, t1, _, _, V.str s', rfl, rfl, SqL.of hc.x, at_ e1, rfl, _, rfl, ?_⟩
            rw [decide_eq_true rfl]
            refine iteT ⟨_, rfl, _, rfl, c, _, rfl, hc.g2, ta, _, _, _, rfl, rfl, SqL.of hc.t, atI_nat (j := 1) rfl, _, rfl, r, _, _, _, rfl, rfl, hr0, atI_nat (j := 2) rfl, _, _, rfl, rfl, t2, _, _, V.str s', rfl, rfl, SqL.of hc.y, at_ e2, rfl, ?_⟩
            rw [decide_eq_true rfl]
            exact zz
    · obtain ⟨r, zs, rfl, hr0, hzs⟩ := tup_of hy
      cases hx
      cases hzs with
      | @cons y0 _ _ _ k0 hzs => cases hzs with
        | @cons y1 _ _ _ k1 hzs =>
          cases hzs
          cases k0
          cases k1
          have nint : ∀ {i : Int} {b : Str}, decide (V.int i = V.str b) = false := fun {i b} => decide_eq_false fun e => nomatch e
          refine ⟨_, rfl, r, _, _, _, rfl, rfl, hr0, atI_nat (j := 0) rfl, rfl, _, rfl, ?_⟩
          rw [nint]
          refine iteF ⟨_, rfl, r, _, _, _, rfl, rfl, hr0, atI_nat (j := 0) rfl, rfl, _, rfl, ?_⟩
          rw [nint]
          refine iteF ⟨_, rfl, r, _, _, _, rfl, rfl, hr0, atI_nat (j := 0) rfl, rfl, _, rfl, ?_⟩
          rw [nint]
          refine iteF ⟨_, rfl, _, rfl, c, _, rfl, hc.g2, _, rfl, r, _, _, _, rfl, rfl, hr0, atI_nat (j := 0) rfl, _, _, rfl, rfl, ta, _, _, _, rfl, rfl, SqL.of hc.t, atI_nat (j := 0) rfl, _, rfl, r, _, _, _, rfl, rfl, hr0, atI_nat (j := 1) rfl, _, _, rfl, rfl, t1, _, _, V.str s', rfl, rfl, SqL.of hc.x, at_ e1, rfl, ?_⟩
          rw [decide_eq_true rfl]
          exact zz
    · obtain ⟨r, zs, rfl, hr0, hzs⟩ := tup_of hy
      cases hx
      cases hzs with
      | @cons y0 _ _ _ k0 hzs => cases hzs with
        | @cons y1 _ _ _ k1 hzs =>
          cases hzs
          cases k0
          cases k1
          have nint : ∀ {i : Int} {b : Str}, decide (V.int i = V.str b) = false := fun {i b} => decide_eq_false fun e => nomatch e
          refine ⟨_, rfl, r, _, _, _, rfl, rfl, hr0, atI_nat (j := 0) rfl, rfl, _, rfl, ?_⟩
          rw [nint]
          refine iteF ⟨_, rfl, r, _, _, _, rfl, rfl, hr0, atI_nat (j := 0) rfl, rfl, _, rfl, ?_⟩
          rw [nint]
          refine iteF ⟨_, rfl, r, _, _, _, rfl, rfl, hr0, atI_nat (j := 0) rfl, rfl, _, rfl, ?_⟩
          rw [nint]
          refine iteF ⟨_, rfl, _, rfl, c, _, rfl, hc.g2, _, rfl, r, _, _, _, rfl, rfl, hr0, atI_nat (j := 0) rfl, _, _, rfl, rfl, ta, _, _, _, rfl, rfl, SqL.of hc.t, atI_nat (j := 1) rfl, _, rfl, r, _, _, _, rfl, rfl, hr0, atI_nat (j := 1) rfl, _, _, rfl, rfl, t2, _, _, V.str s', rfl, rfl, SqL.of hc.y, at_ e1, rfl, ?_⟩
          rw [decide_eq_true rfl]
          exact zz
end
end K62
namespace XR
open PySem L2 KT
/-! ### tokens place by place -/
abbrev StandAt (ks : List (List Blk × List Blk)) (p : Nat) : Prop := (∀ k ∈ ks, ¬ (firstK k ≤ (p : Int) ∧ (p : Int) ≤ lastK k)) ∧ p / 2 * 2 < p
def tokAt (s0 s1 s2 : List Str) (ps qs : List (Nat × Nat)) (ks : List (List Blk × List Blk)) (p : Nat) : List TokP :=
  (match ks.find? fun k => decide (firstK k = (p : Int)) with | some k => tokK s1 s2 ps qs k | none => []) ++ (if StandAt ks p then [baseTok s0 (p / 2)] else [])
theorem rowP_places {s0 s1 s2 : List Str} {ps qs : List (Nat × Nat)} (h : KnSeq (knR s0 s1 s2 ps qs) s0.length) : rowP s0 s1 s2 ps qs = (List.range (2 * s0.length + 1)).flatMap (tokAt s0 s1 s2 ps qs (knR s0 s1 s2 ps qs)) := by
  unfold rowP
  have pp := parts_places (2 * s0.length + 1) (partsL s0 s1 s2 ps qs) ?_ ?_
  · rw [show lePart = fun x y => decide (x.1 ≤ y.1) from rfl, pp, List.flatMap_assoc]
    unfold List.flatMap
    congr 1
    refine List.map_congr_left fun p hp => ?_
    have hp := List.mem_range.mp hp
    unfold partsL
    show List.flatMap _ _ = _
    rw [List.filter_append, stand_at s0 s1 s2 ps qs hp, List.filter_map]
    have ef : (knR s0 s1 s2 ps qs).filter ((fun x : Part => decide (x.1 = (p : Int))) ∘ fun k => ((firstK k, tokK s1 s2 ps qs k) : Part)) = ((knR s0 s1 s2 ps qs).find? fun k => decide (firstK k = (p : Int))).toList := filter_find (fun k => decide (firstK k = (p : Int))) (kn_alone h p)
    rw [ef]
    unfold tokAt
    cases e : (knR s0 s1 s2 ps qs).find? fun k => decide (firstK k = (p : Int)) with
    | none =>
      dsimp only
      by_cases c : StandAt (knR s0 s1 s2 ps qs) p
      · rw [if_pos c, if_pos c]
        simp
      · rw [if_neg c, if_neg c]
        simp
    | some k =>
      have hk := List.mem_of_find?_eq_some e
      have hf : firstK k = (p : Int) := of_decide_eq_true (List.find?_some (p := fun k => decide (firstK k = (p : Int))) e)
      have no : ¬ StandAt (knR s0 s1 s2 ps qs) p := fun q => q.1 k hk ⟨by omega, by have := h.le k hk; omega⟩
      rw [if_neg no, if_neg no]
      simp
  · unfold partsL
    rw [List.map_append, List.nodup_append]
    refine ⟨?_, ?_, fun a ha b hb e => ?_⟩
    · unfold standP List.Nodup
      rw [List.map_map, List.pairwise_map]
      refine (List.Pairwise.sublist List.filter_sublist List.pairwise_lt_range).imp fun {a b} q e => ?_
      have e : 2 * ((a + 1 : Nat) : Int) - 1 = 2 * ((b + 1 : Nat) : Int) - 1 := e
      omega
    · rw [List.map_map]
      unfold List.Nodup
      rw [List.pairwise_map]
      refine h.be.imp_of_mem fun {a b} ha hb c e => ?_
      have e : firstK a = firstK b := e
      have := h.le a ha
      omega
    · rw [List.map_map] at hb
      obtain ⟨k, hk, rfl⟩ := List.mem_map.mp hb
      have e : a = firstK k := e
      unfold standP at ha
      rw [List.map_map] at ha
      obtain ⟨i, hi, q⟩ := List.mem_map.mp ha
      have q : 2 * ((i + 1 : Nat) : Int) - 1 = a := q
      have st := fate_stands.mp (of_decide_eq_true (List.mem_filter.mp hi).2)
      have := h.le k hk
      exact st k hk ⟨by omega, by omega⟩
  · intro x hx
    unfold partsL at hx
    rcases List.mem_append.mp hx with hx | hx
    · unfold standP at hx
      obtain ⟨i, hi, rfl⟩ := List.mem_map.mp hx
      have := List.mem_range.mp (List.mem_filter.mp hi).1
      dsimp only
      omega
    · obtain ⟨k, hk, rfl⟩ := List.mem_map.mp hx
      have := h.lo k hk
      have := h.le k hk
      have := h.hi k hk
      dsimp only
      omega
/-! ### the words of places, by a dict -/
def heldK (k : List Blk × List Blk) (p : Int) : Bool := (k.1 ++ k.2).any (covB p)
def wordAt (s1 s2 : List Str) (ks : List (List Blk × List Blk)) (p : Int) : Option V := ks.foldl (fun o k => if heldK k p = true then some (.str (kindL k s1 s2)) else o) none
theorem wordAt_snoc (s1 s2 : List Str) (ks : List (List Blk × List Blk)) (k : List Blk × List Blk) (p : Int) : wordAt s1 s2 (ks ++ [k]) p = if heldK k p = true then some (.str (kindL k s1 s2)) else wordAt s1 s2 ks p := by
  unfold wordAt
  rw [List.foldl_append]
  rfl
theorem held_hit {ks : List (List Blk × List Blk)} {m : Nat} (h : KnSeq ks m) {k : List Blk × List Blk} (hk : k ∈ ks) (p : Int) : heldK k p = true ↔ firstK k ≤ p ∧ p ≤ lastK k := by
  unfold heldK
  rw [List.any_eq_true]
  constructor
  · rintro ⟨b, hb, q⟩
    have q := of_decide_eq_true q
    have := h.inn k hk b hb
    exact ⟨by omega, by omega⟩
  · rintro ⟨q1, q2⟩
    exact h.co k hk p q1 q2
/-- what the law makes of a place's word -/
def fateO : Option V → Str
  | some (.str w) => if w = "clash" then "clash" else "gone"
  | _ => "stands"
theorem word_fate {ks : List (List Blk × List Blk)} {m : Nat} (h : KnSeq ks m) (s1 s2 : List Str) (i : Nat) : fateO (wordAt s1 s2 ks ((2 * i + 1 : Nat) : Int)) = fateF s1 s2 ks i ∧ ((∃ w, wordAt s1 s2 ks ((2 * i + 1 : Nat) : Int) = some (.str w) ∧ ∃ k ∈ ks, w = kindL k s1 s2) ∨ wordAt s1 s2 ks ((2 * i + 1 : Nat) : Int) = none) := by
  have key : ∀ (L : List (List Blk × List Blk)), (∀ k ∈ L, k ∈ ks) → ∀ (o : Option V) (f : Str), fateO o = f → ((∃ w, o = some (.str w) ∧ ∃ k ∈ ks, w = kindL k s1 s2) ∨ o = none) →
      fateO (L.foldl (fun o k => if heldK k ((2 * i + 1 : Nat) : Int) = true then some (.str (kindL k s1 s2)) else o) o) = L.foldl (fun f k => if hitK k i = true then wordF s1 s2 k else f) f ∧
      ((∃ w, L.foldl (fun o k => if heldK k ((2 * i + 1 : Nat) : Int) = true then some (.str (kindL k s1 s2)) else o) o = some (.str w) ∧ ∃ k ∈ ks, w = kindL k s1 s2) ∨ L.foldl (fun o k => if heldK k ((2 * i + 1 : Nat) : Int) = true then some (.str (kindL k s1 s2)) else o) o = none) := by
    intro L
    induction L with
    | nil => intro _ o f e q; exact ⟨e, q⟩
    | cons k L ih =>
      intro hL o f e q
      rw [List.foldl_cons, List.foldl_cons]
      have hk := hL k (List.mem_cons_self ..)
      have hh : heldK k ((2 * i + 1 : Nat) : Int) = hitK k i := by
        rw [Bool.eq_iff_iff, held_hit h hk]
        unfold hitK
        rw [decide_eq_true_iff]
        constructor <;> intro ⟨a, b⟩ <;> exact ⟨by omega, by omega⟩
      rw [hh]
      refine ih (fun x hx => hL x (List.mem_cons_of_mem _ hx)) _ _ ?_ ?_
      · by_cases c : hitK k i = true
        · rw [if_pos c, if_pos c]
          rfl
        · rw [if_neg c, if_neg c]
          exact e
      · by_cases c : hitK k i = true
        · rw [if_pos c]
          exact .inl ⟨_, rfl, k, hk, rfl⟩
        · rw [if_neg c]
          exact q
  exact key ks (fun _ h => h) none "stands" rfl (.inr rfl)
theorem kind_ne {k : List Blk × List Blk} {s1 s2 : List Str} : kindL k s1 s2 ≠ "stands" := by
  rcases kind_shape k s1 s2 with e | ⟨e, _⟩ | ⟨e, _⟩ | ⟨e, _⟩ | e <;> rw [e] <;> decide +kernel
theorem valV_mergeV {v : V} (j : Key) : ∀ (more kvs : List (Key × V)), (∀ kv ∈ more, kv.2 = v) → valV (mergeK kvs more) j = if (valV more j).isSome = true then some v else valV kvs j
  | [], kvs, _ => rfl
  | p :: more, kvs, h => by
    have ih := valV_mergeV j more (putK kvs p.1 p.2) fun x hx => h x (List.mem_cons_of_mem _ hx)
    have e : mergeK kvs (p :: more) = mergeK (putK kvs p.1 p.2) more := rfl
    rw [e, ih, L2.valV_put, h p (List.mem_cons_self ..)]
    by_cases c : p.1 = j
    · rw [L2.valV_pos c, if_pos c.symm]
      by_cases d : (valV more j).isSome = true
      · rw [if_pos d]; rfl
      · rw [if_neg d]; rfl
    · rw [L2.valV_neg c, if_neg (show ¬ j = p.1 from fun q => c q.symm)]
theorem put_all {v : V} {kvs : List (Key × V)} {k : Key} (h : ∀ kv ∈ kvs, kv.2 = v) : ∀ kv ∈ putK kvs k v, kv.2 = v := by
  intro kv hkv
  unfold putK at hkv
  split at hkv
  · obtain ⟨x, hx, rfl⟩ := List.mem_map.mp hkv
    split
    · rfl
    · exact h x hx
  · rcases List.mem_append.mp hkv with q | q
    · exact h kv q
    · rw [List.mem_singleton.mp q]
theorem merge_all {v : V} : ∀ {more kvs : List (Key × V)}, (∀ kv ∈ kvs, kv.2 = v) → (∀ kv ∈ more, kv.2 = v) → ∀ kv ∈ mergeK kvs more, kv.2 = v
  | [], kvs, h, _ => h
  | p :: more, kvs, h, g => by
    have e : mergeK kvs (p :: more) = mergeK (putK kvs p.1 p.2) more := rfl
    rw [e]
    refine merge_all ?_ fun x hx => g x (List.mem_cons_of_mem _ hx)
    rw [g p (List.mem_cons_self ..)]
    exact put_all h
def mkW (v : V) (i : Int) : Key × V := (Sum.inl i, v)
theorem valV_mkW (v : V) (rs : List Int) (p : Int) : (valV (rs.map (mkW v)) (Sum.inl p)).isSome = decide (p ∈ rs) := by
  induction rs with
  | nil => rfl
  | cons r rs ih =>
    rw [List.map_cons]
    by_cases c : r = p
    · subst c
      rw [L2.valV_pos (show (mkW v r).1 = Sum.inl r from rfl)]
      simp
    · rw [L2.valV_neg (show ¬ (mkW v r).1 = Sum.inl p from fun e => c (Sum.inl.inj e)), ih, decide_eq_decide, List.mem_cons]
      exact ⟨.inr, fun h => h.resolve_left fun e => c e.symm⟩
/-- a dict after dict(pairs) is put into it -/
theorem valV_upd (v : V) (rs : List Int) (kvs : List (Key × V)) (p : Int) : valV (mergeK kvs (mergeK [] (rs.map (mkW v)))) (Sum.inl p) = if p ∈ rs then some v else valV kvs (Sum.inl p) := by
  have hv : ∀ kv ∈ rs.map (mkW v), kv.2 = v := fun kv h => by
    obtain ⟨i, _, rfl⟩ := List.mem_map.mp h
    rfl
  rw [valV_mergeV (v := v) _ _ _ (merge_all (fun kv h => by cases h) hv), valV_mergeV (v := v) _ _ _ hv, valV_mkW]
  by_cases c : p ∈ rs
  · rw [decide_eq_true c, if_pos c]
    rfl
  · rw [decide_eq_false c, if_neg c]
    rfl
/-! ### clashes counted -/
def isCl : PyData → Bool
  | .tuple (.str w :: _) => decide (w = "clash")
  | _ => false
theorem isCl_str (w : Str) (r : List PyData) : isCl (.tuple (.str w :: r)) = decide (w = "clash") := rfl
theorem count_cl : ∀ (ts : List TokP) (n : Nat), (∀ t ∈ ts, isT t.1 = true ∨ isCl t.2 = false) → ((orgD n ts).filter isCl).length = nCl ts
  | [], _, _ => rfl
  | t :: ts, n, h => by
    have ih := count_cl ts (if isT t.1 = true then n + 1 else n) fun x hx => h x (List.mem_cons_of_mem _ hx)
    have e : orgD n (t :: ts) = (if isT t.1 = true then .tuple [.str "clash", .int (n : Int)] else t.2) :: orgD (if isT t.1 = true then n + 1 else n) ts := rfl
    unfold nCl at ih ⊢
    rw [e]
    by_cases c : isT t.1 = true
    · rw [if_pos c, List.filter_cons_of_pos (by rw [isCl_str]; decide +kernel), List.filter_cons_of_pos (p := fun t : TokP => isT t.1) c, List.length_cons, List.length_cons, ih]
    · rw [if_neg c, List.filter_cons_of_neg (by rw [(h t (List.mem_cons_self ..)).resolve_left c]; decide), List.filter_cons_of_neg (p := fun t : TokP => isT t.1) c, ← ih, if_neg c]
theorem src_ncl {s0 s1 s2 : List Str} {d o : PyData} (h : SrcOf s0 s1 s2 d o) (n : ¬ isT d = true) : isCl o = false := by
  rcases h with ⟨e, _⟩ | ⟨i, s, _, _, rfl⟩ | ⟨i, j, s, _, _, _, rfl⟩ | ⟨i, s, _, _, rfl⟩ | ⟨i, s, _, _, rfl⟩
  · exact absurd e n
  · rw [isCl_str]; decide +kernel
  · rw [isCl_str]; decide +kernel
  · rfl
  · rfl
end XR
namespace XR
open PySem L2 KT
theorem tokAt_len {s0 s1 s2 : List Str} {ps qs : List (Nat × Nat)} {ks : List (List Blk × List Blk)} (kf : ∀ k ∈ ks, KnFact s0 s1 s2 k) (l1 : s1.length ≤ 60) (l2 : s2.length ≤ 60) : ∀ i : Nat, ((List.range i).flatMap (tokAt s0 s1 s2 ps qs ks)).length ≤ 6001 * i
  | 0 => Nat.zero_le _
  | i + 1 => by
    have ih := tokAt_len (ps := ps) (qs := qs) kf l1 l2 i
    have h : (tokAt s0 s1 s2 ps qs ks i).length ≤ 6001 := by
      unfold tokAt
      rw [List.length_append]
      refine Nat.le_trans (Nat.add_le_add (b := 6000) (d := 1) ?_ ?_) (Nat.le_refl 6001)
      · split
        · rename_i k e
          exact tokK_len (kf k (List.mem_of_find?_eq_some e)) l1 l2
        · exact Nat.zero_le _
      · split
        · exact Nat.le_refl _
        · exact Nat.zero_le _
    rw [List.range_succ, List.flatMap_append, List.length_append]
    simp only [List.flatMap_cons, List.flatMap_nil, List.append_nil]
    omega
theorem tokAt_src {s0 s1 s2 : List Str} {ps qs : List (Nat × Nat)} {ks : List (List Blk × List Blk)} (kf : ∀ k ∈ ks, KnFact s0 s1 s2 k) : ∀ (i : Nat), i ≤ 2 * s0.length + 1 → ∀ t ∈ (List.range i).flatMap (tokAt s0 s1 s2 ps qs ks), isT t.1 = true ∨ SrcOf s0 s1 s2 t.1 t.2 := by
  intro i hi t ht
  obtain ⟨p, hp, ht⟩ := List.mem_flatMap.mp ht
  have hp := List.mem_range.mp hp
  unfold tokAt at ht
  rcases List.mem_append.mp ht with h | h
  · split at h
    · rename_i k e
      exact tok_src (kf k (List.mem_of_find?_eq_some e)) t h
    · cases h
  · split at h
    · rename_i c
      rw [List.mem_singleton.mp h]
      have := c.2
      exact .inr (.inr (.inl ⟨p / 2, _, getD_some (by omega), rfl, rfl⟩))
    · cases h
/-- the first item of an origin -/
theorem head_of {K : PySem.W.Frag} {H : Hp} {s0 s1 s2 : List Str} {y : V} {d o : PyData} (hy : Dq K H y o) (h : SrcOf s0 s1 s2 d o) : ∃ (r : Addr) (z0 : V) (zs : List V), y = .ref r ∧ SqT K H r (z0 :: zs) ∧ ((∃ w, z0 = .str w ∧ isCl o = decide (w = "clash")) ∨ ∃ i, z0 = .int i ∧ isCl o = false) := by
  have one : ∀ {d1 : PyData} {ds : List PyData}, o = .tuple (d1 :: ds) → ∃ (r : Addr) (z0 : V) (zs : List V), y = .ref r ∧ SqT K H r (z0 :: zs) ∧ Dq K H z0 d1 := fun {d1 ds} e => by
    subst e
    obtain ⟨r, zs, rfl, hr, hzs⟩ := tup_of hy
    cases hzs with
    | cons h1 h2 => exact ⟨r, _, _, rfl, hr, h1⟩
  rcases h with ⟨_, n, rfl, _⟩ | ⟨i, s, _, _, rfl⟩ | ⟨i, j, s, _, _, _, rfl⟩ | ⟨i, s, _, _, rfl⟩ | ⟨i, s, _, _, rfl⟩
  · obtain ⟨r, z0, zs, e, hr, hz⟩ := one rfl
    cases hz
    exact ⟨r, _, zs, e, hr, .inl ⟨_, rfl, rfl⟩⟩
  · obtain ⟨r, z0, zs, e, hr, hz⟩ := one rfl
    cases hz
    exact ⟨r, _, zs, e, hr, .inl ⟨_, rfl, rfl⟩⟩
  · obtain ⟨r, z0, zs, e, hr, hz⟩ := one rfl
    cases hz
    exact ⟨r, _, zs, e, hr, .inl ⟨_, rfl, rfl⟩⟩
  · obtain ⟨r, z0, zs, e, hr, hz⟩ := one rfl
    cases hz
    exact ⟨r, _, zs, e, hr, .inr ⟨_, rfl, rfl⟩⟩
  · obtain ⟨r, z0, zs, e, hr, hz⟩ := one rfl
    cases hz
    exact ⟨r, _, zs, e, hr, .inr ⟨_, rfl, rfl⟩⟩
def spWalk (K : PySem.W.Frag) : Sp := fun vs H Q _ => ∃ (c ra ta da wa t1 t2 d1 d2 : Addr) (C : CaseD), vs = [.ref c] ∧ CaseAt' H c ra ta da wa t1 t2 d1 d2 C ∧ CaseOk C ∧ CaseWd C ∧
  ∀ (t lf lg : Addr) xs H', Same H H' → H' t = some (.tup [.ref lf, .ref lg]) → H' lf = some (.lst xs) → DqAll K (noL H') xs (orgD 0 (rowP C.s0 C.s1 C.s2 C.ps C.qs)) → H' lg = some (.lst (tabV C.s0.length (fateF C.s1 C.s2 (knR C.s0 C.s1 C.s2 C.ps C.qs)))) → Q (.ref t) H'
end XR
namespace K62
open PySem L2 XR KT
section
variable {P : Program} {w : World} {K : PySem.W.Frag} {mg : Str → Option Value} {base : Heap}
abbrev sWalk : Stmt := top 55
abbrev nWalk : List Str := ["_law_case_here", "_law_starts", "_law_sorts", "_law_knot", "_law_spans", "_law_span", "_law_found", "_law_fates", "_law_place", "_law_ahead", "_law_word", "_law_part", "_law_one"]
theorem scWalk : FnScope nWalk ["_law_case_here"] (defScope sWalk) := ⟨rfl, rfl, rfl, by decide +kernel, rfl, by decide +kernel, by decide +kernel⟩
theorem ok_walk {f fG fC fS fP : Addr} {fd fdG fdC fdS fdP : FuncData} (F : Fun K "_law_walk" "_law_walk" sWalk f fd) (T : Blt mg)
    (FG : Fun K "_law_groups" "_law_groups" sGroups fG fdG) (GG : FnOk P w K mg base CX0 5 fG fdG ["_law_case_here"] spGroups) (bG : Binds K fdG ["_law_case_here"] []) (mG : mg "_law_groups" = some (.ref fG))
    (FC : Fun K "_law_cover" "_law_cover" sLCover fC fdC) (GC : FnOk P w K mg base CX0 1 fC fdC ["_law_part"] (spCover K)) (bC : Binds K fdC ["_law_part"] []) (mC : mg "_law_cover" = some (.ref fC))
    (FS : Fun K "_law_sort_of" "_law_sort_of" sSort fS fdS) (GS : FnOk P w K mg base CX0 2 fS fdS ["_law_knot", "_law_case_here"] (spSort K)) (bS : Binds K fdS ["_law_knot", "_law_case_here"] []) (mS : mg "_law_sort_of" = some (.ref fS))
    (FP : Fun K "_law_sources" "_law_sources" sSrc fP fdP) (GP : FnOk P w K mg base CX0 3 fP fdP ["_law_case_here", "_law_knot", "_law_ahead"] (spSrc K)) (bP : Binds K fdP ["_law_case_here", "_law_knot", "_law_ahead"] []) (mP : mg "_law_sources" = some (.ref fP)) : FnOk P w K mg base CX0 6 f fd ["_law_case_here"] (spWalk K) := by
  refine F.ok scWalk (fun vs H Q E h => ?_) (fun cdv A outer s H vs Q E hr h => ?_)
  · obtain ⟨c, ra, ta, da, wa, t1, t2, d1, d2, C, rfl, _⟩ := h
    rfl
  · obtain ⟨c, ra, ta, da, wa, t1, t2, d1, d2, C, rfl, hc, ok, wd, z⟩ := h
    have hu := hu_of hr
    have hr1 := hr.mono (show 1 ≤ 5 by decide)
    have hr2 := hr.mono (show 2 ≤ 5 by decide)
    have hr3 := hr.mono (show 3 ≤ 5 by decide)
    refine ⟨_, pss_cons (ps_par (i := 1) (j := 2) rfl scWalk.nd rfl rfl (by decide) rfl rfl (pa_cons pe_dnewK (pa_cons pe_dnewK pa_nil)) rfl)
      (pss_cons (ps_for PassesOwn.never rfl (pi_list (pe_call GG hr rfl mG FG.kp bG .nil pass0 (pa_cons (pv 0) pa_nil))) (pg_name (i := 3) scWalk.nd rfl (.inr rfl))
        (pss_cons (ps_setLc (i := 4) (own := [("_law_part", 11)]) (g := gName 11) (tt := tYes) (te := tCall (spCover K) [] E0 (tCons (tVar 11) tNil)) rfl scWalk.nd rfl rfl (sw_true rfl rfl rfl (by decide +kernel)) (pi_tup (pe_op op_catA (pe_ix ix_tup (pv 3) pe_int (fun _ _ => rfl)) (pe_ix ix_tup (pv 3) pe_int (fun _ _ => rfl))))
            (blkOk_by (own := [("_law_part", 11)]) (N := nWalk) (sc := defScope sWalk) (by decide +kernel)) (fun _ _ _ _ _ => pg_name (i := 11) scWalk.nd rfl (.inl rfl)) (fun _ _ _ _ _ => pts_nil) (fun _ _ _ _ _ => pe_call GC hr1 rfl mC FC.kp bC .nil pass0 (pa_cons (pv 11) pa_nil)))
        (pss_cons (ps_asg (pv 3) (pg_sub (pv 1) (pe_callB (cr_min rfl) (by rfl) T.min (by decide +kernel) (pa_cons (pe_lc (own := [("_law_span", 5)]) (g := gName 5) (tt := tYes) (te := tOp (rIxT K) (tVar 5) (tC (.int 0))) rfl scWalk.nd (pi_list (pv 4))
            (blkOk_by (own := [("_law_span", 5)]) (N := nWalk) (sc := defScope sWalk) (by decide +kernel)) (fun _ _ _ _ _ => pg_name (i := 5) scWalk.nd rfl (.inl rfl)) (fun _ _ _ _ _ => pts_nil) (fun _ _ _ _ _ => pe_ix ix_tup (pv 5) pe_int (fun _ _ => rfl))) pa_nil)) (set_dict hu)))
        (pss_one (ps_for PassesOwn.never rfl (pi_list (pv 4)) (pg_name (i := 5) scWalk.nd rfl (.inl rfl))
          (pss_one (ps_expr (pe_dupd (pv 2) (pe_callTy (call_dictP rfl) (by rfl) (T.all "dict" (by decide)) (by decide +kernel) (pa_cons (pe_lc (own := [("_law_place", 8)]) (g := gName 8) (tt := tYes) (te := tTup (tCons (tVar 8) (tCons (tCall (spSort K) [] E0 (tCons (tVar 3) (tCons (tVar 0) tNil))) tNil))) rfl scWalk.nd
              (pi_range2 rfl T.range (pa_cons (pe_ix ix_tup (pv 5) pe_int (fun _ _ => rfl)) (pa_cons (pe_op op_add (pe_ix ix_tup (pv 5) pe_int (fun _ _ => rfl)) pe_int) pa_nil)))
              (blkOk_by (own := [("_law_place", 8)]) (N := nWalk) (sc := defScope sWalk) (by decide +kernel)) (fun _ _ _ _ _ => pg_name (i := 8) scWalk.nd rfl (.inl rfl)) (fun _ _ _ _ _ => pts_nil)
              (fun _ _ _ _ _ => pe_tup (pa_cons (pv 8) (pa_cons (pe_call GS hr2 rfl mS FS.kp bS .nil pass0 (pa_cons (pv 3) (pa_cons (pv 0) pa_nil))) pa_nil)))) pa_nil)) ⟨rfl, rfl, rfl, rfl⟩))))))))
      (pss_cons (ps_par (i := 6) (j := 7) rfl scWalk.nd rfl rfl (by decide) rfl rfl (pa_cons (pe_lst pa_nil) (pa_cons (pe_lst pa_nil) pa_nil)) rfl)
      (pss_cons (ps_for PassesOwn.never rfl (pi_range1 rfl T.range (pa_cons (pe_op op_add (pe_op op_mul pe_int (pe_callB call_len_seq (by rfl) T.len PySem.boot_len (pa_cons (pe_dget hu (pv 0) pe_str (fun _ _ => rfl)) pa_nil))) pe_int) pa_nil)) (pg_name (i := 8) scWalk.nd rfl (.inl rfl))
        (pss_cons (ps_if (pt_cmp (pc_din hu (pv 8) (pv 1)))
          (pss_cons (ps_set (i := 9) scWalk.nd rfl (.inl rfl) (pe_callB call_len_seq (by rfl) T.len PySem.boot_len (pa_cons (pe_lc (own := [("_law_one", 12)]) (g := gName 12) (tt := tTest (tOp rEq (tOp (rIxT K) (tVar 12) (tC (.int 0))) (tC (.str "clash")))) (te := tVar 12) rfl scWalk.nd (pi_list (pv 6))
              (blkOk_by (own := [("_law_one", 12)]) (N := nWalk) (sc := defScope sWalk) (by decide +kernel)) (fun _ _ _ _ _ => pg_name (i := 12) scWalk.nd rfl (.inl rfl)) (fun _ _ _ _ _ => pts_one (pt_cmpR op_eq (pe_ix ix_tup (pv 12) pe_int (fun _ _ => rfl)) pe_str (nomark _))) (fun _ _ _ _ _ => pv 12)) pa_nil)))
          (pss_one (ps_expr (pe_bm PySem.F.plainAttrs_list PySem.F.slot_list_extend PySem.F.type_list_extend mt_extend (pv 6) (pa_cons (pe_call GP hr3 rfl mP FP.kp bP .nil pass0 (pa_cons (pv 0) (pa_cons (pe_dget hu (pv 1) (pv 8) (fun _ _ => rfl)) (pa_cons (pv 9) pa_nil)))) pa_nil))))) pss_nil)
        (pss_one (ps_if (pt_cmpR op_lt (pe_op op_mul (pe_op op_fdiv (pv 8) pe_int) pe_int) (pv 8) (nomark _))
          (pss_cons (ps_set (i := 10) scWalk.nd rfl (.inl rfl) (pe_dget2 hu (pv 2) (pv 8) pe_str ⟨rfl, rfl, rfl, rfl⟩))
          (pss_cons (ps_expr (pe_bm PySem.F.plainAttrs_list PySem.F.slot_list_append PySem.F.type_list_append mt_append (pv 7) (pa_cons (pe_ifExp (pt_cmpR op_in_seq (pv 10) (pe_tup (pa_cons pe_str (pa_cons pe_str pa_nil))) (by rfl)) (pv 10) pe_str) pa_nil)))
          (pss_one (ps_if (pt_cmpR op_eq (pv 10) pe_str (nomark _)) (pss_one (ps_expr (pe_bm PySem.F.plainAttrs_list PySem.F.slot_list_append PySem.F.type_list_append mt_append (pv 6) (pa_cons (pe_tup (pa_cons pe_str (pa_cons (pe_op op_add (pe_op op_fdiv (pv 8) pe_int) pe_int) pa_nil))) pa_nil)))) pss_nil)))) pss_nil))))
      (pss_one (ps_ret (pe_tup (pa_cons (pv 6) (pa_cons (pv 7) pa_nil)))))))), ?_⟩
    obtain ⟨kn16, kfact⟩ := ok.kn
    have sq := ok.seq
    have l0 := ok.l0
    have kle : ∀ k ∈ knR C.s0 C.s1 C.s2 C.ps C.qs, ∀ b ∈ k.1 ++ k.2, (coverB b).1 ≤ (coverB b).2 := fun k hk b hb => by
      obtain ⟨i1, i2, _⟩ := knots_in hk
      rcases List.mem_append.mp hb with q | q
      · exact cov_le ((blocks_spread ok.p).good b (i1 b q))
      · exact cov_le ((blocks_spread ok.q).good b (i2 b q))
    intro S nS
    have sS := same_upd (o := .dK []) nS
    have hS0 := upd_same (H := H) (a := S) (o := .dK [])
    generalize upd H S (.dK []) = H1 at sS hS0 ⊢
    intro V0 nV
    have sV := same_upd (o := .dK []) nV
    have hV0' := upd_same (H := H1) (a := V0) (o := .dK [])
    have hS1' := sV _ _ hS0
    have SV : S ≠ V0 := ne_of_none hS0 nV
    have nV1 : H V0 = none := none_before sS nV
    have s02 := sS.trans sV
    generalize upd H1 V0 (.dK []) = H2 at s02 hV0' hS1' ⊢
    refine ⟨_, _, rfl, ?_⟩
    refine ⟨_, rfl, c, ra, ta, da, wa, t1, t2, d1, d2, C, rfl, hc.same s02, ok, fun l ts H3 s3 nl hl3 hts3 => ?_⟩
    have hts3 : LAt (KOut H3) ts (knR C.s0 C.s1 C.s2 C.ps C.qs) := hts3
    have kn16 : (knR C.s0 C.s1 C.s2 C.ps C.qs).length ≤ 16 := kn16
    have kfact : ∀ k ∈ knR C.s0 C.s1 C.s2 C.ps C.qs, KnFact C.s0 C.s1 C.s2 k := kfact
    have erow := rowP_places sq
    rw [erow] at z
    have wf := fun i => word_fate sq C.s1 C.s2 i
    generalize knR C.s0 C.s1 C.s2 C.ps C.qs = ks at hts3 kn16 kfact sq kle z wf
    clear erow
    have hS1 := s3 _ _ hS1'
    have hV0 := s3 _ _ hV0'
    have s03 := s02.trans s3
    have hts := hts3
    have lS : l ≠ S := ne_of hl3 hS1 (by intro z; cases z)
    have lV : l ≠ V0 := ne_of hl3 hV0 (by intro z; cases z)
    have keepT : ∀ {H' : Hp}, But2 S V0 H3 H' → ∀ {b : Addr} {xs : List V}, H3 b = some (.tup xs) → H' b = some (.tup xs) := fun {H'} k {b xs} e => k _ _ e (ne_of e hS1 (by intro z; cases z)) (ne_of e hV0 (by intro z; cases z))
    have toS : ∀ {H' : Hp}, But2 S V0 H3 H' → Same H H' := fun {H'} k b o e => k _ _ (s03 _ _ e) (ne_of_none e nS) (ne_of_none e nV1)
    have lts : ts.length = ks.length := hts.1
    refine ⟨l, rfl, ⟨_, SqL.of hl3⟩, ?_⟩
    refine for_list (K := K) (a := l) (xs := refs ts) (fun i σ H' => But2 S V0 H3 H' ∧ H' S = some (.dK (startsK ((ts.zip ks).take i))) ∧ ∃ kvs y3 y4 y5, σ = [some (V.ref c), some (V.ref S), some (V.ref V0), y3, y4, y5, none, none, none, none, none, none, none] ∧ H' V0 = some (.dK kvs) ∧ (∀ x : Int, valV kvs (Sum.inl x) = wordAt C.s1 C.s2 (ks.take i) x) ∧ kvs.length ≤ 20000 * i)
      ⟨fun _ _ e _ _ => e, hS1, [], _, _, _, rfl, hV0, fun x => rfl, Nat.zero_le _⟩ (fun i σ H' _ hh => SqL.of (hh.1 _ _ hl3 lS lV)) ?_ ?_
    · rintro i x σ Ha hx ⟨ba, hSa, kvs, y3, y4, y5, rfl, hVa, hkv, klen0⟩
      obtain ⟨t, k, rfl, hti, hki, hk3⟩ := hts3.at hx
      have kf := kfact k (List.mem_of_getElem? hki)
      have hka : KOut Ha t k := hk3.mono fun e => keepT ba e
      obtain ⟨r, y0', y1', er, hr1', d0, d1'⟩ := knD_of (hka.dq (K := K))
      cases er
      refine ⟨_, rfl, t, _, _, _, rfl, rfl, hr1', atI_nat (j := 0) rfl, _, rfl, t, _, _, _, rfl, rfl, hr1', atI_nat (j := 1) rfl, ?_⟩
      refine cat_dq d0 d1' (by rw [List.length_map, List.length_map, ← List.length_append]; exact Nat.le_trans kf.len (by decide)) fun tt ys Hb sb ht hys => ?_
      rw [← List.map_append] at hys
      obtain ⟨bs, ebs⟩ : ∃ bs, bs = k.1 ++ k.2 := ⟨_, rfl⟩
      have klen := kf.len
      have kne := kf.ne
      have klo := kf.lo
      have hmin := @firstK_of k
      have kgood : ∀ b ∈ k.1 ++ k.2, (coverB b).1 ≤ (coverB b).2 + 1 ∧ (coverB b).2 + 1 - (coverB b).1 ≤ 100 := fun b hb => by
        have h1 := sq.inn k (List.mem_of_getElem? hki) b hb
        have h2 := sq.lo k (List.mem_of_getElem? hki)
        have h3 := sq.hi k (List.mem_of_getElem? hki)
        have h4 := kle k (List.mem_of_getElem? hki) b hb
        exact ⟨by omega, by omega⟩
      have klen2 : (k.1 ++ k.2).length ≤ 200 := by
        have := kf.l1
        have := kf.l2
        rw [List.length_append]
        omega
      rw [← ebs] at hys klen kne klo hmin kgood klen2
      have lys : ys.length = bs.length := by rw [hys.length, List.length_map]
      refine ⟨tt, rfl, ⟨_, ht⟩, fun D nD => ?_⟩
      refine lc_tup (K := K) (a := tt) (xs := ys) (fun j Hx => Same Hb Hx ∧ ∃ us, Hx D = some (.lst (refs us)) ∧ LAt (CovAt Hx) us (bs.take j)) ⟨same_upd nD, [], upd_same, .nil⟩ (fun j Hx _ hh => XR.Same.tup hh.1 ht) ?_ ?_
      · rintro j y Hx hy ⟨sx, us, hD, hus⟩
        obtain ⟨d, hd1, hd2⟩ := hys.get hy
        rw [List.getElem?_map] at hd1
        obtain ⟨b, hbj, rfl⟩ := Option.map_eq_some_iff.mp hd1
        obtain ⟨rb, rfl, hrb⟩ := blk_of (hd2.same sx)
        obtain ⟨q1, q2⟩ := klo b (List.mem_of_getElem? hbj)
        refine ⟨wipe_one, ?_⟩
        unfold tYes
        dsimp only
        rw [if_pos rfl]
        refine ⟨_, rfl, rb, b, rfl, hrb, q1, q2, fun u H3' s3 nu hu' => ?_⟩
        have hD3 := s3 _ _ hD
        refine ⟨_, hD3, ?_, fun b' o' h => ?_, us ++ [u], ?_, ?_⟩
        · rw [hus.len, List.length_take]
          exact Nat.lt_of_le_of_lt (Nat.le_trans (Nat.min_le_right _ _) klen) (by decide)
        · rw [upd_ne (ne_of_none h nD)]
          exact s3 _ _ (sx _ _ h)
        · rw [upd_same, refs_snoc]
        · rw [List.take_add_one, hbj]
          exact (hus.mono fun _ _ _ _ k => (k.same s3).updL hD3).append (.one (CovAt.updL hu' hD3))
      rintro Hc ⟨sc, us, hD, hus⟩
      rw [lys, List.take_length] at hus
      have sbc := sb.trans sc
      refine ⟨_, rfl, _, rfl, _, rfl, D, rfl, ⟨_, SqL.of hD⟩, fun D3 nD3 => ?_⟩
      refine lc_list (K := K) (a := D) (xs := refs us) (fun j Hx => Same Hc Hx ∧ Hx D3 = some (.lst (((bs.take j).map fun b => (coverB b).1).map V.int))) ⟨same_upd nD3, upd_same⟩ (fun j Hx _ hh => SqL.of (hh.1 _ _ hD)) ?_ ?_
      · rintro j y Hx hy ⟨sx, hD3⟩
        obtain ⟨u, b, rfl, _, hbj, hu'⟩ := hus.at hy
        refine ⟨wipe_one, ?_⟩
        unfold tYes
        dsimp only
        rw [if_pos rfl]
        refine ⟨_, rfl, u, _, _, _, rfl, rfl, SqT.of (sx _ _ hu'), atI_nat (j := 0) rfl, _, hD3, ?_, fun b' o' h => ?_, ?_⟩
        · rw [List.length_map, List.length_map, List.length_take]
          exact Nat.lt_of_le_of_lt (Nat.le_trans (Nat.min_le_right _ _) klen) (by decide)
        · rw [upd_ne (ne_of_none h nD3)]
          exact sx _ _ h
        · rw [upd_same, List.take_add_one, hbj, List.map_append, List.map_append]
          rfl
      rintro Hd ⟨sd, hD3⟩
      rw [hus.len, List.take_length] at hD3
      refine ⟨D3, _, rfl, SqL.of hD3, by rw [List.length_map]; exact List.length_pos_iff.mpr kne, fun m1 a1 a2 => ?_⟩
      have em := hmin ⟨a1, a2⟩
      subst em
      have sbd := sbc.trans sd
      have hSd := sbd _ _ hSa
      have hVd := sbd _ _ hVa
      have hDd := sd _ _ hD
      have husd := hus.mono fun _ _ _ _ k => k.same sd
      have DS : D ≠ S := ne_of hDd hSd (by intro z; cases z)
      have DV : D ≠ V0 := ne_of hDd hVd (by intro z; cases z)
      refine ⟨S, _, rfl, DPut.k (k := Sum.inl (firstK k)) hSd ?_, ?_⟩
      · unfold startsK
        rw [List.length_map, List.length_take, List.length_zip]
        exact Nat.lt_of_le_of_lt (show _ ≤ 16 by omega) (by decide)
      rw [starts_new (k := k) (u := t) ?_]
      have hSe := upd_same (H := Hd) (a := S) (o := .dK (startsK (((ts.zip ks).take i) ++ [(t, k)])))
      have b1 : But2 S V0 Hd (upd Hd S (.dK (startsK (((ts.zip ks).take i) ++ [(t, k)])))) := fun b o e n1 n2 => by rw [upd_ne n1]; exact e
      have hVe : upd Hd S (.dK (startsK (((ts.zip ks).take i) ++ [(t, k)]))) V0 = some (.dK kvs) := by rw [upd_ne (Ne.symm SV)]; exact hVd
      generalize upd Hd S (.dK (startsK (((ts.zip ks).take i) ++ [(t, k)]))) = He at hSe b1 hVe ⊢
      have hDe := b1 _ _ hDd DS DV
      have huse : LAt (CovAt He) us bs := husd.mono fun u b _ _ q => b1 _ _ q (ne_of q hSd (by intro z; cases z)) (ne_of q hVd (by intro z; cases z))
      refine ⟨_, rfl, D, rfl, ⟨_, SqL.of hDe⟩, ?_⟩
      refine for_list (K := K) (a := D) (xs := refs us) (fun j σ H' => But V0 He H' ∧ ∃ kvs' y5, σ = [some (V.ref c), some (V.ref S), some (V.ref V0), some (V.ref t), some (V.ref D), y5, none, none, none, none, none, none, none] ∧ H' V0 = some (.dK kvs') ∧ (∀ x : Int, valV kvs' (Sum.inl x) = if (bs.take j).any (covB x) = true then some (.str (kindL k C.s1 C.s2)) else wordAt C.s1 C.s2 (ks.take i) x) ∧ kvs'.length ≤ kvs.length + 100 * j)
        ⟨But.refl V0 He, kvs, _, rfl, hVe, fun x => by rw [List.take_zero, List.any_nil, if_neg (by decide)]; exact hkv x, by omega⟩ (fun j σ H' _ hh => SqL.of (hh.1 _ _ hDe DV)) ?_ ?_
      · rintro j y σ Hf hy ⟨bf, kvs', y5', rfl, hVf, hkv', klen'⟩
        obtain ⟨u, b, rfl, _, hbj, hu'⟩ := huse.at hy
        have huf := bf _ _ hu' (ne_of hu' hVe (by intro z; cases z))
        have hrb := SqT.of (K := K) huf
        obtain ⟨g1, g2⟩ := kgood b (List.mem_of_getElem? hbj)
        have i16 : i < 16 := by
          have := (List.getElem?_eq_some_iff.mp hki).1
          omega
        have hj : j < bs.length := (List.getElem?_eq_some_iff.mp hbj).1
        obtain ⟨m, em⟩ : ∃ m : Nat, (m : Int) = (coverB b).2 + 1 - (coverB b).1 := ⟨((coverB b).2 + 1 - (coverB b).1).toNat, by omega⟩
        have g0 : -50 ≤ (coverB b).1 ∧ (coverB b).1 ≤ 1000 := by
          have h1 := sq.inn k (List.mem_of_getElem? hki) b (by rw [← ebs]; exact List.mem_of_getElem? hbj)
          have h2 := sq.lo k (List.mem_of_getElem? hki)
          have h3 := sq.hi k (List.mem_of_getElem? hki)
          omega
        have b3f : But2 S V0 H3 Hf := fun b o e n1 n2 => bf _ _ (b1 _ _ (sbd _ _ (ba _ _ e n1 n2)) n1 n2) n2
        have hkf : KOut Hf t k := hk3.mono fun e => keepT b3f e
        have hcf := hc.same (toS b3f)
        refine ⟨_, rfl, V0, rfl, .inl ⟨_, .inl hVf⟩, ?_⟩
        refine ⟨_, rfl, u, _, _, _, rfl, rfl, hrb, atI_nat (j := 0) rfl, _, rfl, u, _, _, _, rfl, rfl, hrb, atI_nat (j := 1) rfl, _, _, rfl, rfl, _, _, rfl, ⟨by omega, by omega, by omega, by omega⟩, fun D2 nD2 => ?_⟩
        rw [show ((coverB b).2 + 1 - (coverB b).1).toNat = m by omega]
        have dD : V0 ≠ D2 := ne_of_none hVf nD2
        refine lc_range (lo := (coverB b).1) (n := m) (fun q Hx => Same Hf Hx ∧ ∃ ws, Hx D2 = some (.lst (refs ws)) ∧ PySem.Paired (fun u (kv : Key × V) => Hx u = some (.tup [kV kv.1, kv.2])) ws ((rngZ (coverB b).1 q).map (mkW (.str (kindL k C.s1 C.s2))))) ⟨same_upd nD2, [], upd_same, .nil⟩ ?_ ?_
        · rintro q Hx hq ⟨sx, ws, hD2, hws⟩
          have lws := hws.length
          rw [List.length_map, rngZ_len] at lws
          refine ⟨wipe_one, ?_⟩
          unfold tYes
          dsimp only
          rw [if_pos rfl]
          refine ⟨_, rfl, _, rfl, _, rfl, .ref t, k, c, ra, ta, da, wa, t1, t2, d1, d2, C, rfl, (hkf.same sx).dq, hcf.same sx, wd.w1.oks, wd.w2.oks, kf.i1, kf.i2, kf.len, fun Hs ss => ⟨ll20 (by show 2 ≤ 20; decide), fun v nv => ?_⟩⟩
          have sv := same_upd (o := .tup [V.int ((coverB b).1 + (q : Int)), V.str (kindL k C.s1 C.s2)]) nv
          have hv' := upd_same (H := Hs) (a := v) (o := .tup [V.int ((coverB b).1 + (q : Int)), V.str (kindL k C.s1 C.s2)])
          generalize upd Hs v (.tup [V.int ((coverB b).1 + (q : Int)), V.str (kindL k C.s1 C.s2)]) = Hy at sv hv' ⊢
          have ssv := ss.trans sv
          have hDy := ssv _ _ hD2
          have keep : ∀ {q : Addr} {vs : List V}, Hy q = some (.tup vs) → upd Hy D2 (.lst (refs ws ++ [V.ref v])) q = some (.tup vs) := fun {q vs} h => by
            rw [upd_ne (fun e => by rw [e, hDy] at h; cases h)]
            exact h
          refine ⟨_, hDy, ?_, fun b' o' h => ?_, ws ++ [v], ?_, ?_⟩
          · unfold refs
            rw [List.length_map]
            exact Nat.lt_of_le_of_lt (show ws.length ≤ 100 by omega) (by decide)
          · rw [upd_ne (ne_of_none h nD2)]
            exact ssv _ _ (sx _ _ h)
          · rw [upd_same, refs_snoc]
          · rw [rngZ_succ, List.map_append]
            exact (hws.mono fun q kv h => keep (ssv _ _ h)).snoc (keep hv')
        rintro Hg ⟨sg, ws, hD2, hws⟩
        refine ⟨D2, ws, _, rfl, SqL.of hD2, hws.mono fun q kv h => SqT.of h, fun q nq => ?_⟩
        have hd2 := sg _ _ hVf
        have dq : V0 ≠ q := ne_of_none hd2 nq
        have sq' := same_upd (o := .dK (mergeK [] ((rngZ (coverB b).1 m).map (mkW (.str (kindL k C.s1 C.s2)))))) nq
        have rl : (mergeK [] ((rngZ (coverB b).1 m).map (mkW (.str (kindL k C.s1 C.s2))))).length ≤ 100 := by
          have := length_mergeK ((rngZ (coverB b).1 m).map (mkW (.str (kindL k C.s1 C.s2)))) []
          rw [List.length_map, rngZ_len] at this
          simp only [List.length_nil] at this
          omega
        have rl2 := length_mergeK (mergeK [] ((rngZ (coverB b).1 m).map (mkW (.str (kindL k C.s1 C.s2))))) kvs'
        refine ⟨q, kvs', _, rfl, dq, sq' _ _ hd2, upd_same, Nat.le_trans (show _ ≤ 400000 by omega) (by decide), ?_⟩
        refine ⟨fun x o' h n => ?_, _, _, rfl, upd_same, fun x => ?_, by omega⟩
        · rw [upd_ne n]
          exact sq' _ _ (sg _ _ (bf _ _ h n))
        · rw [valV_upd, hkv', List.take_add_one, hbj, List.any_append]
          have ec : x ∈ rngZ (coverB b).1 m ↔ covB x b = true := by
            rw [rngZ_mem]
            unfold covB
            rw [decide_eq_true_iff]
            exact ⟨fun h => ⟨h.1, by omega⟩, fun h => ⟨h.1, by omega⟩⟩
          by_cases c1 : x ∈ rngZ (coverB b).1 m
          · rw [if_pos c1, Option.toList_some, List.any_cons, ec.mp c1, Bool.true_or, Bool.or_true, if_pos rfl]
          · have nb : covB x b = false := by
              cases h : covB x b with
              | true => exact absurd (ec.mpr h) c1
              | false => rfl
            rw [if_neg c1, Option.toList_some, List.any_cons, nb, Bool.false_or, List.any_nil, Bool.or_false]
      · rintro σ Hf ⟨bf, kvs', y5', rfl, hVf, hkv', klen'⟩
        rw [huse.len, List.take_length] at hkv'
        rw [huse.len] at klen'
        have zi : (ts.zip ks)[i]? = some (t, k) := by rw [List.getElem?_zip_eq_some]; exact ⟨hti, hki⟩
        refine ⟨fun b o e n1 n2 => bf _ _ (b1 _ _ (sbd _ _ (ba _ _ e n1 n2)) n1 n2) n2, ?_, kvs', _, _, _, rfl, hVf, fun x => ?_, by rw [Nat.mul_succ]; omega⟩
        · rw [List.take_add_one, zi]
          exact bf _ _ hSe SV
        · rw [hkv', List.take_add_one, hki, Option.toList_some, wordAt_snoc]
          unfold heldK
          rw [ebs]
      · intro w hw e
        have hw2 : w.2 ∈ ks.take i := by
          obtain ⟨n, hn⟩ := List.getElem?_of_mem hw
          have ni : n < i := by
            have := (List.getElem?_eq_some_iff.mp hn).1
            rw [List.length_take] at this
            omega
          rw [List.getElem?_take_of_lt ni, List.getElem?_zip_eq_some] at hn
          exact List.mem_of_getElem? (i := n) (by rw [List.getElem?_take_of_lt ni]; exact hn.2)
        have hk2 : k ∈ ks.drop i := List.mem_of_getElem? (i := 0) (by rw [List.getElem?_drop]; exact hki)
        have hbe := sq.be
        rw [← List.take_append_drop i ks] at hbe
        have := (List.pairwise_append.mp hbe).2.2 w.2 hw2 k hk2
        have := sq.le w.2 (List.mem_of_mem_take hw2)
        omega
    rintro σ Hn ⟨bn, hSn, kvs, y3, y4, y5, rfl, hVn, hkv, klen⟩
    have str_ne : ∀ {a b : Str}, a ≠ b → decide (V.str a = V.str b) = false := fun n => decide_eq_false fun e => n (by injection e)
    have lz : (ts.zip ks).length = ks.length := by rw [List.length_zip]; omega
    have eln : (refs ts).length = (ts.zip ks).length := by rw [hts.len, lz]
    rw [eln, List.take_length] at hSn
    rw [hts.len, List.take_length] at hkv
    have sHn := toS bn
    have hts' : LAt (KOut Hn) ts ks := hts3.mono fun _ _ _ _ k => k.mono fun e => keepT bn e
    have starts : ∀ p : Int, (valV (startsK (ts.zip ks)) (Sum.inl p) = none ∧ ks.find? (fun k => decide (firstK k = p)) = none) ∨ ∃ u k, valV (startsK (ts.zip ks)) (Sum.inl p) = some (.ref u) ∧ ks.find? (fun k => decide (firstK k = p)) = some k ∧ KOut Hn u k ∧ k ∈ ks := fun p => by
      rw [starts_at]
      have e : ks = (ts.zip ks).map (·.2) := (List.map_snd_zip (by omega)).symm
      have ef : ks.find? (fun k => decide (firstK k = p)) = ((ts.zip ks).find? fun w => decide (firstK w.2 = p)).map (·.2) := by
        conv => lhs; rw [e]
        rw [List.find?_map]
        rfl
      cases q : (ts.zip ks).find? fun w => decide (firstK w.2 = p) with
      | none => exact .inl ⟨rfl, by rw [ef, q]; rfl⟩
      | some w =>
        have hw := List.mem_of_find?_eq_some q
        obtain ⟨n, hn⟩ := List.getElem?_of_mem hw
        rw [List.getElem?_zip_eq_some] at hn
        obtain ⟨u, e1, e2⟩ := hts'.2 n w.2 hn.2
        rw [hn.1] at e1
        cases e1
        exact .inr ⟨w.1, w.2, rfl, by rw [ef, q]; rfl, e2, (List.of_mem_zip hw).2⟩
    refine ⟨ll20 (by show 0 ≤ 20; decide), fun Lf nLf => ⟨ll20 (by show 0 ≤ 20; decide), fun Lg nLg => ⟨_, _, rfl, ?_⟩⟩⟩
    have sLf := same_upd (o := .lst []) nLf
    have hLf0 := upd_same (H := Hn) (a := Lf) (o := .lst [])
    generalize upd Hn Lf (.lst []) = H4 at sLf hLf0 nLg ⊢
    have sLg := same_upd (o := .lst []) nLg
    have hLg0 := upd_same (H := H4) (a := Lg) (o := .lst [])
    have hLf1 := sLg _ _ hLf0
    have fg : Lf ≠ Lg := ne_of_none hLf0 nLg
    have nLg' : Hn Lg = none := none_before sLf nLg
    have s45 := sLf.trans sLg
    generalize upd H4 Lg (.lst []) = H5 at s45 hLg0 hLf1 ⊢
    have toN : ∀ {H' : Hp}, But2 Lf Lg H5 H' → Same Hn H' := fun {H'} k b o e => k _ _ (s45 _ _ e) (ne_of_none e nLf) (ne_of_none e nLg')
    have hc5 := hc.same (sHn.trans s45)
    have e1 : (C.s0.map V.str).length = C.s0.length := List.length_map ..
    have m1 : CMul 2 ((C.s0.map V.str).length : Int) := .inl ⟨by omega, by omega⟩
    refine ⟨_, rfl, c, _, rfl, hc5.g1, ra, _, rfl, .inl (SqL.of hc5.r), _, _, rfl, rfl, m1, _, _, rfl, rfl, ?_⟩
    refine ⟨_, rfl, by omega, by rw [e1]; omega, ?_⟩
    rw [e1, show (2 * (C.s0.length : Int) + 1).toNat = 2 * C.s0.length + 1 by omega]
    refine for_range (n := 2 * C.s0.length + 1) (fun i σ H' => But2 Lf Lg H5 H' ∧ ∃ xs y8 y9 y10, σ = [some (V.ref c), some (V.ref S), some (V.ref V0), y3, y4, y5, some (V.ref Lf), some (V.ref Lg), y8, y9, y10, none, none] ∧ H' Lf = some (.lst xs) ∧ DqAll K (noL H') xs (orgD 0 ((List.range i).flatMap (tokAt C.s0 C.s1 C.s2 C.ps C.qs ks))) ∧ H' Lg = some (.lst (tabV (i / 2) (fateF C.s1 C.s2 ks))))
      ⟨fun _ _ e _ _ => e, [], _, _, _, rfl, hLf1, .nil, hLg0⟩ ?_ ?_
    · rintro i σ Ha hi ⟨bY, xs, y8, y9, y10, rfl, hfY, dY, hgY⟩
      have sN := toN bY
      have sHa := sHn.trans sN
      have hca := hc.same sHa
      have hSa := sN _ _ hSn
      have lacc : ((List.range i).flatMap (tokAt C.s0 C.s1 C.s2 C.ps C.qs ks)).length ≤ 6001 * i := tokAt_len (fun k hk => kfact k hk) (by have := ok.l1; omega) (by have := ok.l2; omega) i
      have asrc : ∀ t ∈ (List.range i).flatMap (tokAt C.s0 C.s1 C.s2 C.ps C.qs ks), isT t.1 = true ∨ SrcOf C.s0 C.s1 C.s2 t.1 t.2 := tokAt_src (fun k hk => kfact k hk) i (by omega)
      have esucc : (List.range (i + 1)).flatMap (tokAt C.s0 C.s1 C.s2 C.ps C.qs ks) = (List.range i).flatMap (tokAt C.s0 C.s1 C.s2 C.ps C.qs ks) ++ tokAt C.s0 C.s1 C.s2 C.ps C.qs ks i := by
        rw [List.range_succ, List.flatMap_append]
        simp
      generalize (List.range i).flatMap (tokAt C.s0 C.s1 C.s2 C.ps C.qs ks) = acc at dY lacc asrc esucc
      have lxs : xs.length ≤ 6001 * i := by rw [dY.length, orgD_len]; exact lacc
      have z0 : (0 : Int) + (i : Int) = ((i : Nat) : Int) := Int.zero_add _
      rw [z0]
      refine ⟨_, rfl, _, rfl, S, _, rfl, DGet.k (k := Sum.inl (i : Int)) hSa, _, rfl, ?_⟩
      rcases starts (i : Int) with ⟨q1, q2⟩ | ⟨u, k, q1, q2, q3, q4⟩
      · rw [q1]
        have eT : tokAt C.s0 C.s1 C.s2 C.ps C.qs ks i = [] ++ (if StandAt ks i then [baseTok C.s0 (i / 2)] else []) := by
          unfold tokAt
          rw [q2]
        have dY : DqAll K (noL Ha) xs (orgD 0 (acc ++ [])) := by rw [List.append_nil]; exact dY
        have lX : xs.length ≤ 6001 * 16 := by omega
        refine iteF ?_
        have d1' : CDiv (i : Int) 2 := ⟨by decide, by decide⟩
        have m2 : CMul ((i : Int) / 2) 2 := .inr ⟨by omega, by omega⟩
        refine ⟨_, rfl, _, _, rfl, rfl, d1', _, _, rfl, rfl, m2, _, rfl, _, _, rfl, rfl, _, rfl, ?_⟩
        by_cases od : i / 2 * 2 < i
        · rw [decide_eq_true (show (i : Int) / 2 * 2 < (i : Int) by omega)]
          have ei : 2 * (i / 2) + 1 = i := by omega
          obtain ⟨wfe, wcs⟩ := wf (i / 2)
          rw [ei] at wfe wcs
          have hVY := toN bY _ _ hVn
          have gV : DGet Ha V0 (V.int (i : Int)) (wordAt C.s1 C.s2 ks (i : Int)) := by
            have := DGet.k (k := Sum.inl (i : Int)) hVY
            rw [hkv] at this
            exact this
          refine iteT ⟨_, rfl, V0, rfl, .inl ⟨_, .inl hVY⟩, _, rfl, _, gV, ?_⟩
          have tabS : ∀ w : Str, w = fateF C.s1 C.s2 ks (i / 2) → tabV ((i + 1) / 2) (fateF C.s1 C.s2 ks) = tabV (i / 2) (fateF C.s1 C.s2 ks) ++ [V.str w] := fun w e => by
            rw [e, show (i + 1) / 2 = i / 2 + 1 by omega]
            unfold tabV
            rw [List.range_succ, List.map_append, List.map_append]
            rfl
          have ltab : (tabV (i / 2) (fateF C.s1 C.s2 ks)).length < sizeLine := by
            rw [tabV_len]
            exact Nat.lt_of_le_of_lt (show i / 2 ≤ 100 by omega) (by decide)
          rcases wcs with ⟨wd', ew, k', hk', ekd⟩ | ew
          · -- a knot holds the line
            have nst : ¬ StandAt ks i := fun q => by
              have h1 : fateF C.s1 C.s2 ks (i / 2) = "stands" := fate_stands.mpr (by rw [ei]; exact q.1)
              rw [← wfe, ew] at h1
              unfold fateO at h1
              dsimp only at h1
              split at h1 <;> exact absurd h1 (by decide +kernel)
            rw [if_neg nst, List.append_nil] at eT
            rw [ew] at wfe ⊢
            dsimp only [Option.getD]
            refine ⟨_, rfl, .inl ⟨rfl, _, SqL.of hgY⟩, _, rfl, ll20 (by show 2 ≤ 20; decide), fun tt ntt => ⟨tt, _, rfl, .inr (SqT.of upd_same), rfl, rfl, _, rfl, ?_⟩⟩
            have stt := same_upd (o := .tup [V.str "stands", V.str "clash"]) ntt
            generalize upd Ha tt (.tup [V.str "stands", V.str "clash"]) = HZ at stt ⊢
            have fin : ∀ w : Str, w = fateF C.s1 C.s2 ks (i / 2) → (But2 Lf Lg H5 (upd HZ Lg (.lst (tabV (i / 2) (fateF C.s1 C.s2 ks) ++ [V.str w])))) ∧ upd HZ Lg (.lst (tabV (i / 2) (fateF C.s1 C.s2 ks) ++ [V.str w])) Lf = some (.lst xs) ∧ DqAll K (noL (upd HZ Lg (.lst (tabV (i / 2) (fateF C.s1 C.s2 ks) ++ [V.str w])))) xs (orgD 0 ((List.range (i + 1)).flatMap (tokAt C.s0 C.s1 C.s2 C.ps C.qs ks))) ∧ upd HZ Lg (.lst (tabV (i / 2) (fateF C.s1 C.s2 ks) ++ [V.str w])) Lg = some (.lst (tabV ((i + 1) / 2) (fateF C.s1 C.s2 ks))) := fun w e => by
              refine ⟨fun b o h n1 n2 => ?_, ?_, ?_, ?_⟩
              · rw [upd_ne n2]
                exact stt _ _ (bY _ _ h n1 n2)
              · rw [upd_ne fg]
                exact stt _ _ hfY
              · rw [noL_upd (stt _ _ hgY), esucc, eT]
                exact dY.same (noL_same stt)
              · rw [upd_same, tabS w e]
            have wne : wd' ≠ "stands" := by rw [ekd]; exact kind_ne
            rcases kind_shape k' C.s1 C.s2 with q | ⟨q, _⟩ | ⟨q, _⟩ | ⟨q, _⟩ | q <;> rw [q] at ekd <;> subst ekd
            · obtain ⟨f1, f2, f3, f4⟩ := fin "gone" (wfe.symm.trans (by decide +kernel)).symm
              rw [show (if false = true then !inV (V.str "going") [V.str "stands", V.str "clash"] else inV (V.str "going") [V.str "stands", V.str "clash"]) = false by decide +kernel]
              refine iteF ⟨Lg, _, _, rfl, rfl, stt _ _ hgY, ltab, ?_⟩
              refine ⟨_, rfl, rfl, _, rfl, ?_⟩
              rw [str_ne (by decide +kernel)]
              exact iteF ⟨f1, _, _, _, _, rfl, f2, f3, f4⟩
            · obtain ⟨f1, f2, f3, f4⟩ := fin "gone" (wfe.symm.trans (by decide +kernel)).symm
              rw [show (if false = true then !inV (V.str "two") [V.str "stands", V.str "clash"] else inV (V.str "two") [V.str "stands", V.str "clash"]) = false by decide +kernel]
              refine iteF ⟨Lg, _, _, rfl, rfl, stt _ _ hgY, ltab, ?_⟩
              refine ⟨_, rfl, rfl, _, rfl, ?_⟩
              rw [str_ne (by decide +kernel)]
              exact iteF ⟨f1, _, _, _, _, rfl, f2, f3, f4⟩
            · obtain ⟨f1, f2, f3, f4⟩ := fin "gone" (wfe.symm.trans (by decide +kernel)).symm
              rw [show (if false = true then !inV (V.str "one") [V.str "stands", V.str "clash"] else inV (V.str "one") [V.str "stands", V.str "clash"]) = false by decide +kernel]
              refine iteF ⟨Lg, _, _, rfl, rfl, stt _ _ hgY, ltab, ?_⟩
              refine ⟨_, rfl, rfl, _, rfl, ?_⟩
              rw [str_ne (by decide +kernel)]
              exact iteF ⟨f1, _, _, _, _, rfl, f2, f3, f4⟩
            · obtain ⟨f1, f2, f3, f4⟩ := fin "gone" (wfe.symm.trans (by decide +kernel)).symm
              rw [show (if false = true then !inV (V.str "alike") [V.str "stands", V.str "clash"] else inV (V.str "alike") [V.str "stands", V.str "clash"]) = false by decide +kernel]
              refine iteF ⟨Lg, _, _, rfl, rfl, stt _ _ hgY, ltab, ?_⟩
              refine ⟨_, rfl, rfl, _, rfl, ?_⟩
              rw [str_ne (by decide +kernel)]
              exact iteF ⟨f1, _, _, _, _, rfl, f2, f3, f4⟩
            · obtain ⟨f1, f2, f3, f4⟩ := fin "clash" (wfe.symm.trans (by decide +kernel)).symm
              rw [show (if false = true then !inV (V.str "clash") [V.str "stands", V.str "clash"] else inV (V.str "clash") [V.str "stands", V.str "clash"]) = true by decide +kernel]
              refine iteT ⟨_, rfl, Lg, _, _, rfl, rfl, stt _ _ hgY, ltab, ?_⟩
              refine ⟨_, rfl, rfl, _, rfl, ?_⟩
              rw [str_ne (by decide +kernel)]
              exact iteF ⟨f1, _, _, _, _, rfl, f2, f3, f4⟩
          · have est : "stands" = fateF C.s1 C.s2 ks (i / 2) := by rw [← wfe, ew]; rfl
            have st : StandAt ks i := ⟨by have := fate_stands.mp est.symm; rw [ei] at this; exact this, od⟩
            rw [if_pos st] at eT
            rw [ew]
            dsimp only [Option.getD]
            refine ⟨_, rfl, .inl ⟨rfl, _, SqL.of hgY⟩, _, rfl, ll20 (by show 2 ≤ 20; decide), fun tt ntt => ⟨tt, _, rfl, .inr (SqT.of upd_same), rfl, rfl, _, rfl, ?_⟩⟩
            have stt := same_upd (o := .tup [V.str "stands", V.str "clash"]) ntt
            generalize upd Ha tt (.tup [V.str "stands", V.str "clash"]) = HZ at stt ⊢
            rw [show (if false = true then !inV (V.str "stands") [V.str "stands", V.str "clash"] else inV (V.str "stands") [V.str "stands", V.str "clash"]) = true by decide +kernel]
            refine iteT ⟨_, rfl, Lg, _, _, rfl, rfl, stt _ _ hgY, ltab, ?_⟩
            refine ⟨_, rfl, rfl, _, rfl, ?_⟩
            rw [decide_eq_true rfl]
            have hfU : upd HZ Lg (.lst (tabV (i / 2) (fateF C.s1 C.s2 ks) ++ [V.str "stands"])) Lf = some (.lst xs) := by
              rw [upd_ne fg]
              exact stt _ _ hfY
            have hgU := upd_same (H := HZ) (a := Lg) (o := .lst (tabV (i / 2) (fateF C.s1 C.s2 ks) ++ [V.str "stands"]))
            rw [← tabS "stands" est] at hgU hfU ⊢
            have dU : DqAll K (noL (upd HZ Lg (.lst (tabV ((i + 1) / 2) (fateF C.s1 C.s2 ks))))) xs (orgD 0 (acc ++ [])) := by
              rw [noL_upd (stt _ _ hgY)]
              exact dY.same (noL_same stt)
            have bU : But2 Lf Lg H5 (upd HZ Lg (.lst (tabV ((i + 1) / 2) (fateF C.s1 C.s2 ks)))) := fun b o h n1 n2 => by
              rw [upd_ne n2]
              exact stt _ _ (bY _ _ h n1 n2)
            generalize upd HZ Lg (.lst (tabV ((i + 1) / 2) (fateF C.s1 C.s2 ks))) = HU at hfU hgU dU bU ⊢
            refine iteT ⟨_, rfl, .inl ⟨rfl, _, SqL.of hfU⟩, _, rfl, _, _, rfl, rfl, d1', _, _, rfl, rfl, ll20 (by show 2 ≤ 20; decide), fun bt nbt => ?_⟩
            have sbt := same_upd (o := .tup [V.str "base", V.int ((i : Int) / 2 + 1)]) nbt
            have hbt := upd_same (H := HU) (a := bt) (o := .tup [V.str "base", V.int ((i : Int) / 2 + 1)])
            generalize upd HU bt (.tup [V.str "base", V.int ((i : Int) / 2 + 1)]) = HW at sbt hbt ⊢
            have hfW := sbt _ _ hfU
            refine ⟨Lf, _, _, rfl, rfl, hfW, Nat.lt_of_le_of_lt lX (by decide), ?_⟩
            refine ⟨fun b o h n1 n2 => ?_, _, _, _, _, rfl, upd_same, ?_, ?_⟩
            · rw [upd_ne n1]
              exact sbt _ _ (bU _ _ h n1 n2)
            · rw [noL_upd hfW, esucc, eT, ← List.append_assoc, orgD_append]
              refine (dU.same (noL_same sbt)).append (.cons ?_ .nil)
              show Dq K (noL HW) (.ref bt) (.tuple [.str "base", .int ((i / 2 + 1 : Nat) : Int)])
              rw [show ((i / 2 + 1 : Nat) : Int) = (i : Int) / 2 + 1 by omega]
              exact .tup (SqT.of (noL_tup hbt)) (.cons (.str _) (.cons (.int _) .nil))
            · rw [upd_ne (Ne.symm fg)]
              exact sbt _ _ hgU
        · rw [decide_eq_false (show ¬ (i : Int) / 2 * 2 < (i : Int) by omega)]
          have nst : ¬ StandAt ks i := fun q => od q.2
          rw [if_neg nst, List.append_nil] at eT
          refine iteF ⟨bY, _, _, _, _, rfl, hfY, ?_, ?_⟩
          · rw [esucc, eT]
            exact dY
          · rw [show (i + 1) / 2 = i / 2 by omega]
            exact hgY
      · rw [q1]
        have kf := kfact k q4
        have hg : DGet Ha S (V.int (i : Int)) (some (.ref u)) := by
          have := DGet.k (k := Sum.inl (i : Int)) hSa
          rw [q1] at this
          exact this
        have eT : tokAt C.s0 C.s1 C.s2 C.ps C.qs ks i = tokK C.s1 C.s2 C.ps C.qs k ++ (if StandAt ks i then [baseTok C.s0 (i / 2)] else []) := by
          unfold tokAt
          rw [q2]
        refine iteT ⟨_, rfl, Lf, rfl, ⟨_, SqL.of hfY⟩, fun D2 nD2 => ?_⟩
        have lod : xs.length = (orgD 0 acc).length := dY.length
        refine lc_list (K := K) (a := Lf) (xs := xs) (fun j Hx => Same Ha Hx ∧ ∃ zs, Hx D2 = some (.lst zs) ∧ zs.length = (((orgD 0 acc).take j).filter isCl).length) ⟨same_upd nD2, [], upd_same, rfl⟩ (fun j Hx _ hh => SqL.of (hh.1 _ _ hfY)) ?_ ?_
        · rintro j y Hx hy ⟨sx, zs, hD2, hzs⟩
          obtain ⟨o, ho1, ho2⟩ := dY.get hy
          have hja : j < acc.length := by
            have := (List.getElem?_eq_some_iff.mp ho1).1
            rw [orgD_len] at this
            exact this
          obtain ⟨o', ho', hsrc⟩ := org_src acc 0 (by omega) asrc j acc[j] (List.getElem?_eq_getElem hja)
          rw [ho1] at ho'
          cases ho'
          obtain ⟨r, z0', zs', rfl, hr0, hz⟩ := head_of (ho2.same (noL_same sx)) hsrc
          have hr1' := XR.Same.tup noL_le hr0
          have tk : ((orgD 0 acc).take (j + 1)).filter isCl = ((orgD 0 acc).take j).filter isCl ++ (if isCl o = true then [o] else []) := by
            rw [List.take_add_one, ho1, List.filter_append]
            congr 1
            by_cases c1 : isCl o = true
            · rw [if_pos c1, Option.toList_some, List.filter_cons_of_pos c1]; rfl
            · rw [if_neg c1, Option.toList_some, List.filter_cons_of_neg c1]; rfl
          have lzs : zs.length ≤ 6001 * 16 := by
            rw [hzs]
            refine Nat.le_trans (List.length_filter_le _ _) ?_
            rw [List.length_take]
            omega
          have yes : isCl o = true → ∃ acc', Hx D2 = some (.lst acc') ∧ acc'.length < sizeLine ∧ (Same Ha (upd Hx D2 (.lst (acc' ++ [V.ref r]))) ∧ ∃ zs, upd Hx D2 (.lst (acc' ++ [V.ref r])) D2 = some (.lst zs) ∧ zs.length = (((orgD 0 acc).take (j + 1)).filter isCl).length) := fun c1 => by
            refine ⟨zs, hD2, Nat.lt_of_le_of_lt lzs (by decide), fun b' o' h => ?_, _, upd_same, ?_⟩
            · rw [upd_ne (ne_of_none h nD2)]
              exact sx _ _ h
            · rw [tk, if_pos c1, List.length_append, List.length_append, hzs]
              rfl
          have no : isCl o = false → Same Ha Hx ∧ ∃ zs, Hx D2 = some (.lst zs) ∧ zs.length = (((orgD 0 acc).take (j + 1)).filter isCl).length := fun c1 => by
            refine ⟨sx, zs, hD2, ?_⟩
            rw [tk, if_neg (by rw [c1]; decide), List.append_nil]
            exact hzs
          refine ⟨wipe_one, ?_⟩
          rcases hz with ⟨wd', rfl, hc1⟩ | ⟨ii, rfl, hc1⟩
          · refine ⟨_, rfl, r, _, _, _, rfl, rfl, hr1', atI_nat (j := 0) rfl, rfl, _, rfl, ?_⟩
            by_cases c2 : wd' = "clash"
            · rw [decide_eq_true (show V.str wd' = V.str "clash" by rw [c2])]
              dsimp only
              rw [if_pos rfl]
              exact ⟨_, rfl, yes (hc1.trans (decide_eq_true c2))⟩
            · rw [str_ne c2]
              dsimp only
              rw [if_neg (by decide)]
              exact no (hc1.trans (decide_eq_false c2))
          · refine ⟨_, rfl, r, _, _, _, rfl, rfl, hr1', atI_nat (j := 0) rfl, rfl, _, rfl, ?_⟩
            rw [decide_eq_false (show ¬ V.int ii = V.str "clash" from fun e => nomatch e)]
            dsimp only
            rw [if_neg (by decide)]
            exact no hc1
        rintro Hb ⟨sb, zs, hD2, hzs⟩
        rw [lod, List.take_length, count_cl acc 0 (fun t ht => by
          by_cases c1 : isT t.1 = true
          · exact .inl c1
          · exact .inr (src_ncl ((asrc t ht).resolve_left c1) c1))] at hzs
        refine ⟨D2, zs, rfl, .inl (SqL.of hD2), ?_⟩
        rw [hzs]
        have hfb := sb _ _ hfY
        have hSb := sb _ _ hSa
        have hgb : DGet Hb S (V.int (i : Int)) (some (.ref u)) := by
          have := DGet.k (k := Sum.inl (i : Int)) hSb
          rw [q1] at this
          exact this
        have sNb := sN.trans sb
        refine ⟨_, rfl, .inl ⟨rfl, _, SqL.of hfb⟩, _, rfl, _, rfl, _, rfl, S, _, rfl, hgb, _, rfl, c, ra, ta, da, wa, t1, t2, d1, d2, C, .ref u, k, nCl acc, rfl, hca.same sb, ok, wd, (q3.same sNb).dq, kf, fun l' Hp xs' sp nl' hl' hxs' => ?_⟩
        have hfp := sp _ _ hfb
        have lx' : xs'.length ≤ 6000 := by
          rw [hxs'.length]
          unfold srcL
          rw [orgD_len]
          exact tokK_len kf (by have := ok.l1; omega) (by have := ok.l2; omega)
        refine ⟨Lf, l', xs, xs', rfl, rfl, hfp, hl', Nat.le_trans (show _ ≤ 6001 * 17 by omega) (by decide), ?_⟩
        have spb := sb.trans sp
        have bZ : But2 Lf Lg H5 (upd Hp Lf (.lst (xs ++ xs'))) := fun b o h n1 n2 => by
          rw [upd_ne n1]
          exact spb _ _ (bY _ _ h n1 n2)
        have hfZ := upd_same (H := Hp) (a := Lf) (o := .lst (xs ++ xs'))
        have hgZ : upd Hp Lf (.lst (xs ++ xs')) Lg = some (.lst (tabV (i / 2) (fateF C.s1 C.s2 ks))) := by
          rw [upd_ne (Ne.symm fg)]
          exact spb _ _ hgY
        have dZ : DqAll K (noL (upd Hp Lf (.lst (xs ++ xs')))) (xs ++ xs') (orgD 0 (acc ++ tokK C.s1 C.s2 C.ps C.qs k)) := by
          rw [noL_upd hfp, orgD_append, Nat.zero_add]
          exact (dY.same (noL_same spb)).append hxs'
        generalize upd Hp Lf (.lst (xs ++ xs')) = Hz at bZ hfZ hgZ dZ ⊢
        have lX : (xs ++ xs').length ≤ 6001 * 17 := by rw [List.length_append]; omega
        generalize xs ++ xs' = xz at hfZ dZ lX
        have bY := bZ
        have hfY := hfZ
        have hgY := hgZ
        have dY := dZ
        have d1' : CDiv (i : Int) 2 := ⟨by decide, by decide⟩
        have m2 : CMul ((i : Int) / 2) 2 := .inr ⟨by omega, by omega⟩
        refine ⟨_, rfl, _, _, rfl, rfl, d1', _, _, rfl, rfl, m2, _, rfl, _, _, rfl, rfl, _, rfl, ?_⟩
        by_cases od : i / 2 * 2 < i
        · rw [decide_eq_true (show (i : Int) / 2 * 2 < (i : Int) by omega)]
          have ei : 2 * (i / 2) + 1 = i := by omega
          obtain ⟨wfe, wcs⟩ := wf (i / 2)
          rw [ei] at wfe wcs
          have hVY := toN bY _ _ hVn
          have gV : DGet Hz V0 (V.int (i : Int)) (wordAt C.s1 C.s2 ks (i : Int)) := by
            have := DGet.k (k := Sum.inl (i : Int)) hVY
            rw [hkv] at this
            exact this
          refine iteT ⟨_, rfl, V0, rfl, .inl ⟨_, .inl hVY⟩, _, rfl, _, gV, ?_⟩
          have tabS : ∀ w : Str, w = fateF C.s1 C.s2 ks (i / 2) → tabV ((i + 1) / 2) (fateF C.s1 C.s2 ks) = tabV (i / 2) (fateF C.s1 C.s2 ks) ++ [V.str w] := fun w e => by
            rw [e, show (i + 1) / 2 = i / 2 + 1 by omega]
            unfold tabV
            rw [List.range_succ, List.map_append, List.map_append]
            rfl
          have ltab : (tabV (i / 2) (fateF C.s1 C.s2 ks)).length < sizeLine := by
            rw [tabV_len]
            exact Nat.lt_of_le_of_lt (show i / 2 ≤ 100 by omega) (by decide)
          rcases wcs with ⟨wd', ew, k', hk', ekd⟩ | ew
          · -- a knot holds the line
            have nst : ¬ StandAt ks i := fun q => by
              have h1 : fateF C.s1 C.s2 ks (i / 2) = "stands" := fate_stands.mpr (by rw [ei]; exact q.1)
              rw [← wfe, ew] at h1
              unfold fateO at h1
              dsimp only at h1
              split at h1 <;> exact absurd h1 (by decide +kernel)
            rw [if_neg nst, List.append_nil] at eT
            rw [ew] at wfe ⊢
            dsimp only [Option.getD]
            refine ⟨_, rfl, .inl ⟨rfl, _, SqL.of hgY⟩, _, rfl, ll20 (by show 2 ≤ 20; decide), fun tt ntt => ⟨tt, _, rfl, .inr (SqT.of upd_same), rfl, rfl, _, rfl, ?_⟩⟩
            have stt := same_upd (o := .tup [V.str "stands", V.str "clash"]) ntt
            generalize upd Hz tt (.tup [V.str "stands", V.str "clash"]) = HZ at stt ⊢
            have fin : ∀ w : Str, w = fateF C.s1 C.s2 ks (i / 2) → (But2 Lf Lg H5 (upd HZ Lg (.lst (tabV (i / 2) (fateF C.s1 C.s2 ks) ++ [V.str w])))) ∧ upd HZ Lg (.lst (tabV (i / 2) (fateF C.s1 C.s2 ks) ++ [V.str w])) Lf = some (.lst xz) ∧ DqAll K (noL (upd HZ Lg (.lst (tabV (i / 2) (fateF C.s1 C.s2 ks) ++ [V.str w])))) xz (orgD 0 ((List.range (i + 1)).flatMap (tokAt C.s0 C.s1 C.s2 C.ps C.qs ks))) ∧ upd HZ Lg (.lst (tabV (i / 2) (fateF C.s1 C.s2 ks) ++ [V.str w])) Lg = some (.lst (tabV ((i + 1) / 2) (fateF C.s1 C.s2 ks))) := fun w e => by
              refine ⟨fun b o h n1 n2 => ?_, ?_, ?_, ?_⟩
              · rw [upd_ne n2]
                exact stt _ _ (bY _ _ h n1 n2)
              · rw [upd_ne fg]
                exact stt _ _ hfY
              · rw [noL_upd (stt _ _ hgY), esucc, eT]
                exact dY.same (noL_same stt)
              · rw [upd_same, tabS w e]
            have wne : wd' ≠ "stands" := by rw [ekd]; exact kind_ne
            rcases kind_shape k' C.s1 C.s2 with q | ⟨q, _⟩ | ⟨q, _⟩ | ⟨q, _⟩ | q <;> rw [q] at ekd <;> subst ekd
            · obtain ⟨f1, f2, f3, f4⟩ := fin "gone" (wfe.symm.trans (by decide +kernel)).symm
              rw [show (if false = true then !inV (V.str "going") [V.str "stands", V.str "clash"] else inV (V.str "going") [V.str "stands", V.str "clash"]) = false by decide +kernel]
              refine iteF ⟨Lg, _, _, rfl, rfl, stt _ _ hgY, ltab, ?_⟩
              refine ⟨_, rfl, rfl, _, rfl, ?_⟩
              rw [str_ne (by decide +kernel)]
              exact iteF ⟨f1, _, _, _, _, rfl, f2, f3, f4⟩
            · obtain ⟨f1, f2, f3, f4⟩ := fin "gone" (wfe.symm.trans (by decide +kernel)).symm
              rw [show (if false = true then !inV (V.str "two") [V.str "stands", V.str "clash"] else inV (V.str "two") [V.str "stands", V.str "clash"]) = false by decide +kernel]
              refine iteF ⟨Lg, _, _, rfl, rfl, stt _ _ hgY, ltab, ?_⟩
              refine ⟨_, rfl, rfl, _, rfl, ?_⟩
              rw [str_ne (by decide +kernel)]
              exact iteF ⟨f1, _, _, _, _, rfl, f2, f3, f4⟩
            · obtain ⟨f1, f2, f3, f4⟩ := fin "gone" (wfe.symm.trans (by decide +kernel)).symm
              rw [show (if false = true then !inV (V.str "one") [V.str "stands", V.str "clash"] else inV (V.str "one") [V.str "stands", V.str "clash"]) = false by decide +kernel]
              refine iteF ⟨Lg, _, _, rfl, rfl, stt _ _ hgY, ltab, ?_⟩
              refine ⟨_, rfl, rfl, _, rfl, ?_⟩
              rw [str_ne (by decide +kernel)]
              exact iteF ⟨f1, _, _, _, _, rfl, f2, f3, f4⟩
            · obtain ⟨f1, f2, f3, f4⟩ := fin "gone" (wfe.symm.trans (by decide +kernel)).symm
              rw [show (if false = true then !inV (V.str "alike") [V.str "stands", V.str "clash"] else inV (V.str "alike") [V.str "stands", V.str "clash"]) = false by decide +kernel]
              refine iteF ⟨Lg, _, _, rfl, rfl, stt _ _ hgY, ltab, ?_⟩
              refine ⟨_, rfl, rfl, _, rfl, ?_⟩
              rw [str_ne (by decide +kernel)]
              exact iteF ⟨f1, _, _, _, _, rfl, f2, f3, f4⟩
            · obtain ⟨f1, f2, f3, f4⟩ := fin "clash" (wfe.symm.trans (by decide +kernel)).symm
              rw [show (if false = true then !inV (V.str "clash") [V.str "stands", V.str "clash"] else inV (V.str "clash") [V.str "stands", V.str "clash"]) = true by decide +kernel]
              refine iteT ⟨_, rfl, Lg, _, _, rfl, rfl, stt _ _ hgY, ltab, ?_⟩
              refine ⟨_, rfl, rfl, _, rfl, ?_⟩
              rw [str_ne (by decide +kernel)]
              exact iteF ⟨f1, _, _, _, _, rfl, f2, f3, f4⟩
          · have est : "stands" = fateF C.s1 C.s2 ks (i / 2) := by rw [← wfe, ew]; rfl
            have st : StandAt ks i := ⟨by have := fate_stands.mp est.symm; rw [ei] at this; exact this, od⟩
            rw [if_pos st] at eT
            rw [ew]
            dsimp only [Option.getD]
            refine ⟨_, rfl, .inl ⟨rfl, _, SqL.of hgY⟩, _, rfl, ll20 (by show 2 ≤ 20; decide), fun tt ntt => ⟨tt, _, rfl, .inr (SqT.of upd_same), rfl, rfl, _, rfl, ?_⟩⟩
            have stt := same_upd (o := .tup [V.str "stands", V.str "clash"]) ntt
            generalize upd Hz tt (.tup [V.str "stands", V.str "clash"]) = HZ at stt ⊢
            rw [show (if false = true then !inV (V.str "stands") [V.str "stands", V.str "clash"] else inV (V.str "stands") [V.str "stands", V.str "clash"]) = true by decide +kernel]
            refine iteT ⟨_, rfl, Lg, _, _, rfl, rfl, stt _ _ hgY, ltab, ?_⟩
            refine ⟨_, rfl, rfl, _, rfl, ?_⟩
            rw [decide_eq_true rfl]
            have hfU : upd HZ Lg (.lst (tabV (i / 2) (fateF C.s1 C.s2 ks) ++ [V.str "stands"])) Lf = some (.lst xz) := by
              rw [upd_ne fg]
              exact stt _ _ hfY
            have hgU := upd_same (H := HZ) (a := Lg) (o := .lst (tabV (i / 2) (fateF C.s1 C.s2 ks) ++ [V.str "stands"]))
            rw [← tabS "stands" est] at hgU hfU ⊢
            have dU : DqAll K (noL (upd HZ Lg (.lst (tabV ((i + 1) / 2) (fateF C.s1 C.s2 ks))))) xz (orgD 0 (acc ++ tokK C.s1 C.s2 C.ps C.qs k)) := by
              rw [noL_upd (stt _ _ hgY)]
              exact dY.same (noL_same stt)
            have bU : But2 Lf Lg H5 (upd HZ Lg (.lst (tabV ((i + 1) / 2) (fateF C.s1 C.s2 ks)))) := fun b o h n1 n2 => by
              rw [upd_ne n2]
              exact stt _ _ (bY _ _ h n1 n2)
            generalize upd HZ Lg (.lst (tabV ((i + 1) / 2) (fateF C.s1 C.s2 ks))) = HU at hfU hgU dU bU ⊢
            refine iteT ⟨_, rfl, .inl ⟨rfl, _, SqL.of hfU⟩, _, rfl, _, _, rfl, rfl, d1', _, _, rfl, rfl, ll20 (by show 2 ≤ 20; decide), fun bt nbt => ?_⟩
            have sbt := same_upd (o := .tup [V.str "base", V.int ((i : Int) / 2 + 1)]) nbt
            have hbt := upd_same (H := HU) (a := bt) (o := .tup [V.str "base", V.int ((i : Int) / 2 + 1)])
            generalize upd HU bt (.tup [V.str "base", V.int ((i : Int) / 2 + 1)]) = HW at sbt hbt ⊢
            have hfW := sbt _ _ hfU
            refine ⟨Lf, _, _, rfl, rfl, hfW, Nat.lt_of_le_of_lt lX (by decide), ?_⟩
            refine ⟨fun b o h n1 n2 => ?_, _, _, _, _, rfl, upd_same, ?_, ?_⟩
            · rw [upd_ne n1]
              exact sbt _ _ (bU _ _ h n1 n2)
            · rw [noL_upd hfW, esucc, eT, ← List.append_assoc, orgD_append]
              refine (dU.same (noL_same sbt)).append (.cons ?_ .nil)
              show Dq K (noL HW) (.ref bt) (.tuple [.str "base", .int ((i / 2 + 1 : Nat) : Int)])
              rw [show ((i / 2 + 1 : Nat) : Int) = (i : Int) / 2 + 1 by omega]
              exact .tup (SqT.of (noL_tup hbt)) (.cons (.str _) (.cons (.int _) .nil))
            · rw [upd_ne (Ne.symm fg)]
              exact sbt _ _ hgU
        · rw [decide_eq_false (show ¬ (i : Int) / 2 * 2 < (i : Int) by omega)]
          have nst : ¬ StandAt ks i := fun q => od q.2
          rw [if_neg nst, List.append_nil] at eT
          refine iteF ⟨bY, _, _, _, _, rfl, hfY, ?_, ?_⟩
          · rw [esucc, eT]
            exact dY
          · rw [show (i + 1) / 2 = i / 2 by omega]
            exact hgY
    rintro σ Ha ⟨bY, xs, y8, y9, y10, rfl, hfY, dY, hgY⟩
    refine ⟨_, rfl, _, rfl, ll20 (by show 2 ≤ 20; decide), fun t nt => ?_⟩
    have st := same_upd (o := .tup [V.ref Lf, V.ref Lg]) nt
    rw [show (2 * C.s0.length + 1) / 2 = C.s0.length by omega] at hgY
    exact z t Lf Lg xs _ ((sHn.trans (toN bY)).trans st) upd_same (st _ _ hfY) (dY.same (noL_same st)) (st _ _ hgY)
end
end K62
namespace XR
open PySem L2 KT
theorem seq_of {s0 s1 s2 : List Str} {ps qs : List (Nat × Nat)} (h1 : IsDf s0 s1 ps) (h2 : IsDf s0 s2 qs) : KnSeq (knR s0 s1 s2 ps qs) s0.length :=
  kn_seq (blocks_spread h1) (blocks_spread h2) (fun b hb => (blocks_le h1 hb).2.1) (fun b hb => (blocks_le h2 hb).2.1)
theorem MOk.kn {s0 s1 s2 : List Str} {ps qs : List (Nat × Nat)} (m : MOk s0 s1 s2 ps qs) : ∀ k ∈ knR s0 s1 s2 ps qs, KnFact s0 s1 s2 k ∧ k.1.length ≤ 16 ∧ k.2.length ≤ 16 ∧ loN k ≤ 60 ∧ hiN k ≤ 60 := by
  have c0 := blocks_count m.p
  have c1 := blocks_count m.q
  have e0 := df_len m.p
  have e1 := df_len m.q
  have l0 := m.l0
  have sp0 := blocks_spread m.p
  have sp1 := blocks_spread m.q
  have tl : (told (blocksL s0.length s1.length ps) (blocksL s0.length s2.length qs)).length ≤ 16 := by
    rw [told_len]
    omega
  intro k hk
  obtain ⟨i1, i2, kne, n1, n2⟩ := knots_in hk
  have both : ∀ b ∈ k.1 ++ k.2, b.1 ≤ 7 ∧ b.2.1 ≤ 7 := fun b hb => by
    rcases List.mem_append.mp hb with q | q
    · have := blocks_le m.p (i1 b q)
      omega
    · have := blocks_le m.q (i2 b q)
      omega
  refine ⟨⟨fun b hb => ⟨(sp0.good b (i1 b hb)).2.1, (blocks_le m.p (i1 b hb)).2.2.2⟩, fun b hb => ⟨(sp1.good b (i2 b hb)).2.1, (blocks_le m.q (i2 b hb)).2.2.2⟩, kne, by rw [List.length_append]; omega, by omega, by omega, fun b hb => ?_⟩, by omega, by omega, ?_, ?_⟩
  · have := both b hb
    omega
  · unfold loN
    cases e : ((k.1 ++ k.2).map fun b => b.1).min? with
    | none => exact Nat.zero_le _
    | some x =>
      obtain ⟨b, hb, rfl⟩ := List.mem_map.mp (List.min?_eq_some_iff.mp e).1
      have := both b hb
      show b.1 ≤ 60
      omega
  · unfold hiN
    cases e : ((k.1 ++ k.2).map fun b => b.2.1).max? with
    | none => exact Nat.zero_le _
    | some x =>
      obtain ⟨b, hb, rfl⟩ := List.mem_map.mp (List.max?_eq_some_iff.mp e).1
      have := both b hb
      show b.2.1 ≤ 60
      omega
theorem wdk_get {ss : List Str} (w : WdK ss) (i : Nat) : ss.getD i "" ∈ wordsK := by
  rw [List.getD_eq_getElem?_getD]
  by_cases h : i < ss.length
  · rw [List.getElem?_eq_getElem h]
    exact w _ (List.getElem_mem h)
  · rw [List.getElem?_eq_none (by omega)]
    show ("" : Str) ∈ wordsK
    decide +kernel
theorem within_wd {ss : List Str} (w : WdK ss) (ps : List (Nat × Nat)) (bs : List Blk) (a b : Nat) : WdK (withinL ss ps bs a b) := fun s hs => by
  unfold withinL at hs
  obtain ⟨j, _, rfl⟩ := List.mem_map.mp hs
  exact wdk_get w _
theorem within_len {ss : List Str} {ps : List (Nat × Nat)} {bs : List Blk} {a b : Nat} (lp : ps.length ≤ 7) (lb : bs.length ≤ 16) (h : ∀ c ∈ bs, c.2.2.2 ≤ 24) : (withinL ss ps bs a b).length ≤ 391 := by
  unfold withinL withinN
  rw [List.length_map, List.length_mergeSort, List.length_append]
  have := keptIn_len ps a b
  have := numsB_len h
  omega
theorem shw_wd {s : Str} (h : s ∈ wordsK) : Shw 8 1 (.str s) := let ⟨_, _, a, b, c⟩ := wordK_ok s h; ⟨a, b, c⟩
theorem shw_strD {ss : List Str} (w : WdK ss) (l : ss.length ≤ 391) : Shw 3913 2 (strD ss) := by
  refine Shw.tuple (n := 8) (k := 1) (m := 391) (fun d hd => ?_) (by rw [List.length_map]; exact l)
  obtain ⟨s, hs, rfl⟩ := List.mem_map.mp hd
  exact shw_wd (w s hs)
/-- a token of a row as data -/
def TkD (d : PyData) : Prop := (∃ s ∈ wordsK, d = .str s) ∨ ∃ (a b : Nat) (l1 l2 : List Str), d = clashD a b l1 l2 ∧ a ≤ 60 ∧ b ≤ 60 ∧ WdK l1 ∧ WdK l2 ∧ l1.length ≤ 391 ∧ l2.length ≤ 391
theorem TkD.shw {d : PyData} (h : TkD d) : Shw 19578 3 d := by
  rcases h with ⟨s, hs, rfl⟩ | ⟨a, b, l1, l2, rfl, ha, hb, w1, w2, n1, n2⟩
  · exact (shw_wd hs).le (by decide) (by decide)
  · refine Shw.tuple (n := 3913) (k := 2) (m := 5) (fun d hd => ?_) (Nat.le_refl 5)
    have hc : (PyData.str "clash").showable = true ∧ (PyData.str "clash").shown.length ≤ 8 ∧ (PyData.str "clash").depth ≤ 1 := by decide +kernel
    simp only [List.mem_cons, List.not_mem_nil, or_false] at hd
    rcases hd with rfl | rfl | rfl | rfl | rfl
    · exact Shw.le ⟨hc.1, hc.2.1, hc.2.2⟩ (by decide) (by decide)
    · exact (shw_num ha).le (by decide) (by decide)
    · exact (shw_num hb).le (by decide) (by decide)
    · exact shw_strD w1 n1
    · exact shw_strD w2 n2
theorem TkD.form {d : PyData} (h : TkD d) : (∃ s, d = .str s) ∨ ∃ a b c e f, d = .tuple [a, b, c, e, f] := by
  rcases h with ⟨s, _, rfl⟩ | ⟨a, b, l1, l2, rfl, _⟩
  · exact .inl ⟨s, rfl⟩
  · exact .inr ⟨_, _, _, _, _, rfl⟩
theorem strs_tk {ss : List Str} (w : WdK ss) : ∀ d ∈ strsD ss, TkD d := fun d hd => by
  obtain ⟨s, hs, rfl⟩ := List.mem_map.mp hd
  exact .inl ⟨s, w s hs, rfl⟩
theorem seg_wd {ss : List Str} (w : WdK ss) (a b : Nat) : WdK (seg ss a b) := fun s hs => w s (List.mem_of_mem_drop (List.mem_of_mem_take hs))
theorem seg_le (ss : List Str) (a b : Nat) : (seg ss a b).length ≤ ss.length := by
  unfold seg
  rw [List.length_take, List.length_drop]
  omega
theorem put_tk {s0 s1 s2 : List Str} {ps qs : List (Nat × Nat)} (m : MOk s0 s1 s2 ps qs) {k : List Blk × List Blk} (hk : k ∈ knR s0 s1 s2 ps qs) : (∀ d ∈ putL s1 s2 ps qs k, TkD d) ∧ (putL s1 s2 ps qs k).length ≤ 24 := by
  obtain ⟨kf, n1, n2, lo, hi⟩ := m.kn k hk
  have l1 := m.l1
  have l2 := m.l2
  have slen : ∀ (ss : List Str) (a b : Nat), (strsD (seg ss a b)).length ≤ ss.length := fun ss a b => by
    unfold strsD
    rw [List.length_map]
    exact seg_le ss a b
  rcases kind_shape k s1 s2 with e | ⟨e, b, rfl⟩ | ⟨e, b, rfl⟩ | ⟨e, b, c, rfl, _, _, es⟩ | e
  · rw [putL_going e]
    exact ⟨fun d h => (nomatch h), Nat.zero_le _⟩
  · rw [putL_two (kf.i2 b (List.mem_singleton.mpr rfl)).2 e]
    exact ⟨strs_tk (seg_wd m.w2 _ _), Nat.le_trans (slen _ _ _) l2⟩
  · rw [putL_one (kf.i1 b (List.mem_singleton.mpr rfl)).2 e]
    exact ⟨strs_tk (seg_wd m.w1 _ _), Nat.le_trans (slen _ _ _) l1⟩
  · rw [putL_alike (kf.i1 b (List.mem_singleton.mpr rfl)) (kf.i2 c (List.mem_singleton.mpr rfl)) es e]
    exact ⟨strs_tk (seg_wd m.w1 _ _), Nat.le_trans (slen _ _ _) l1⟩
  · rw [putL_clash e]
    refine ⟨fun d hd => ?_, by show 1 ≤ 24; decide⟩
    rw [List.mem_singleton.mp hd]
    have e0 := df_len m.p
    have e1 := df_len m.q
    have l0 := m.l0
    exact .inr ⟨_, _, _, _, rfl, lo, hi, within_wd m.w1 _ _ _ _, within_wd m.w2 _ _ _ _, within_len (by omega) n1 fun c hc => Nat.le_trans (kf.i1 c hc).2 l1, within_len (by omega) n2 fun c hc => Nat.le_trans (kf.i2 c hc).2 l2⟩
theorem row_tk {s0 s1 s2 : List Str} {ps qs : List (Nat × Nat)} (m : MOk s0 s1 s2 ps qs) : (∀ d ∈ rowD s0 s1 s2 ps qs, TkD d) ∧ (rowD s0 s1 s2 ps qs).length ≤ 375 := by
  rw [row_same (seq_of m.p m.q)]
  unfold rowLaw
  have at_ : ∀ p, (∀ d ∈ atP s0 s1 s2 ps qs (knR s0 s1 s2 ps qs) p, TkD d) ∧ (atP s0 s1 s2 ps qs (knR s0 s1 s2 ps qs) p).length ≤ 25 := fun p => by
    unfold atP
    have h2 : (∀ d ∈ (if (∀ k ∈ knR s0 s1 s2 ps qs, ¬ (firstK k ≤ (p : Int) ∧ (p : Int) ≤ lastK k)) ∧ p / 2 * 2 < p then [PyData.str (s0.getD (p / 2) "")] else []), TkD d) ∧ (if (∀ k ∈ knR s0 s1 s2 ps qs, ¬ (firstK k ≤ (p : Int) ∧ (p : Int) ≤ lastK k)) ∧ p / 2 * 2 < p then [PyData.str (s0.getD (p / 2) "")] else []).length ≤ 1 := by
      split
      · exact ⟨fun d hd => by rw [List.mem_singleton.mp hd]; exact .inl ⟨_, wdk_get m.w0 _, rfl⟩, Nat.le_refl _⟩
      · exact ⟨fun d h => (nomatch h), Nat.zero_le _⟩
    generalize (if (∀ k ∈ knR s0 s1 s2 ps qs, ¬ (firstK k ≤ (p : Int) ∧ (p : Int) ≤ lastK k)) ∧ p / 2 * 2 < p then [PyData.str (s0.getD (p / 2) "")] else []) = Z at h2
    cases e : (knR s0 s1 s2 ps qs).find? fun k => decide (firstK k = (p : Int)) with
    | none =>
      dsimp only
      rw [List.nil_append]
      exact ⟨h2.1, Nat.le_trans h2.2 (by decide)⟩
    | some k =>
      obtain ⟨p1, p2⟩ := put_tk m (List.mem_of_find?_eq_some e)
      dsimp only
      refine ⟨fun d hd => ?_, ?_⟩
      · rcases List.mem_append.mp hd with q | q
        · exact p1 d q
        · exact h2.1 d q
      · rw [List.length_append]
        have := h2.2
        omega
  refine ⟨fun d hd => ?_, ?_⟩
  · obtain ⟨p, _, hd⟩ := List.mem_flatMap.mp hd
    exact (at_ p).1 d hd
  · have key : ∀ i : Nat, ((List.range i).flatMap (atP s0 s1 s2 ps qs (knR s0 s1 s2 ps qs))).length ≤ 25 * i := by
      intro i
      induction i with
      | zero => exact Nat.zero_le _
      | succ i ih =>
        rw [List.range_succ, List.flatMap_append, List.length_append]
        simp only [List.flatMap_cons, List.flatMap_nil, List.append_nil]
        have := (at_ i).2
        omega
    have := key (2 * s0.length + 1)
    have := m.l0
    omega
theorem shw_row {s0 s1 s2 : List Str} {ps qs : List (Nat × Nat)} (m : MOk s0 s1 s2 ps qs) : Shw 7342503 4 (.tuple (rowD s0 s1 s2 ps qs)) := by
  obtain ⟨h1, h2⟩ := row_tk m
  exact Shw.tuple (n := 19578) (k := 3) (m := 375) (fun d hd => (h1 d hd).shw) h2
theorem Shw.line7 {n k : Nat} {d : PyData} (h : Shw n k d) (hn : n ≤ 16000000) : d.shown.length ≤ sizeLine := Nat.le_trans h.len (Nat.le_trans hn (by decide))
end XR
namespace XR
open PySem L2 KT
theorem shw_int {i : Int} (h0 : 0 ≤ i) (h1 : i < 268435456) : Shw 29 1 (.int i) := by
  have hl : i.natAbs.log2 < 28 := by
    by_cases e : i.natAbs = 0
    · rw [e]; decide
    · exact (Nat.log2_lt e).mpr (by omega)
  refine ⟨?_, ?_, by simp [PyData.depth]⟩
  · simp only [PyData.showable]
    exact decide_eq_true (by omega)
  · have e : (PyData.int i).shown = Str.ofString (toString i) := by simp [PyData.shown]
    rw [e, PySem.ofString_length]
    exact int_text_length_le (by decide) hl
theorem shw_src {s0 s1 s2 : List Str} (l0 : s0.length ≤ 60) (l1 : s1.length ≤ 60) (l2 : s2.length ≤ 60) {d o : PyData} (h : SrcOf s0 s1 s2 d o) : Shw 96 2 o := by
  have w1 : Shw 29 1 (.str "clash") := ⟨by decide +kernel, by decide +kernel, by decide +kernel⟩
  have w2 : Shw 29 1 (.str "base") := ⟨by decide +kernel, by decide +kernel, by decide +kernel⟩
  have w3 : Shw 29 1 (.str "both") := ⟨by decide +kernel, by decide +kernel, by decide +kernel⟩
  have lt : ∀ {ss : List Str} {i : Nat} {s : Str}, ss[i]? = some s → i < ss.length := fun e => (List.getElem?_eq_some_iff.mp e).1
  have num : ∀ {i : Nat}, i ≤ 900000 → Shw 29 1 (.int (i : Int)) := fun {i} h => shw_int (by omega) (by omega)
  have two : ∀ {a b : PyData}, Shw 29 1 a → Shw 29 1 b → Shw 96 2 (.tuple [a, b]) := fun {a b} ha hb => by
    refine (Shw.tuple (ds := [a, b]) (n := 29) (k := 1) (m := 2) (fun d hd => ?_) (Nat.le_refl 2)).le (by decide) (by decide)
    simp only [List.mem_cons, List.not_mem_nil, or_false] at hd
    rcases hd with rfl | rfl
    · exact ha
    · exact hb
  rcases h with ⟨_, n, rfl, hn⟩ | ⟨i, s, e, _, rfl⟩ | ⟨i, j, s, e, e2, _, rfl⟩ | ⟨i, s, e, _, rfl⟩ | ⟨i, s, e, _, rfl⟩
  · exact two w1 (num hn)
  · exact two w2 (num (by have := lt e; omega))
  · refine (Shw.tuple (ds := [.str "both", .int ((i + 1 : Nat) : Int), .int ((j + 1 : Nat) : Int)]) (n := 29) (k := 1) (m := 3) (fun d hd => ?_) (Nat.le_refl 3)).le (by decide) (by decide)
    simp only [List.mem_cons, List.not_mem_nil, or_false] at hd
    rcases hd with rfl | rfl | rfl
    · exact w3
    · exact num (by have := lt e; omega)
    · exact num (by have := lt e2; omega)
  · exact two (shw_int (by decide) (by decide)) (num (by have := lt e; omega))
  · exact two (shw_int (by decide) (by decide)) (num (by have := lt e; omega))
/-- the row's tokens and their origins -/
structure OrgOk (C : CaseD) : Prop where
  len : (rowP C.s0 C.s1 C.s2 C.ps C.qs).length ≤ 375
  src : ∀ (i : Nat) (t : TokP), (rowP C.s0 C.s1 C.s2 C.ps C.qs)[i]? = some t → ∃ o, (orgD 0 (rowP C.s0 C.s1 C.s2 C.ps C.qs))[i]? = some o ∧ SrcOf C.s0 C.s1 C.s2 t.1 o
  shw : Shw 36800 3 (.list (orgD 0 (rowP C.s0 C.s1 C.s2 C.ps C.qs)))
theorem CaseOk.org {C : CaseD} (ok : CaseOk C) (wd : CaseWd C) : OrgOk C := by
  have len : (rowP C.s0 C.s1 C.s2 C.ps C.qs).length ≤ 375 := by
    have := (row_tk (MOk.of ok wd)).2
    unfold rowD at this
    rw [List.length_map] at this
    exact this
  have src := org_src (rowP C.s0 C.s1 C.s2 C.ps C.qs) 0 (by omega) (row_src ok.kn.2)
  refine ⟨len, src, ?_⟩
  refine (Shw.list (n := 96) (k := 2) (m := 375) (fun d hd => ?_) (by rw [orgD_len]; exact len)).le (by decide) (by decide)
  obtain ⟨i, hi⟩ := List.getElem?_of_mem hd
  have hl := (List.getElem?_eq_some_iff.mp hi).1
  rw [orgD_len] at hl
  obtain ⟨o, ho, hs⟩ := src i _ (List.getElem?_eq_getElem hl)
  rw [hi] at ho
  cases ho
  have l0 := ok.l0
  have l1 := ok.l1
  have l2 := ok.l2
  exact shw_src (by omega) (by omega) (by omega) hs
def fatesD (C : CaseD) : List PyData := ((List.range C.s0.length).map (fateF C.s1 C.s2 (knR C.s0 C.s1 C.s2 C.ps C.qs))).map PyData.str
theorem fate_word (s1 s2 : List Str) (ks : List (List Blk × List Blk)) (i : Nat) : fateF s1 s2 ks i = "stands" ∨ fateF s1 s2 ks i = "clash" ∨ fateF s1 s2 ks i = "gone" := by
  have key : ∀ (L : List (List Blk × List Blk)) (f : Str), (f = "stands" ∨ f = "clash" ∨ f = "gone") → (L.foldl (fun f k => if hitK k i = true then wordF s1 s2 k else f) f = "stands" ∨ L.foldl (fun f k => if hitK k i = true then wordF s1 s2 k else f) f = "clash" ∨ L.foldl (fun f k => if hitK k i = true then wordF s1 s2 k else f) f = "gone") := by
    intro L
    induction L with
    | nil => intro f h; exact h
    | cons k L ih =>
      intro f h
      rw [List.foldl_cons]
      refine ih _ ?_
      split
      · unfold wordF
        split
        · exact .inr (.inl rfl)
        · exact .inr (.inr rfl)
      · exact h
  exact key ks "stands" (.inl rfl)
theorem shw_fates {C : CaseD} (ok : CaseOk C) : Shw 36800 3 (.list (fatesD C)) := by
  refine (Shw.list (n := 8) (k := 1) (m := 7) (fun d hd => ?_) (by unfold fatesD; rw [List.length_map, List.length_map, List.length_range]; exact ok.l0)).le (by decide) (by decide)
  unfold fatesD at hd
  obtain ⟨s, hs, rfl⟩ := List.mem_map.mp hd
  obtain ⟨i, _, rfl⟩ := List.mem_map.mp hs
  rcases fate_word C.s1 C.s2 (knR C.s0 C.s1 C.s2 C.ps C.qs) i with e | e | e <;> rw [e]
  · exact ⟨by decide +kernel, by decide +kernel, by decide +kernel⟩
  · exact ⟨by decide +kernel, by decide +kernel, by decide +kernel⟩
  · exact ⟨by decide +kernel, by decide +kernel, by decide +kernel⟩
theorem dq_tab {K : PySem.W.Frag} {H : Hp} {a : Addr} {m : Nat} {φ : Nat → Str} (h : H a = some (.lst (tabV m φ))) : Dq K H (.ref a) (.list (((List.range m).map φ).map PyData.str)) := .lst (SqL.of h) (dqStrs _)
/-- what the law keeps while it asks -/
structure AskSt (K : PySem.W.Frag) (a T : Addr) (H0 H : Hp) (c ra ta da wa t1 t2 d1 d2 : Addr) (C : CaseD) (lf lg : Addr) (xs : List V) : Prop where
  pot : PotAt H a
  tab : LamX.TabS H T lamQ
  cs : CaseAt' H c ra ta da wa t1 t2 d1 d2 C
  lf : H lf = some (.lst xs)
  ds : DqAll K (noL H) xs (orgD 0 (rowP C.s0 C.s1 C.s2 C.ps C.qs))
  lg : H lg = some (.lst (tabV C.s0.length (fateF C.s1 C.s2 (knR C.s0 C.s1 C.s2 C.ps C.qs))))
  but : But2 a T H0 H
theorem AskSt.same {K : PySem.W.Frag} {a T : Addr} {H0 H H' : Hp} {c ra ta da wa t1 t2 d1 d2 : Addr} {C : CaseD} {lf lg : Addr} {xs : List V} (h : AskSt K a T H0 H c ra ta da wa t1 t2 d1 d2 C lf lg xs) (s : Same H H') : AskSt K a T H0 H' c ra ta da wa t1 t2 d1 d2 C lf lg xs :=
  ⟨h.pot.same s, tabS_same s h.tab, h.cs.same s, s _ _ h.lf, h.ds.same (noL_same s), s _ _ h.lg, h.but.trans (.of s)⟩
theorem AskSt.butT {K : PySem.W.Frag} {a T : Addr} {H0 H H' : Hp} {c ra ta da wa t1 t2 d1 d2 : Addr} {C : CaseD} {lf lg : Addr} {xs : List V} (h : AskSt K a T H0 H c ra ta da wa t1 t2 d1 d2 C lf lg xs) (s : ButT T H H') (t : LamX.TabS H' T lamQ) : AskSt K a T H0 H' c ra ta da wa t1 t2 d1 d2 C lf lg xs :=
  ⟨h.pot.mono (butF h.tab s), t, h.cs.mono (butF h.tab s), butF h.tab s h.lf (fun _ e => nomatch e), h.ds.same (butN h.tab s), butF h.tab s h.lg (fun _ e => nomatch e), h.but.trans fun b o e _ n => s b o e n⟩
end XR
namespace K62
open PySem L2 XR KT
section
variable {P : Program} {w : World} {K : PySem.W.Frag} {mg : Str → Option Value} {base : Heap}
abbrev sRight : Stmt := top 57
abbrev nRight : List Str := ["_law_pot_here", "_law_case_here", "_law_kept", "_law_root", "_law_first", "_law_second_here", "_law_pairs", "_law_more", "_law_sources_here", "_law_fates", "_law_told", "_law_tokens", "_law_token", "_law_source", "_law_again"]
theorem scRight : FnScope nRight ["_law_pot_here"] (defScope sRight) := ⟨rfl, rfl, rfl, by decide +kernel, rfl, by decide +kernel, by decide +kernel⟩
theorem ok_right {f fC fW fT fM fI fF T : Addr} {fd fdC fdW fdT fdM fdI fdF : FuncData} (F : Fun K "_law_right" "_law_right" sRight f fd) (B : Blt mg) (mR : mg "repr" = none)
    (FC : Fun K "_law_case" "_law_case" sCase fC fdC) (GC : FnOk P w K mg base CX0 5 fC fdC ["_law_pot_here", "_law_most"] spCase) (bC : Binds K fdC ["_law_pot_here", "_law_most"] []) (mC : mg "_law_case" = some (.ref fC))
    (FW : Fun K "_law_walk" "_law_walk" sWalk fW fdW) (GW : FnOk P w K mg base CX0 6 fW fdW ["_law_case_here"] (spWalk K)) (bW : Binds K fdW ["_law_case_here"] []) (mW : mg "_law_walk" = some (.ref fW))
    (FT : Fun K "token_origins" "token_origins" sTO fT fdT) (GT : FnOk P w K mg base CX0 10 fT fdT nVers (spTO K T)) (bT : Binds K fdT nVers []) (mT : mg "token_origins" = some (.ref fT))
    (FM : Fun K "merged" "merged" sMerged fM fdM) (GM : FnOk P w K mg base CX0 10 fM fdM nVers (spMerged K T)) (bM : Binds K fdM nVers []) (mM : mg "merged" = some (.ref fM))
    (FI : Fun K "_law_is_from" "_law_is_from" sFrom fI fdI) (GI : FnOk P w K mg base CX0 1 fI fdI nFrom (spFrom K)) (bI : Binds K fdI nFrom []) (mI : mg "_law_is_from" = some (.ref fI))
    (FF : Fun K "line_fates" "line_fates" sFates fF fdF) (GF : FnOk P w K mg base CX0 8 fF fdF nVers (spFates K)) (bF : Binds K fdF nVers []) (mF : mg "line_fates" = some (.ref fF)) :
    FnG P w K mg base 11 f fd ["_law_pot_here"] (spRRight T) := by
  refine okG F scRight (fun vs H Q E h => ?_) (fun cdv A outer s H vs Q E hr hg h => ?_)
  · obtain ⟨a, rfl, _⟩ := h
    rfl
  · obtain ⟨a, rfl, hpot, hT, z⟩ := h
    have hu := hu_of hr
    have hr1 := hr.mono (show 1 ≤ 10 by decide)
    have hr5 := hr.mono (show 5 ≤ 10 by decide)
    have hr6 := hr.mono (show 6 ≤ 10 by decide)
    have hr8 := hr.mono (show 8 ≤ 10 by decide)
    have hr10 := hr
    refine ⟨_, pss_cons (ps_set (i := 1) scRight.nd rfl (.inl rfl) (pe_call GC hr5 rfl mC FC.kp bC .nil pass0 (pa_cons (pv 0) (pa_cons pe_int pa_nil))))
      (pss_cons (ps_set (i := 2) scRight.nd rfl (.inl rfl) (pe_callB (call_reprQ hg hr.units) (by rfl) mR (by decide +kernel) (pa_cons (pv 1) pa_nil)))
      (pss_cons (ps_set (i := 3) scRight.nd rfl (.inl rfl) (pe_dget hu (pv 1) pe_str (fun _ _ => rfl)))
      (pss_cons (ps_asg (pe_dget hu (pv 1) pe_str (fun _ _ => rfl)) (pg_lst rfl (pgs_cons (pg_name (i := 4) scRight.nd rfl (.inl rfl)) (pgs_cons (pg_name (i := 5) scRight.nd rfl (.inl rfl)) pgs_nil))))
      (pss_cons (ps_asg (pe_dget hu (pv 1) pe_str (fun _ _ => rfl)) (pg_lst rfl (pgs_cons (pg_name (i := 6) scRight.nd rfl (.inl rfl)) (pgs_cons (pg_name (i := 7) scRight.nd rfl (.inl rfl)) pgs_nil))))
      (pss_cons (ps_asg (pe_call GW hr6 rfl mW FW.kp bW .nil pass0 (pa_cons (pv 1) pa_nil)) (pg_tup rfl (pgs_cons (pg_name (i := 8) scRight.nd rfl (.inl rfl)) (pgs_cons (pg_name (i := 9) scRight.nd rfl (.inl rfl)) pgs_nil))))
      (pss_cons (ps_set (i := 10) scRight.nd rfl (.inl rfl) (pe_call GT hr10 rfl mT FT.kp bT .nil pass0 (pa_cons (pv 3) (pa_cons (pv 4) (pa_cons (pv 5) (pa_cons (pv 6) (pa_cons (pv 7) pa_nil)))))))
      (pss_cons (ps_if (PW.pt (L2.pw_or (pt_not (pt_val (pe_callB call_isi (by rfl) (B.all "isinstance" (by decide)) (by decide +kernel) (pa_cons (pv 10) (pa_cons (pe_bltn (v := .ty "list") (u := .type "list") (by rfl) (B.all "list" (by decide)) (by decide +kernel) rfl) pa_nil))))) (pw_or1 (pt_cmpR op_ne (pe_callB (call_reprQ hg hr.units) (by rfl) mR (by decide +kernel) (pa_cons (pv 10) pa_nil)) (pe_callB (call_reprQ hg hr.units) (by rfl) mR (by decide +kernel) (pa_cons (pv 8) pa_nil)) (nomark _))))) (pss_one (ps_ret pe_bl)) pss_nil)
      (pss_cons (ps_expr (pe_bm PySem.F.plainAttrs_list PySem.F.slot_list_append PySem.F.type_list_append mt_append (pv 10) (pa_cons pe_non pa_nil)))
      (pss_cons (ps_set (i := 11) scRight.nd rfl (.inl rfl) (pe_call GM hr10 rfl mM FM.kp bM .nil pass0 (pa_cons (pv 3) (pa_cons (pv 4) (pa_cons (pv 5) (pa_cons (pv 6) (pa_cons (pv 7) pa_nil)))))))
      (pss_cons (ps_if (pt_cmpR op_ne (pe_callB call_len_seq (by rfl) B.len PySem.boot_len (pa_cons (pv 11) pa_nil)) (pe_callB call_len_seq (by rfl) B.len PySem.boot_len (pa_cons (pv 8) pa_nil)) (nomark _)) (pss_one (ps_ret pe_bl)) pss_nil)
      (pss_cons (ps_for PassesOwn.never rfl (pi_zipW rfl (B.all "zip" (by decide)) (pa_cons (pv 11) (pa_cons (pv 8) pa_nil))) (pg_tup rfl (pgs_cons (pg_name (i := 12) scRight.nd rfl (.inl rfl)) (pgs_cons (pg_name (i := 13) scRight.nd rfl (.inl rfl)) pgs_nil)))
        (pss_one (ps_if (pt_not (pt_val (pe_call GI hr1 rfl mI FI.kp bI .nil pass0 (pa_cons (pv 1) (pa_cons (pv 12) (pa_cons (pv 13) pa_nil)))))) (pss_one (ps_ret pe_bl)) pss_nil)))
      (pss_cons (ps_set (i := 10) scRight.nd rfl (.inl rfl) (pe_call GF hr8 rfl mF FF.kp bF .nil pass0 (pa_cons (pv 3) (pa_cons (pv 4) (pa_cons (pv 5) (pa_cons (pv 6) (pa_cons (pv 7) pa_nil)))))))
      (pss_cons (ps_if (PW.pt (L2.pw_or (pt_not (pt_val (pe_callB call_isi (by rfl) (B.all "isinstance" (by decide)) (by decide +kernel) (pa_cons (pv 10) (pa_cons (pe_bltn (v := .ty "list") (u := .type "list") (by rfl) (B.all "list" (by decide)) (by decide +kernel) rfl) pa_nil))))) (pw_or1 (pt_cmpR op_ne (pe_callB (call_reprQ hg hr.units) (by rfl) mR (by decide +kernel) (pa_cons (pv 10) pa_nil)) (pe_callB (call_reprQ hg hr.units) (by rfl) mR (by decide +kernel) (pa_cons (pv 9) pa_nil)) (nomark _))))) (pss_one (ps_ret pe_bl)) pss_nil)
      (pss_cons (ps_expr (pe_bm PySem.F.plainAttrs_list PySem.F.slot_list_append PySem.F.type_list_append mt_append (pv 10) (pa_cons pe_non pa_nil)))
      (pss_cons (ps_par3 (i := 3) (j := 4) (l := 5) rfl scRight.nd rfl rfl rfl (by decide) (by decide) (by decide) rfl rfl rfl (pa_cons (pe_callTy call_tuple_of (by rfl) (B.all "tuple" (by decide)) (by decide +kernel) (pa_cons (pv 3) pa_nil)) (pa_cons (pe_callTy call_tuple_of (by rfl) (B.all "tuple" (by decide)) (by decide +kernel) (pa_cons (pv 4) pa_nil)) (pa_cons (pe_callTy call_tuple_of (by rfl) (B.all "tuple" (by decide)) (by decide +kernel) (pa_cons (pv 5) pa_nil)) pa_nil))) rfl)
      (pss_cons (ps_set (i := 14) scRight.nd rfl (.inl rfl) (pe_lst (pa_cons (pe_call GT hr10 rfl mT FT.kp bT .nil pass0 (pa_cons (pv 3) (pa_cons (pv 4) (pa_cons (pv 5) (pa_cons (pv 6) (pa_cons (pv 7) pa_nil)))))) pa_nil)))
      (pss_cons (ps_expr (pe_bm PySem.F.plainAttrs_list PySem.F.slot_list_append PySem.F.type_list_append mt_append (pv 14) (pa_cons (pe_call GF hr8 rfl mF FF.kp bF .nil pass0 (pa_cons (pv 3) (pa_cons (pv 4) (pa_cons (pv 5) (pa_cons (pv 6) (pa_cons (pv 7) pa_nil)))))) pa_nil)))
      (pss_one (ps_ret (pe_and (pe_cmpR op_eq (pe_callB (call_reprQ hg hr.units) (by rfl) mR (by decide +kernel) (pa_cons (pv 14) pa_nil)) (pe_callB (call_reprQ hg hr.units) (by rfl) mR (by decide +kernel) (pa_cons (pe_lst (pa_cons (pv 8) (pa_cons (pv 9) pa_nil))) pa_nil)) (nomark _)) (pe_one (pe_cmpR op_eq (pe_callB (call_reprQ hg hr.units) (by rfl) mR (by decide +kernel) (pa_cons (pv 1) pa_nil)) (pv 2) (nomark _))))))))))))))))))))))), ?_⟩
    refine ⟨_, rfl, a, rfl, hpot, fun c ra ta da wa t1 t2 d1 d2 C H1 hp1 b1 nc hc ok wd => ?_⟩
    have SC := shw_case ok wd
    have OK := ok.org wd
    have SF := shw_fates ok
    have l0 := ok.l0
    have l1' := ok.l1
    have l2' := ok.l2
    obtain ⟨x1, x2, epot, _⟩ := id hpot
    have hT1 := tabS_butL epot b1 hT
    refine ⟨_, rfl, .ref c, caseD C, rfl, hc.dq, SC.ok, SC.lineB (by decide), SC.low (by decide), ?_⟩
    refine ⟨_, rfl, c, _, rfl, hc.g1, ?_⟩
    refine ⟨_, rfl, c, _, rfl, hc.g2, ta, _, rfl, SqL.of hc.t, rfl, _, _, rfl, _, _, rfl, rfl, ?_⟩
    refine ⟨_, rfl, c, _, rfl, hc.g3, da, _, rfl, SqL.of hc.d, rfl, _, _, rfl, _, _, rfl, rfl, ?_⟩
    refine ⟨_, rfl, c, ra, ta, da, wa, t1, t2, d1, d2, C, rfl, hc, ok, wd, fun tw lf lg xs H2 s2 htw hlf hds hlg => ?_⟩
    refine ⟨tw, _, rfl, SqT.of htw, rfl, _, _, rfl, _, _, rfl, rfl, ?_⟩
    have S2 : AskSt K a T H H2 c ra ta da wa t1 t2 d1 d2 C lf lg xs := ⟨hp1.same s2, tabS_same s2 hT1, hc.same s2, hlf, hds, hlg, fun b o e n _ => s2 _ _ (b1 _ _ e n)⟩
    have MO := MOk.of ok wd
    have rin : ∀ {Hx : Hp}, CaseAt' Hx c ra ta da wa t1 t2 d1 d2 C → RowIn K Hx (.ref ra) (.ref t1) (.ref t2) (.ref d1) (.ref d2) C.s0 C.s1 C.s2 C.ps C.qs := fun {Hx} h => rowIn_of MO h.r h.x h.y h.p.v h.q.v
    have dql : ∀ {Hx : Hp} {l : Addr} {ys : List V}, Hx l = some (.lst ys) → DqAll K (noL Hx) ys (orgD 0 (rowP C.s0 C.s1 C.s2 C.ps C.qs)) → Dq K Hx (.ref l) (.list (orgD 0 (rowP C.s0 C.s1 C.s2 C.ps C.qs))) := fun {Hx l ys} h d => .lst (SqL.of h) (d.same noL_le)
    have dqf : ∀ {Hx : Hp} {l : Addr}, Hx l = some (.lst (tabV C.s0.length (fateF C.s1 C.s2 (knR C.s0 C.s1 C.s2 C.ps C.qs)))) → Dq K Hx (.ref l) (.list (fatesD C)) := fun {Hx l} h => dq_tab h
    -- token_origins
    refine ⟨_, rfl, _, rfl, _, rfl, _, rfl, _, rfl, _, _, _, _, _, C.s0, C.s1, C.s2, C.ps, C.qs, rfl, rin S2.cs, by omega, S2.tab, fun l3 H3 xs3 k3 hT3 nl3 hl3 hds3 => ?_⟩
    have S3 := S2.butT k3 hT3
    refine ⟨_, rfl, .ref l3, _, _, _, _, rfl, .ty "list", (dql hl3 hds3).ty, kit_ty (kit_list (.list (orgD 0 (rowP C.s0 C.s1 C.s2 C.ps C.qs)))), _, rfl, iteF ?_⟩
    refine ⟨_, rfl, _, _, rfl, dql hl3 hds3, OK.shw.ok, OK.shw.lineB (by decide), OK.shw.low (by decide), _, rfl, _, _, rfl, dql S3.lf S3.ds, OK.shw.ok, OK.shw.lineB (by decide), OK.shw.low (by decide), rfl, _, rfl, ?_⟩
    rw [decide_eq_true rfl]
    refine iteF ?_
    have lx3 : xs3.length ≤ 375 := by rw [hds3.length, orgD_len]; exact OK.len
    refine ⟨_, rfl, .inl ⟨rfl, _, SqL.of hl3⟩, l3, _, _, rfl, rfl, hl3, Nat.lt_of_le_of_lt lx3 (by decide), ?_⟩
    have B4 : ButT T H2 (upd H3 l3 (.lst (xs3 ++ [V.non]))) := fun b o e n => by
      rw [upd_ne (ne_of_none e nl3)]
      exact k3 _ _ e n
    have S4 := S2.butT B4 (tabS_updL hl3 hT3)
    generalize upd H3 l3 (.lst (xs3 ++ [V.non])) = H4 at S4 ⊢
    clear B4 S3
    -- merged
    refine ⟨_, rfl, _, rfl, _, rfl, _, rfl, _, rfl, _, _, _, _, _, C.s0, C.s1, C.s2, C.ps, C.qs, rfl, rin S4.cs, by omega, S4.tab, fun tt H5 xs5 k5 hT5 ntt htt hds5 => ?_⟩
    have S5 := S4.butT k5 hT5
    have le5 : xs5.length = (rowP C.s0 C.s1 C.s2 C.ps C.qs).length := by rw [hds5.length]; unfold rowD; rw [List.length_map]
    have le2 : xs.length = (rowP C.s0 C.s1 C.s2 C.ps C.qs).length := by rw [S5.ds.length, orgD_len]
    refine ⟨_, rfl, tt, _, rfl, .inr (SqT.of htt), _, rfl, lf, _, rfl, .inl (SqL.of S5.lf), rfl, _, rfl, ?_⟩
    rw [le5, le2, decide_eq_true rfl]
    refine iteF ?_
    refine ⟨_, rfl, _, rfl, tt, lf, _, _, false, true, rfl, SqT.of htt, SqL.of S5.lf, ?_⟩
    refine for_it (walk_zipW (n := (rowP C.s0 C.s1 C.s2 C.ps C.qs).length) (by rw [le5, le2, Nat.min_self])) (fun i σ H' => Same H5 H' ∧ ∃ y12 y13, σ = [some (V.ref a), some (V.ref c), some (V.str (caseD C).shown), some (V.ref ra), some (V.ref t1), some (V.ref t2), some (V.ref d1), some (V.ref d2), some (V.ref lf), some (V.ref lg), some (V.ref l3), some (V.ref tt), y12, y13, none])
      ⟨fun _ _ e => e, _, _, rfl⟩ (fun i σ H' _ hh => ⟨SqT.of (hh.1 _ _ htt), SqL.of (hh.1 _ _ S5.lf)⟩) ?_ ?_
    · rintro i v σ Ha Hb hi ⟨sm, y12, y13, rfl⟩ ⟨T0, y1, y2, rfl, nT, rfl, e1, e2⟩
      have sT := same_upd (o := .tup [y1, y2]) nT
      have hT0 := upd_same (H := Ha) (a := T0) (o := .tup [y1, y2])
      generalize upd Ha T0 (.tup [y1, y2]) = Hb at sT hT0 ⊢
      have sb := sm.trans sT
      obtain ⟨o, ho, hs⟩ := OK.src i _ (List.getElem?_eq_getElem hi)
      obtain ⟨d', hd1, hd2⟩ := hds5.get e1
      obtain ⟨o', ho1, ho2⟩ := S5.ds.get e2
      rw [ho] at ho1
      cases ho1
      have ed : d' = (rowP C.s0 C.s1 C.s2 C.ps C.qs)[i].1 := by
        unfold rowD at hd1
        rw [List.getElem?_map, List.getElem?_eq_getElem hi] at hd1
        exact (Option.some.inj hd1).symm
      subst ed
      refine ⟨T0, _, rfl, SqT.of hT0, rfl, _, _, rfl, _, _, rfl, rfl, ?_⟩
      exact ⟨_, rfl, _, rfl, _, rfl, c, ra, ta, da, wa, t1, t2, d1, d2, C, y1, y2, _, _, rfl, S5.cs.same sb, (hd2.same noL_le).same sb, (ho2.same noL_le).same sb, hs, fun H' s' => ⟨_, rfl, iteF ⟨sb.trans s', _, _, rfl⟩⟩⟩
    rintro σ H6 ⟨s6, y12, y13, rfl⟩
    have S6 := S5.same s6
    clear S5 S4
    -- line_fates
    refine ⟨_, rfl, _, rfl, _, rfl, _, rfl, _, rfl, _, _, _, _, _, C.s0, C.s1, C.s2, C.ps, C.qs, rfl, rin S6.cs, by omega, fun l7 H7 s7 nl7 hl7 => ?_⟩
    have S7 := S6.same s7
    refine ⟨_, rfl, .ref l7, _, _, _, _, rfl, .ty "list", (dqf hl7).ty, kit_ty (kit_list (.list (fatesD C))), _, rfl, iteF ?_⟩
    refine ⟨_, rfl, _, _, rfl, dqf hl7, SF.ok, SF.lineB (by decide), SF.low (by decide), _, rfl, _, _, rfl, dqf S7.lg, SF.ok, SF.lineB (by decide), SF.low (by decide), rfl, _, rfl, ?_⟩
    rw [decide_eq_true rfl]
    refine iteF ?_
    refine ⟨_, rfl, .inl ⟨rfl, _, SqL.of hl7⟩, l7, _, _, rfl, rfl, hl7, by rw [tabV_len]; exact Nat.lt_of_le_of_lt l0 (by decide), ?_⟩
    have B8 : Same H6 (upd H7 l7 (.lst (tabV C.s0.length (fateF C.s1 C.s2 (knR C.s0 C.s1 C.s2 C.ps C.qs)) ++ [V.non]))) := fun b o e => by
      rw [upd_ne (ne_of_none e nl7)]
      exact s7 _ _ e
    have S8 := S6.same B8
    generalize upd H7 l7 (.lst (tabV C.s0.length (fateF C.s1 C.s2 (knR C.s0 C.s1 C.s2 C.ps C.qs)) ++ [V.non])) = H8 at S8 ⊢
    clear B8 S7 S6
    -- tuples
    refine ⟨_, rfl, ra, _, rfl, .inl ⟨SqL.of S8.cs.r, fun u0 nu0 => ?_⟩⟩
    have su0 := same_upd (o := .tup (C.s0.map V.str)) nu0
    have hu0 := upd_same (H := H8) (a := u0) (o := .tup (C.s0.map V.str))
    generalize upd H8 u0 (.tup (C.s0.map V.str)) = H9 at su0 hu0 ⊢
    have S9 := S8.same su0
    refine ⟨_, rfl, t1, _, rfl, .inl ⟨SqL.of S9.cs.x, fun u1 nu1 => ?_⟩⟩
    have su1 := same_upd (o := .tup (C.s1.map V.str)) nu1
    have hu1 := upd_same (H := H9) (a := u1) (o := .tup (C.s1.map V.str))
    generalize upd H9 u1 (.tup (C.s1.map V.str)) = G0 at su1 hu1 ⊢
    have S10 := S9.same su1
    refine ⟨_, rfl, t2, _, rfl, .inl ⟨SqL.of S10.cs.y, fun u2 nu2 => ⟨_, _, _, rfl, ?_⟩⟩⟩
    have su2 := same_upd (o := .tup (C.s2.map V.str)) nu2
    have hu2 := upd_same (H := G0) (a := u2) (o := .tup (C.s2.map V.str))
    generalize upd G0 u2 (.tup (C.s2.map V.str)) = G1 at su2 hu2 ⊢
    have S11 := S10.same su2
    have hu0' := su2 _ _ (su1 _ _ hu0)
    have hu1' := su2 _ _ hu1
    have rin2 : ∀ {Hx : Hp}, CaseAt' Hx c ra ta da wa t1 t2 d1 d2 C → Hx u0 = some (.tup (C.s0.map V.str)) → Hx u1 = some (.tup (C.s1.map V.str)) → Hx u2 = some (.tup (C.s2.map V.str)) → RowIn K Hx (.ref u0) (.ref u1) (.ref u2) (.ref d1) (.ref d2) C.s0 C.s1 C.s2 C.ps C.qs := fun {Hx} h g0 g1 g2 =>
      ⟨tup_textL (SqT.of g0) wd.w0.lns (by omega), tup_textL (SqT.of g1) wd.w1.lns (by omega), tup_textL (SqT.of g2) wd.w2.lns (by omega), h.p.v, ok.p, h.q.v, ok.q, wd.w1.oks, wd.w2.oks⟩
    refine ⟨_, rfl, _, rfl, _, rfl, _, rfl, _, rfl, _, _, _, _, _, C.s0, C.s1, C.s2, C.ps, C.qs, rfl, rin2 S11.cs hu0' hu1' hu2, by omega, S11.tab, fun la G2 xa ka hTa nla hla hda => ?_⟩
    have S12 := S11.butT ka hTa
    have g0 := butF S11.tab ka hu0' (fun _ e => nomatch e)
    have g1 := butF S11.tab ka hu1' (fun _ e => nomatch e)
    have g2 := butF S11.tab ka hu2 (fun _ e => nomatch e)
    refine ⟨ll20 (by show 1 ≤ 20; decide), fun ag nag => ?_⟩
    have sag := same_upd (o := .lst [V.ref la]) nag
    have hag := upd_same (H := G2) (a := ag) (o := .lst [V.ref la])
    generalize upd G2 ag (.lst [V.ref la]) = G3 at sag hag ⊢
    have S13 := S12.same sag
    refine ⟨_, rfl, .inl ⟨rfl, _, SqL.of hag⟩, _, rfl, _, rfl, _, rfl, _, rfl, _, rfl, _, _, _, _, _, C.s0, C.s1, C.s2, C.ps, C.qs, rfl, rin2 S13.cs (sag _ _ g0) (sag _ _ g1) (sag _ _ g2), by omega, fun lb G4 sb nlb hlb => ?_⟩
    have S14 := S13.same sb
    have hag4 := sb _ _ hag
    refine ⟨ag, _, _, rfl, rfl, hag4, by show 1 < sizeLine; decide, ?_⟩
    have B15 : Same G2 (upd G4 ag (.lst ([V.ref la] ++ [V.ref lb]))) := fun b o e => by
      rw [upd_ne (ne_of_none e nag)]
      exact sb _ _ (sag _ _ e)
    have S15 := S12.same B15
    have hag5 := upd_same (H := G4) (a := ag) (o := .lst ([V.ref la] ++ [V.ref lb]))
    have hlb5 : upd G4 ag (.lst ([V.ref la] ++ [V.ref lb])) lb = some (.lst (tabV C.s0.length (fateF C.s1 C.s2 (knR C.s0 C.s1 C.s2 C.ps C.qs)))) := by
      rw [upd_ne (fun e => by rw [e, hag] at nlb; cases nlb)]
      exact hlb
    have hla5 := B15 _ _ hla
    have hda5 := hda.same (noL_same B15)
    generalize upd G4 ag (.lst ([V.ref la] ++ [V.ref lb])) = G5 at S15 hag5 hlb5 hla5 hda5 ⊢
    have SA : Shw 100000 4 (.list [.list (orgD 0 (rowP C.s0 C.s1 C.s2 C.ps C.qs)), .list (fatesD C)]) := by
      refine (Shw.list (ds := [.list (orgD 0 (rowP C.s0 C.s1 C.s2 C.ps C.qs)), .list (fatesD C)]) (n := 36800) (k := 3) (m := 2) (fun d hd => ?_) (Nat.le_refl 2)).le (by decide) (by decide)
      simp only [List.mem_cons, List.not_mem_nil, or_false] at hd
      rcases hd with rfl | rfl
      · exact OK.shw
      · exact SF
    refine ⟨_, rfl, _, _, rfl, .lst (SqL.of hag5) (.cons (dql hla5 hda5) (.cons (dqf hlb5) .nil)), SA.ok, SA.lineB (by decide), SA.low (by decide), ?_⟩
    refine ⟨_, rfl, _, rfl, ll20 (by show 2 ≤ 20; decide), fun pr npr => ?_⟩
    have spr := same_upd (o := .lst [V.ref lf, V.ref lg]) npr
    have hpr := upd_same (H := G5) (a := pr) (o := .lst [V.ref lf, V.ref lg])
    generalize upd G5 pr (.lst [V.ref lf, V.ref lg]) = G6 at spr hpr ⊢
    have S16 := S15.same spr
    refine ⟨_, _, rfl, .lst (SqL.of hpr) (.cons (dql S16.lf S16.ds) (.cons (dqf S16.lg) .nil)), SA.ok, SA.lineB (by decide), SA.low (by decide), rfl, _, rfl, ?_⟩
    rw [decide_eq_true rfl]
    refine iteT ⟨_, rfl, _, _, rfl, S16.cs.dq, SC.ok, SC.lineB (by decide), SC.low (by decide), _, rfl, rfl, ?_⟩
    rw [decide_eq_true rfl]
    exact z _ S16.pot S16.tab S16.but
end
end K62
namespace K62
open PySem L2 XR KT
section
variable {P : Program} {w : World} {K : PySem.W.Frag} {mg : Str → Option Value} {base : Heap}
abbrev sLaw : Stmt := top 58
theorem scLaw : FnScope ["_law_script", "_law_k"] ["_law_script"] (defScope sLaw) := ⟨rfl, rfl, rfl, by decide +kernel, rfl, by decide +kernel, by decide +kernel⟩
theorem ok_law {f fPot fR T0 : Addr} {fd fdPot fdR : FuncData} (F : Fun K "law" "law" sLaw f fd) (T : Blt mg)
    (FPot : Fun K "_law_pot" "_law_pot" sPot fPot fdPot) (GPot : FnOk P w K mg base CX0 1 fPot fdPot ["_law_script", "_law_index"] (spPot K)) (bPot : Binds K fdPot ["_law_script", "_law_index"] []) (mPot : mg "_law_pot" = some (.ref fPot))
    (FR : Fun K "_law_right" "_law_right" sRight fR fdR) (GR : FnG P w K mg base 11 fR fdR ["_law_pot_here"] (spRRight T0)) (bR : Binds K fdR ["_law_pot_here"] []) (mR : mg "_law_right" = some (.ref fR)) : FnG P w K mg base 12 f fd ["_law_script"] (spLaw K T0) := by
  refine okG F scLaw (fun vs H Q E h => ?_) (fun cdv A outer s H vs Q E hr hg h => ?_)
  · obtain ⟨a, ns, rfl, _⟩ := h
    rfl
  · obtain ⟨a, ns, rfl, hS, hn, hT, z⟩ := h
    have hr1 := hr.mono (show 1 ≤ 11 by decide)
    refine ⟨_, pss_one (ps_ret (pe_callB (cr_all rfl) (by rfl) (T.all "all" (by decide)) (by decide +kernel) (pa_cons (pe_lc (own := [("_law_k", 1)]) (g := gName 1) (tt := tYes) (te := tCall (spRRight T0) [] E0 (tCons (tCall (spPot K) [] E0 (tCons (tVar 0) (tCons (tVar 1) tNil))) tNil)) rfl scLaw.nd
        (pi_range1 rfl T.range (pa_cons (pe_callB (call_max2 rfl) (by rfl) T.max (by decide +kernel) (pa_cons pe_int (pa_cons (pe_callB (call_min2 rfl) (by rfl) T.min (by decide +kernel) (pa_cons pe_int (pa_cons (pe_callB call_len_seq (by rfl) T.len PySem.boot_len (pa_cons (pv 0) pa_nil)) pa_nil))) pa_nil))) pa_nil))
        (blkOk_by (own := [("_law_k", 1)]) (N := ["_law_script", "_law_k"]) (sc := defScope sLaw) (by decide +kernel)) (fun _ _ _ _ _ => pg_name (i := 1) scLaw.nd rfl (.inl rfl)) (fun _ _ _ _ _ => pts_nil)
        (fun _ _ _ _ _ => pe_callG GR hg hr rfl mR FR.kp bR (pa_cons (pe_call GPot hr1 rfl mPot FPot.kp bPot .nil pass0 (pa_cons (pv 0) (pa_cons (pv 1) pa_nil))) pa_nil))) pa_nil))), ?_⟩
    have hbd : ∀ L : Int, 0 ≤ L → 1 ≤ (if (if L < 4 then L else 4) > 1 then (if L < 4 then L else 4) else 1) ∧ (if (if L < 4 then L else 4) > 1 then (if L < 4 then L else 4) else 1) ≤ 4 := by
      intro L hL
      split <;> split <;> omega
    refine ⟨_, rfl, a, _, rfl, .inl hS, _, _, rfl, _, _, rfl, ?_⟩
    obtain ⟨b1, b2⟩ := hbd ((ns.map V.int).length : Int) (by omega)
    revert b1 b2
    generalize (if (if ((ns.map V.int).length : Int) < 4 then ((ns.map V.int).length : Int) else 4) > 1 then (if ((ns.map V.int).length : Int) < 4 then ((ns.map V.int).length : Int) else 4) else 1) = m
    intro b1 b2
    refine ⟨m, rfl, by omega, by omega, fun D nD => ?_⟩
    refine lc_range (n := m.toNat) (fun j Hx => ButT T0 H Hx ∧ LamX.TabS Hx T0 lamQ ∧ Hx D = some (.lst ((List.replicate j true).map V.bl))) ⟨.of (same_upd nD), tabS_same (same_upd nD) hT, upd_same⟩ ?_ ?_
    · rintro j Hx hj ⟨bx, hTx, hD⟩
      refine ⟨wipe_one, ?_⟩
      unfold tYes
      dsimp only
      rw [if_pos rfl]
      refine ⟨_, rfl, _, rfl, a, ns, j, by rw [Int.zero_add]; rfl, seqL_butT hT bx hS, hn, by omega, fun p H1 s1 n1 hp1 => ?_⟩
      have pD : D ≠ p := ne_of_none hD n1
      have DT : D ≠ T0 := fun e => by
        obtain ⟨ps, h1, _⟩ := hTx
        rw [e, h1] at hD
        cases hD
      refine ⟨p, rfl, hp1, tabS_same s1 hTx, fun H2 hp2 hT2 b2' => ?_⟩
      have hD2 := b2' _ _ (s1 _ _ hD) pD DT
      have keep : ∀ b o, Hx b = some o → b ≠ T0 → H2 b = some o := fun b o e n => b2' _ _ (s1 _ _ e) (ne_of_none e n1) n
      refine ⟨_, hD2, ?_, fun b o h n => ?_, ?_, ?_⟩
      · rw [List.length_map, List.length_replicate]
        exact Nat.lt_of_lt_of_le hj (Nat.le_trans (show m.toNat ≤ 4 by omega) (by decide))
      · rw [upd_ne (ne_of_none h nD)]
        exact keep _ _ (bx _ _ h n) n
      · exact tabS_updL hD2 hT2
      · rw [upd_same, List.replicate_succ', List.map_append]
        rfl
    rintro H2 ⟨b2, hT2, hD⟩
    refine ⟨D, _, rfl, SqL.of hD, ?_⟩
    have e : (List.replicate m.toNat true).all id = true := by
      rw [List.all_eq_true]
      intro x hx
      rw [List.eq_of_mem_replicate hx]
      rfl
    rw [e]
    exact z _
end
end K62
/-! What the heap behind the top says of an own class of exceptions with one field, in one structure. -/
namespace XR
open PySem L2
open PySem.W (ksFn XL)
def fileIs (P : Program) (K : PySem.W.Frag) (a : Addr) : Bool := match K.lookup a with
  | some ⟨_, _, .fields vs, _⟩ => match (vs[2]? : Option Value) with
    | some (.str file _) => (P.main.file : Str) == file
    | _ => false
  | _ => false
def holdsCls (K : PySem.W.Frag) (a C : Addr) : Bool := match K.lookup a with
  | some ⟨_, _, .cell (some (.ref c)), _⟩ => c == C
  | _ => false
theorem fileIs_of {P : Program} {K : PySem.W.Frag} {a : Addr} (h : fileIs P K a = true) : ∃ x y vs c file tf, K.lookup a = some ⟨x, y, .fields vs, c⟩ ∧ vs[2]? = some (.str file tf) ∧ ((P.main.file : Str) == file) = true := by
  unfold fileIs at h
  split at h
  · rename_i x y vs c e
    split at h
    · rename_i file tf e2
      exact ⟨x, y, vs, c, file, tf, e, e2, h⟩
    · cases h
  · cases h
theorem holdsCls_of {K : PySem.W.Frag} {a C : Addr} (h : holdsCls K a C = true) : ∃ x y c, K.lookup a = some ⟨x, y, .cell (some (.ref C)), c⟩ := by
  unfold holdsCls at h
  split at h
  · rename_i x y c z e
    have : c = C := by simpa using h
    subst this
    exact ⟨x, y, z, e⟩
  · cases h
/-- B: the built-in class above; q: the name of __init__; fld: the field; f, c, d: where __init__, its cell and its code stand -/
structure ClsF (P : Program) (K : PySem.W.Frag) (B newId initId : String) (bmB : List Value) (q fld : Str) (C f c d : Addr) : Prop where
  kp : PySem.W.keepIn K (.ref C) = true
  ei : PySem.W.excInitIn K C bmB newId = true
  ov : PySem.W.excOver K C bmB = true
  di : PySem.W.hasDictIn K C = true
  sa : PySem.W.findIn K (.ref C) "__setattr__" = some (some (.builtin "object.__setattr__"))
  su : PySem.W.ks_superIn K C C "__init__" = some (some (.builtin initId))
  sb : PySem.W.subIn K (.ref C) (.type B) = some true
  me : PySem.W.mroIn K C (.ref C) = some true
  fn : PySem.W.isFn K (.ref f) = true
  cod : PySem.W.codeIn K (.ref d) q = true
  cfl : fileIs P K d = true
  cel : holdsCls K c C = true
  tk : PySem.W.takerIn K C fld = some none
  nf : PySem.W.findIn K (.ref C) fld = some none
  cls : (PySem.W.clsIn K C).isSome = true
  ga : PySem.W.findIn K (.ref C) "__getattribute__" = some (some (.builtin "BaseException.__getattribute__"))
  gt : PySem.W.findIn K (.ref C) "__getattr__" = some none
  sB : PySem.W.subIn K (.ref C) (.type "BaseException") = some true
  ca : PySem.W.findIn K (.ref C) "__class__" = some (some (.builtin "object.__class__"))
  mo : PySem.W.mroIn K C (.type "object") = some true
  tP : PySem.W.typeIn K (.ref C) = some (.type "type")
  op : PySem.W.nsIn K cStatics "thirdparty.any" = some none
  sp : PySem.W.specialIn K (.builtin "object.__class__") "__get__" = some (some (.builtin "getset_descriptor.__get__"))
  tks : PySem.W.takesIn K (.builtin "object.__class__") = some true
theorem xok_of {P : Program} {K : PySem.W.Frag} {mg : Str → Option Value} {B newId initId : String} {bmB : List Value} {x q fld : Str} {C f c d : Addr} (S : ClsF P K B newId initId bmB q fld C f c d) (g : mg x = some (.ref C))
    (mx : MkX K P C none 1 (fvOne fld)) : XOk P K mg x C 1 (fvOne fld) where
  mx := mx
  ne := fun vs _ h => nomatch h
  kp := S.kp
  bP := S.sB
  tP := S.tP
  g := g
  rd := ⟨S.cls, S.ga, S.gt, S.sB, S.di, S.ca, S.sp, S.tks, S.mo⟩
  nf := fun vs y hy => by
    have e : y = (fld, vs.getD 0 .non) := by simpa [fvOne] using hy
    rw [e]
    exact S.nf
end XR
namespace K62
open PySem L2 XR
open PySem.W (ksFn XL)
abbrev prg : Program := PySem.Challenge.rw_alldiffs_k62_origins_and_fates.prog
abbrev ini (i : Nat) : Stmt := inClass (top i) 0
abbrev iFn (i : Nat) (qual : Str) (kV doc pm : Value) (an : Option Addr) (cda : Addr) (ct : Value) (cc : Addr) : FuncData :=
  ksFn "__init__" qual (defArgs (ini i)) (defBody (ini i)) (defScope (ini i)) .none kV doc pm an (.ref cda) ct cc
def CInit (K : PySem.W.Frag) (i : Nat) (q : Str) (f cc cda : Addr) : Prop := ∃ oc od osl kV doc pm an ct, K.lookup f = some ⟨oc, od, .func (iFn i q kV doc pm an cda ct cc), osl⟩
section
variable {K : PySem.W.Frag} {C fI cc cda : Addr} {B newId initId : String} {bmB : List Value} {kV doc pm ct : Value} {an : Option Addr}
theorem mkc_InvalidText (X : XCls K prg C fI cc cda B newId initId bmB (iFn 2 "InvalidText.__init__" kV doc pm an cda ct cc)) (tk : PySem.W.takerIn K C "value" = some none) : MkX K prg C none 1 (fvOne "value") := by
    refine ⟨by decide, fI, cc, cda, B, newId, initId, bmB, _, "this is no text: a list of at most 60 lines", 0, ⟨7, 8, 7, 13⟩, ⟨7, 8, 7, 15⟩, ⟨7, 8, 7, 24⟩, ⟨7, 25, 7, 70⟩, ⟨7, 8, 7, 71⟩, ⟨7, 8, 7, 71⟩, fun us => [⟨"value", "value", us.getD 0 .none, ⟨8, 8, 8, 12⟩, ⟨8, 8, 8, 18⟩, ⟨8, 21, 8, 26⟩, ⟨8, 8, 8, 26⟩⟩], fun us => [("value", us.getD 0 .none)], X, fun us hl => ?_⟩
    match us, hl with
    | [u], _ =>
      refine ⟨⟨⟨_, _, _, _, _, _, _, _, _, _, rfl, ⟨_, rfl, rfl⟩, rfl, rfl, rfl, rfl, fun L => ⟨_, rfl⟩, by decide +kernel, rfl, rfl, fun L x hx => ?_⟩, by decide +kernel⟩, by show 1 ≤ 900; decide, fun e s => .of_eq rfl, fun e x hx => ?_, fun e => rfl, fun e x hx => ?_, fun vs r => ?_⟩
      · cases hx with
        | head => exact ⟨rfl, rfl, rfl⟩
        | tail _ h => cases h
      · cases hx with
        | head => rfl
        | tail _ hx =>
          cases hx with
          | head => rfl
          | tail _ hx => cases hx
      · cases hx with
        | head => exact ⟨rfl, tk⟩
        | tail _ h => cases h
      · cases r with
        | cons a b =>
          cases b
          exact .cons ⟨rfl, a⟩ .nil
theorem xok_InvalidText {mg : Str → Option Value} {h : Heap} (X : K.In h) (G : h.Ns mainGlobals mg) (g : PySem.W.nsIn K mainGlobals "InvalidText" = some (some (.ref C))) (a : PySem.W.findIn K (.ref C) "__init__" = some (some (.ref fI))) (i : CInit K 2 "InvalidText.__init__" fI cc cda)
    (S : ClsF prg K "ValueError" "ValueError.__new__" "ValueError.__init__" [.type "ValueError", .type "Exception", .type "BaseException", .type "object"] "InvalidText.__init__" "value" C fI cc cda) : XOk prg K mg "InvalidText" C 1 (fvOne "value") := by
  obtain ⟨oc, od, osl, kV, doc, pm, an, ct, lk⟩ := i
  exact xok_of S (PySem.W.mg_of X G g) (mkc_InvalidText ⟨PySem.F.excBase_ValueError, PySem.F.store_ValueError, PySem.W.kxs_ValueError, S.ei, S.ov, S.di, S.sa, S.su, S.sb, S.me, S.op, a, S.fn, ⟨oc, od, osl, lk⟩, S.cod, fileIs_of S.cfl, holdsCls_of S.cel, S.kp⟩ S.tk)
theorem mkc_InvalidDiff (X : XCls K prg C fI cc cda B newId initId bmB (iFn 3 "InvalidDiff.__init__" kV doc pm an cda ct cc)) (tk : PySem.W.takerIn K C "value" = some none) : MkX K prg C none 1 (fvOne "value") := by
    refine ⟨by decide, fI, cc, cda, B, newId, initId, bmB, _, "this is no diff of these texts", 0, ⟨12, 8, 12, 13⟩, ⟨12, 8, 12, 15⟩, ⟨12, 8, 12, 24⟩, ⟨12, 25, 12, 57⟩, ⟨12, 8, 12, 58⟩, ⟨12, 8, 12, 58⟩, fun us => [⟨"value", "value", us.getD 0 .none, ⟨13, 8, 13, 12⟩, ⟨13, 8, 13, 18⟩, ⟨13, 21, 13, 26⟩, ⟨13, 8, 13, 26⟩⟩], fun us => [("value", us.getD 0 .none)], X, fun us hl => ?_⟩
    match us, hl with
    | [u], _ =>
      refine ⟨⟨⟨_, _, _, _, _, _, _, _, _, _, rfl, ⟨_, rfl, rfl⟩, rfl, rfl, rfl, rfl, fun L => ⟨_, rfl⟩, by decide +kernel, rfl, rfl, fun L x hx => ?_⟩, by decide +kernel⟩, by show 1 ≤ 900; decide, fun e s => .of_eq rfl, fun e x hx => ?_, fun e => rfl, fun e x hx => ?_, fun vs r => ?_⟩
      · cases hx with
        | head => exact ⟨rfl, rfl, rfl⟩
        | tail _ h => cases h
      · cases hx with
        | head => rfl
        | tail _ hx =>
          cases hx with
          | head => rfl
          | tail _ hx => cases hx
      · cases hx with
        | head => exact ⟨rfl, tk⟩
        | tail _ h => cases h
      · cases r with
        | cons a b =>
          cases b
          exact .cons ⟨rfl, a⟩ .nil
theorem xok_InvalidDiff {mg : Str → Option Value} {h : Heap} (X : K.In h) (G : h.Ns mainGlobals mg) (g : PySem.W.nsIn K mainGlobals "InvalidDiff" = some (some (.ref C))) (a : PySem.W.findIn K (.ref C) "__init__" = some (some (.ref fI))) (i : CInit K 3 "InvalidDiff.__init__" fI cc cda)
    (S : ClsF prg K "ValueError" "ValueError.__new__" "ValueError.__init__" [.type "ValueError", .type "Exception", .type "BaseException", .type "object"] "InvalidDiff.__init__" "value" C fI cc cda) : XOk prg K mg "InvalidDiff" C 1 (fvOne "value") := by
  obtain ⟨oc, od, osl, kV, doc, pm, an, ct, lk⟩ := i
  exact xok_of S (PySem.W.mg_of X G g) (mkc_InvalidDiff ⟨PySem.F.excBase_ValueError, PySem.F.store_ValueError, PySem.W.kxs_ValueError, S.ei, S.ov, S.di, S.sa, S.su, S.sb, S.me, S.op, a, S.fn, ⟨oc, od, osl, lk⟩, S.cod, fileIs_of S.cfl, holdsCls_of S.cel, S.kp⟩ S.tk)
end
theorem all_mk {w : World} {K : PySem.W.Frag} {h : Heap} {mg : Str → Option Value} {fa : Addr} (X : K.In h) (G : h.Ns mainGlobals mg) (hfa : mg "law" = some (.ref fa))
    {C_InvalidText f_InvalidText c_InvalidText d_InvalidText : Addr} (a_InvalidText : PySem.W.nsIn K mainGlobals "InvalidText" = some (some (.ref C_InvalidText))) (b_InvalidText : PySem.W.findIn K (.ref C_InvalidText) "__init__" = some (some (.ref f_InvalidText))) (i_InvalidText : CInit K 2 "InvalidText.__init__" f_InvalidText c_InvalidText d_InvalidText)
    (S_InvalidText : ClsF prg K "ValueError" "ValueError.__new__" "ValueError.__init__" [.type "ValueError", .type "Exception", .type "BaseException", .type "object"] "InvalidText.__init__" "value" C_InvalidText f_InvalidText c_InvalidText d_InvalidText)
    {C_InvalidDiff f_InvalidDiff c_InvalidDiff d_InvalidDiff : Addr} (a_InvalidDiff : PySem.W.nsIn K mainGlobals "InvalidDiff" = some (some (.ref C_InvalidDiff))) (b_InvalidDiff : PySem.W.findIn K (.ref C_InvalidDiff) "__init__" = some (some (.ref f_InvalidDiff))) (i_InvalidDiff : CInit K 3 "InvalidDiff.__init__" f_InvalidDiff c_InvalidDiff d_InvalidDiff)
    (S_InvalidDiff : ClsF prg K "ValueError" "ValueError.__new__" "ValueError.__init__" [.type "ValueError", .type "Exception", .type "BaseException", .type "object"] "InvalidDiff.__init__" "value" C_InvalidDiff f_InvalidDiff c_InvalidDiff d_InvalidDiff)
    {g_whole : Addr} {od_whole an_whole : Option Addr} {sl_whole : Array (Option Value)} {oc_whole kV_whole dc_whole pm_whole cd_whole ct_whole : Value}
    (u_whole : PySem.W.nsIn K mainGlobals "is_whole" = some (some (.ref g_whole))) (l_whole : K.lookup g_whole = some ⟨oc_whole, od_whole, .func (PySem.W.fnOf "is_whole" "is_whole" (defArgs sWhole) (defBody sWhole) (defScope sWhole) .none kV_whole dc_whole pm_whole an_whole cd_whole ct_whole), sl_whole⟩) (v_whole : PySem.W.codeIn K cd_whole "is_whole" = true) (k_whole : PySem.W.keepIn K (.ref g_whole) = true)
    {g_list : Addr} {od_list an_list : Option Addr} {sl_list : Array (Option Value)} {oc_list kV_list dc_list pm_list cd_list ct_list : Value}
    (u_list : PySem.W.nsIn K mainGlobals "is_list" = some (some (.ref g_list))) (l_list : K.lookup g_list = some ⟨oc_list, od_list, .func (PySem.W.fnOf "is_list" "is_list" (defArgs sIsList) (defBody sIsList) (defScope sIsList) .none kV_list dc_list pm_list an_list cd_list ct_list), sl_list⟩) (v_list : PySem.W.codeIn K cd_list "is_list" = true) (k_list : PySem.W.keepIn K (.ref g_list) = true)
    {g_tup : Addr} {od_tup an_tup : Option Addr} {sl_tup : Array (Option Value)} {oc_tup kV_tup dc_tup pm_tup cd_tup ct_tup : Value}
    (u_tup : PySem.W.nsIn K mainGlobals "is_tuple" = some (some (.ref g_tup))) (l_tup : K.lookup g_tup = some ⟨oc_tup, od_tup, .func (PySem.W.fnOf "is_tuple" "is_tuple" (defArgs sIsTuple) (defBody sIsTuple) (defScope sIsTuple) .none kV_tup dc_tup pm_tup an_tup cd_tup ct_tup), sl_tup⟩) (v_tup : PySem.W.codeIn K cd_tup "is_tuple" = true) (k_tup : PySem.W.keepIn K (.ref g_tup) = true)
    {g_spot : Addr} {od_spot an_spot : Option Addr} {sl_spot : Array (Option Value)} {oc_spot kV_spot dc_spot pm_spot cd_spot ct_spot : Value}
    (u_spot : PySem.W.nsIn K mainGlobals "is_spot" = some (some (.ref g_spot))) (l_spot : K.lookup g_spot = some ⟨oc_spot, od_spot, .func (PySem.W.fnOf "is_spot" "is_spot" (defArgs sSpot) (defBody sSpot) (defScope sSpot) .none kV_spot dc_spot pm_spot an_spot cd_spot ct_spot), sl_spot⟩) (v_spot : PySem.W.codeIn K cd_spot "is_spot" = true) (k_spot : PySem.W.keepIn K (.ref g_spot) = true)
    {g_line : Addr} {od_line an_line : Option Addr} {sl_line : Array (Option Value)} {oc_line kV_line dc_line pm_line cd_line ct_line : Value}
    (u_line : PySem.W.nsIn K mainGlobals "is_line" = some (some (.ref g_line))) (l_line : K.lookup g_line = some ⟨oc_line, od_line, .func (PySem.W.fnOf "is_line" "is_line" (defArgs sLine) (defBody sLine) (defScope sLine) .none kV_line dc_line pm_line an_line cd_line ct_line), sl_line⟩) (v_line : PySem.W.codeIn K cd_line "is_line" = true) (k_line : PySem.W.keepIn K (.ref g_line) = true)
    {g_text : Addr} {od_text an_text : Option Addr} {sl_text : Array (Option Value)} {oc_text kV_text dc_text pm_text cd_text ct_text : Value}
    (u_text : PySem.W.nsIn K mainGlobals "is_text" = some (some (.ref g_text))) (l_text : K.lookup g_text = some ⟨oc_text, od_text, .func (PySem.W.fnOf "is_text" "is_text" (defArgs sIsText) (defBody sIsText) (defScope sIsText) .none kV_text dc_text pm_text an_text cd_text ct_text), sl_text⟩) (v_text : PySem.W.codeIn K cd_text "is_text" = true) (k_text : PySem.W.keepIn K (.ref g_text) = true)
    {g_check : Addr} {od_check an_check : Option Addr} {sl_check : Array (Option Value)} {oc_check kV_check dc_check pm_check cd_check ct_check : Value}
    (u_check : PySem.W.nsIn K mainGlobals "check_texts" = some (some (.ref g_check))) (l_check : K.lookup g_check = some ⟨oc_check, od_check, .func (PySem.W.fnOf "check_texts" "check_texts" (defArgs sCheck) (defBody sCheck) (defScope sCheck) .none kV_check dc_check pm_check an_check cd_check ct_check), sl_check⟩) (v_check : PySem.W.codeIn K cd_check "check_texts" = true) (k_check : PySem.W.keepIn K (.ref g_check) = true)
    {g_pair : Addr} {od_pair an_pair : Option Addr} {sl_pair : Array (Option Value)} {oc_pair kV_pair dc_pair pm_pair cd_pair ct_pair : Value}
    (u_pair : PySem.W.nsIn K mainGlobals "is_pair" = some (some (.ref g_pair))) (l_pair : K.lookup g_pair = some ⟨oc_pair, od_pair, .func (PySem.W.fnOf "is_pair" "is_pair" (defArgs sPair) (defBody sPair) (defScope sPair) .none kV_pair dc_pair pm_pair an_pair cd_pair ct_pair), sl_pair⟩) (v_pair : PySem.W.codeIn K cd_pair "is_pair" = true) (k_pair : PySem.W.keepIn K (.ref g_pair) = true)
    {g_rise : Addr} {od_rise an_rise : Option Addr} {sl_rise : Array (Option Value)} {oc_rise kV_rise dc_rise pm_rise cd_rise ct_rise : Value}
    (u_rise : PySem.W.nsIn K mainGlobals "is_rising" = some (some (.ref g_rise))) (l_rise : K.lookup g_rise = some ⟨oc_rise, od_rise, .func (PySem.W.fnOf "is_rising" "is_rising" (defArgs sRising) (defBody sRising) (defScope sRising) .none kV_rise dc_rise pm_rise an_rise cd_rise ct_rise), sl_rise⟩) (v_rise : PySem.W.codeIn K cd_rise "is_rising" = true) (k_rise : PySem.W.keepIn K (.ref g_rise) = true)
    {g_isdiff : Addr} {od_isdiff an_isdiff : Option Addr} {sl_isdiff : Array (Option Value)} {oc_isdiff kV_isdiff dc_isdiff pm_isdiff cd_isdiff ct_isdiff : Value}
    (u_isdiff : PySem.W.nsIn K mainGlobals "is_diff" = some (some (.ref g_isdiff))) (l_isdiff : K.lookup g_isdiff = some ⟨oc_isdiff, od_isdiff, .func (PySem.W.fnOf "is_diff" "is_diff" (defArgs sIsDiff) (defBody sIsDiff) (defScope sIsDiff) .none kV_isdiff dc_isdiff pm_isdiff an_isdiff cd_isdiff ct_isdiff), sl_isdiff⟩) (v_isdiff : PySem.W.codeIn K cd_isdiff "is_diff" = true) (k_isdiff : PySem.W.keepIn K (.ref g_isdiff) = true)
    {g_checkd : Addr} {od_checkd an_checkd : Option Addr} {sl_checkd : Array (Option Value)} {oc_checkd kV_checkd dc_checkd pm_checkd cd_checkd ct_checkd : Value}
    (u_checkd : PySem.W.nsIn K mainGlobals "check_diff" = some (some (.ref g_checkd))) (l_checkd : K.lookup g_checkd = some ⟨oc_checkd, od_checkd, .func (PySem.W.fnOf "check_diff" "check_diff" (defArgs sCheckD) (defBody sCheckD) (defScope sCheckD) .none kV_checkd dc_checkd pm_checkd an_checkd cd_checkd ct_checkd), sl_checkd⟩) (v_checkd : PySem.W.codeIn K cd_checkd "check_diff" = true) (k_checkd : PySem.W.keepIn K (.ref g_checkd) = true)
    {g_gaps : Addr} {od_gaps an_gaps : Option Addr} {sl_gaps : Array (Option Value)} {oc_gaps kV_gaps dc_gaps pm_gaps cd_gaps ct_gaps : Value}
    (u_gaps : PySem.W.nsIn K mainGlobals "gaps_of" = some (some (.ref g_gaps))) (l_gaps : K.lookup g_gaps = some ⟨oc_gaps, od_gaps, .func (PySem.W.fnOf "gaps_of" "gaps_of" (defArgs sGaps) (defBody sGaps) (defScope sGaps) .none kV_gaps dc_gaps pm_gaps an_gaps cd_gaps ct_gaps), sl_gaps⟩) (v_gaps : PySem.W.codeIn K cd_gaps "gaps_of" = true) (k_gaps : PySem.W.keepIn K (.ref g_gaps) = true)
    {g_blocks : Addr} {od_blocks an_blocks : Option Addr} {sl_blocks : Array (Option Value)} {oc_blocks kV_blocks dc_blocks pm_blocks cd_blocks ct_blocks : Value}
    (u_blocks : PySem.W.nsIn K mainGlobals "blocks_of" = some (some (.ref g_blocks))) (l_blocks : K.lookup g_blocks = some ⟨oc_blocks, od_blocks, .func (PySem.W.fnOf "blocks_of" "blocks_of" (defArgs sBlocks) (defBody sBlocks) (defScope sBlocks) .none kV_blocks dc_blocks pm_blocks an_blocks cd_blocks ct_blocks), sl_blocks⟩) (v_blocks : PySem.W.codeIn K cd_blocks "blocks_of" = true) (k_blocks : PySem.W.keepIn K (.ref g_blocks) = true)
    {g_vers : Addr} {od_vers an_vers : Option Addr} {sl_vers : Array (Option Value)} {oc_vers kV_vers dc_vers pm_vers cd_vers ct_vers : Value}
    (u_vers : PySem.W.nsIn K mainGlobals "check_versions" = some (some (.ref g_vers))) (l_vers : K.lookup g_vers = some ⟨oc_vers, od_vers, .func (PySem.W.fnOf "check_versions" "check_versions" (defArgs sVers) (defBody sVers) (defScope sVers) .none kV_vers dc_vers pm_vers an_vers cd_vers ct_vers), sl_vers⟩) (v_vers : PySem.W.codeIn K cd_vers "check_versions" = true) (k_vers : PySem.W.keepIn K (.ref g_vers) = true)
    {g_cover : Addr} {od_cover an_cover : Option Addr} {sl_cover : Array (Option Value)} {oc_cover kV_cover dc_cover pm_cover cd_cover ct_cover : Value}
    (u_cover : PySem.W.nsIn K mainGlobals "covered_by" = some (some (.ref g_cover))) (l_cover : K.lookup g_cover = some ⟨oc_cover, od_cover, .func (PySem.W.fnOf "covered_by" "covered_by" (defArgs sCover) (defBody sCover) (defScope sCover) .none kV_cover dc_cover pm_cover an_cover cd_cover ct_cover), sl_cover⟩) (v_cover : PySem.W.codeIn K cd_cover "covered_by" = true) (k_cover : PySem.W.keepIn K (.ref g_cover) = true)
    {g_knots : Addr} {od_knots an_knots : Option Addr} {sl_knots : Array (Option Value)} {oc_knots kV_knots dc_knots pm_knots cd_knots ct_knots : Value}
    (u_knots : PySem.W.nsIn K mainGlobals "knots_of" = some (some (.ref g_knots))) (l_knots : K.lookup g_knots = some ⟨oc_knots, od_knots, .func (PySem.W.fnOf "knots_of" "knots_of" (defArgs sKnots) (defBody sKnots) (defScope sKnots) .none kV_knots dc_knots pm_knots an_knots cd_knots ct_knots), sl_knots⟩) (v_knots : PySem.W.codeIn K cd_knots "knots_of" = true) (k_knots : PySem.W.keepIn K (.ref g_knots) = true)
    {g_bounds : Addr} {od_bounds an_bounds : Option Addr} {sl_bounds : Array (Option Value)} {oc_bounds kV_bounds dc_bounds pm_bounds cd_bounds ct_bounds : Value}
    (u_bounds : PySem.W.nsIn K mainGlobals "bounds_of" = some (some (.ref g_bounds))) (l_bounds : K.lookup g_bounds = some ⟨oc_bounds, od_bounds, .func (PySem.W.fnOf "bounds_of" "bounds_of" (defArgs sBounds) (defBody sBounds) (defScope sBounds) .none kV_bounds dc_bounds pm_bounds an_bounds cd_bounds ct_bounds), sl_bounds⟩) (v_bounds : PySem.W.codeIn K cd_bounds "bounds_of" = true) (k_bounds : PySem.W.keepIn K (.ref g_bounds) = true)
    {g_lines : Addr} {od_lines an_lines : Option Addr} {sl_lines : Array (Option Value)} {oc_lines kV_lines dc_lines pm_lines cd_lines ct_lines : Value}
    (u_lines : PySem.W.nsIn K mainGlobals "lines_come" = some (some (.ref g_lines))) (l_lines : K.lookup g_lines = some ⟨oc_lines, od_lines, .func (PySem.W.fnOf "lines_come" "lines_come" (defArgs sLines) (defBody sLines) (defScope sLines) .none kV_lines dc_lines pm_lines an_lines cd_lines ct_lines), sl_lines⟩) (v_lines : PySem.W.codeIn K cd_lines "lines_come" = true) (k_lines : PySem.W.keepIn K (.ref g_lines) = true)
    {g_kind : Addr} {od_kind an_kind : Option Addr} {sl_kind : Array (Option Value)} {oc_kind kV_kind dc_kind pm_kind cd_kind ct_kind : Value}
    (u_kind : PySem.W.nsIn K mainGlobals "kind_of" = some (some (.ref g_kind))) (l_kind : K.lookup g_kind = some ⟨oc_kind, od_kind, .func (PySem.W.fnOf "kind_of" "kind_of" (defArgs sKind) (defBody sKind) (defScope sKind) .none kV_kind dc_kind pm_kind an_kind cd_kind ct_kind), sl_kind⟩) (v_kind : PySem.W.codeIn K cd_kind "kind_of" = true) (k_kind : PySem.W.keepIn K (.ref g_kind) = true)
    {g_stretch : Addr} {od_stretch an_stretch : Option Addr} {sl_stretch : Array (Option Value)} {oc_stretch kV_stretch dc_stretch pm_stretch cd_stretch ct_stretch : Value}
    (u_stretch : PySem.W.nsIn K mainGlobals "stretch_of" = some (some (.ref g_stretch))) (l_stretch : K.lookup g_stretch = some ⟨oc_stretch, od_stretch, .func (PySem.W.fnOf "stretch_of" "stretch_of" (defArgs sStretch) (defBody sStretch) (defScope sStretch) .none kV_stretch dc_stretch pm_stretch an_stretch cd_stretch ct_stretch), sl_stretch⟩) (v_stretch : PySem.W.codeIn K cd_stretch "stretch_of" = true) (k_stretch : PySem.W.keepIn K (.ref g_stretch) = true)
    {g_ncome : Addr} {od_ncome an_ncome : Option Addr} {sl_ncome : Array (Option Value)} {oc_ncome kV_ncome dc_ncome pm_ncome cd_ncome ct_ncome : Value}
    (u_ncome : PySem.W.nsIn K mainGlobals "numbers_come" = some (some (.ref g_ncome))) (l_ncome : K.lookup g_ncome = some ⟨oc_ncome, od_ncome, .func (PySem.W.fnOf "numbers_come" "numbers_come" (defArgs sNCome) (defBody sNCome) (defScope sNCome) .none kV_ncome dc_ncome pm_ncome an_ncome cd_ncome ct_ncome), sl_ncome⟩) (v_ncome : PySem.W.codeIn K cd_ncome "numbers_come" = true) (k_ncome : PySem.W.keepIn K (.ref g_ncome) = true)
    {g_within : Addr} {od_within an_within : Option Addr} {sl_within : Array (Option Value)} {oc_within kV_within dc_within pm_within cd_within ct_within : Value}
    (u_within : PySem.W.nsIn K mainGlobals "lines_within" = some (some (.ref g_within))) (l_within : K.lookup g_within = some ⟨oc_within, od_within, .func (PySem.W.fnOf "lines_within" "lines_within" (defArgs sLW) (defBody sLW) (defScope sLW) .none kV_within dc_within pm_within an_within cd_within ct_within), sl_within⟩) (v_within : PySem.W.codeIn K cd_within "lines_within" = true) (k_within : PySem.W.keepIn K (.ref g_within) = true)
    {g_fates : Addr} {od_fates an_fates : Option Addr} {sl_fates : Array (Option Value)} {oc_fates kV_fates dc_fates pm_fates cd_fates ct_fates : Value}
    (u_fates : PySem.W.nsIn K mainGlobals "line_fates" = some (some (.ref g_fates))) (l_fates : K.lookup g_fates = some ⟨oc_fates, od_fates, .func (PySem.W.fnOf "line_fates" "line_fates" (defArgs sFates) (defBody sFates) (defScope sFates) .none kV_fates dc_fates pm_fates an_fates cd_fates ct_fates), sl_fates⟩) (v_fates : PySem.W.codeIn K cd_fates "line_fates" = true) (k_fates : PySem.W.keepIn K (.ref g_fates) = true)
    {g_tokk : Addr} {od_tokk an_tokk : Option Addr} {sl_tokk : Array (Option Value)} {oc_tokk kV_tokk dc_tokk pm_tokk cd_tokk ct_tokk : Value}
    (u_tokk : PySem.W.nsIn K mainGlobals "tokens_of_knot" = some (some (.ref g_tokk))) (l_tokk : K.lookup g_tokk = some ⟨oc_tokk, od_tokk, .func (PySem.W.fnOf "tokens_of_knot" "tokens_of_knot" (defArgs sTokK) (defBody sTokK) (defScope sTokK) .none kV_tokk dc_tokk pm_tokk an_tokk cd_tokk ct_tokk), sl_tokk⟩) (v_tokk : PySem.W.codeIn K cd_tokk "tokens_of_knot" = true) (k_tokk : PySem.W.keepIn K (.ref g_tokk) = true)
    {g_two : Addr} {od_two an_two : Option Addr} {sl_two : Array (Option Value)} {oc_two kV_two dc_two pm_two cd_two ct_two : Value}
    (u_two : PySem.W.nsIn K mainGlobals "tokens_with_origins" = some (some (.ref g_two))) (l_two : K.lookup g_two = some ⟨oc_two, od_two, .func (PySem.W.fnOf "tokens_with_origins" "tokens_with_origins" (defArgs sTWO) (defBody sTWO) (defScope sTWO) .none kV_two dc_two pm_two an_two cd_two ct_two), sl_two⟩) (v_two : PySem.W.codeIn K cd_two "tokens_with_origins" = true) (k_two : PySem.W.keepIn K (.ref g_two) = true)
    {g_merged : Addr} {od_merged an_merged : Option Addr} {sl_merged : Array (Option Value)} {oc_merged kV_merged dc_merged pm_merged cd_merged ct_merged : Value}
    (u_merged : PySem.W.nsIn K mainGlobals "merged" = some (some (.ref g_merged))) (l_merged : K.lookup g_merged = some ⟨oc_merged, od_merged, .func (PySem.W.fnOf "merged" "merged" (defArgs sMerged) (defBody sMerged) (defScope sMerged) .none kV_merged dc_merged pm_merged an_merged cd_merged ct_merged), sl_merged⟩) (v_merged : PySem.W.codeIn K cd_merged "merged" = true) (k_merged : PySem.W.keepIn K (.ref g_merged) = true)
    {g_isc : Addr} {od_isc an_isc : Option Addr} {sl_isc : Array (Option Value)} {oc_isc kV_isc dc_isc pm_isc cd_isc ct_isc : Value}
    (u_isc : PySem.W.nsIn K mainGlobals "is_clash" = some (some (.ref g_isc))) (l_isc : K.lookup g_isc = some ⟨oc_isc, od_isc, .func (PySem.W.fnOf "is_clash" "is_clash" (defArgs sIsC) (defBody sIsC) (defScope sIsC) .none kV_isc dc_isc pm_isc an_isc cd_isc ct_isc), sl_isc⟩) (v_isc : PySem.W.codeIn K cd_isc "is_clash" = true) (k_isc : PySem.W.keepIn K (.ref g_isc) = true)
    {g_to : Addr} {od_to an_to : Option Addr} {sl_to : Array (Option Value)} {oc_to kV_to dc_to pm_to cd_to ct_to : Value}
    (u_to : PySem.W.nsIn K mainGlobals "token_origins" = some (some (.ref g_to))) (l_to : K.lookup g_to = some ⟨oc_to, od_to, .func (PySem.W.fnOf "token_origins" "token_origins" (defArgs sTO) (defBody sTO) (defScope sTO) .none kV_to dc_to pm_to an_to cd_to ct_to), sl_to⟩) (v_to : PySem.W.codeIn K cd_to "token_origins" = true) (k_to : PySem.W.keepIn K (.ref g_to) = true)
    {g_pot : Addr} {od_pot an_pot : Option Addr} {sl_pot : Array (Option Value)} {oc_pot kV_pot dc_pot pm_pot cd_pot ct_pot : Value}
    (u_pot : PySem.W.nsIn K mainGlobals "_law_pot" = some (some (.ref g_pot))) (l_pot : K.lookup g_pot = some ⟨oc_pot, od_pot, .func (PySem.W.fnOf "_law_pot" "_law_pot" (defArgs sPot) (defBody sPot) (defScope sPot) .none kV_pot dc_pot pm_pot an_pot cd_pot ct_pot), sl_pot⟩) (v_pot : PySem.W.codeIn K cd_pot "_law_pot" = true) (k_pot : PySem.W.keepIn K (.ref g_pot) = true)
    {g_draw : Addr} {od_draw an_draw : Option Addr} {sl_draw : Array (Option Value)} {oc_draw kV_draw dc_draw pm_draw cd_draw ct_draw : Value}
    (u_draw : PySem.W.nsIn K mainGlobals "_law_draw" = some (some (.ref g_draw))) (l_draw : K.lookup g_draw = some ⟨oc_draw, od_draw, .func (PySem.W.fnOf "_law_draw" "_law_draw" (defArgs sDraw) (defBody sDraw) (defScope sDraw) .none kV_draw dc_draw pm_draw an_draw cd_draw ct_draw), sl_draw⟩) (v_draw : PySem.W.codeIn K cd_draw "_law_draw" = true) (k_draw : PySem.W.keepIn K (.ref g_draw) = true)
    {g_pick : Addr} {od_pick an_pick : Option Addr} {sl_pick : Array (Option Value)} {oc_pick kV_pick dc_pick pm_pick cd_pick ct_pick : Value}
    (u_pick : PySem.W.nsIn K mainGlobals "_law_pick" = some (some (.ref g_pick))) (l_pick : K.lookup g_pick = some ⟨oc_pick, od_pick, .func (PySem.W.fnOf "_law_pick" "_law_pick" (defArgs sPick) (defBody sPick) (defScope sPick) .none kV_pick dc_pick pm_pick an_pick cd_pick ct_pick), sl_pick⟩) (v_pick : PySem.W.codeIn K cd_pick "_law_pick" = true) (k_pick : PySem.W.keepIn K (.ref g_pick) = true)
    {g_plan : Addr} {od_plan an_plan : Option Addr} {sl_plan : Array (Option Value)} {oc_plan kV_plan dc_plan pm_plan cd_plan ct_plan : Value}
    (u_plan : PySem.W.nsIn K mainGlobals "_law_plan" = some (some (.ref g_plan))) (l_plan : K.lookup g_plan = some ⟨oc_plan, od_plan, .func (PySem.W.fnOf "_law_plan" "_law_plan" (defArgs sPlan) (defBody sPlan) (defScope sPlan) .none kV_plan dc_plan pm_plan an_plan cd_plan ct_plan), sl_plan⟩) (v_plan : PySem.W.codeIn K cd_plan "_law_plan" = true) (k_plan : PySem.W.keepIn K (.ref g_plan) = true)
    {g_second : Addr} {od_second an_second : Option Addr} {sl_second : Array (Option Value)} {oc_second kV_second dc_second pm_second cd_second ct_second : Value}
    (u_second : PySem.W.nsIn K mainGlobals "_law_second" = some (some (.ref g_second))) (l_second : K.lookup g_second = some ⟨oc_second, od_second, .func (PySem.W.fnOf "_law_second" "_law_second" (defArgs sSecond) (defBody sSecond) (defScope sSecond) .none kV_second dc_second pm_second an_second cd_second ct_second), sl_second⟩) (v_second : PySem.W.codeIn K cd_second "_law_second" = true) (k_second : PySem.W.keepIn K (.ref g_second) = true)
    {g_edited : Addr} {od_edited an_edited : Option Addr} {sl_edited : Array (Option Value)} {oc_edited kV_edited dc_edited pm_edited cd_edited ct_edited : Value}
    (u_edited : PySem.W.nsIn K mainGlobals "_law_edited" = some (some (.ref g_edited))) (l_edited : K.lookup g_edited = some ⟨oc_edited, od_edited, .func (PySem.W.fnOf "_law_edited" "_law_edited" (defArgs sEdited) (defBody sEdited) (defScope sEdited) .none kV_edited dc_edited pm_edited an_edited cd_edited ct_edited), sl_edited⟩) (v_edited : PySem.W.codeIn K cd_edited "_law_edited" = true) (k_edited : PySem.W.keepIn K (.ref g_edited) = true)
    {g_case : Addr} {od_case an_case : Option Addr} {sl_case : Array (Option Value)} {oc_case kV_case dc_case pm_case cd_case ct_case : Value}
    (u_case : PySem.W.nsIn K mainGlobals "_law_case" = some (some (.ref g_case))) (l_case : K.lookup g_case = some ⟨oc_case, od_case, .func (PySem.W.fnOf "_law_case" "_law_case" (defArgs sCase) (defBody sCase) (defScope sCase) .none kV_case dc_case pm_case an_case cd_case ct_case), sl_case⟩) (v_case : PySem.W.codeIn K cd_case "_law_case" = true) (k_case : PySem.W.keepIn K (.ref g_case) = true)
    {g_lparts : Addr} {od_lparts an_lparts : Option Addr} {sl_lparts : Array (Option Value)} {oc_lparts kV_lparts dc_lparts pm_lparts cd_lparts ct_lparts : Value}
    (u_lparts : PySem.W.nsIn K mainGlobals "_law_parts" = some (some (.ref g_lparts))) (l_lparts : K.lookup g_lparts = some ⟨oc_lparts, od_lparts, .func (PySem.W.fnOf "_law_parts" "_law_parts" (defArgs sLParts) (defBody sLParts) (defScope sLParts) .none kV_lparts dc_lparts pm_lparts an_lparts cd_lparts ct_lparts), sl_lparts⟩) (v_lparts : PySem.W.codeIn K cd_lparts "_law_parts" = true) (k_lparts : PySem.W.keepIn K (.ref g_lparts) = true)
    {g_both : Addr} {od_both an_both : Option Addr} {sl_both : Array (Option Value)} {oc_both kV_both dc_both pm_both cd_both ct_both : Value}
    (u_both : PySem.W.nsIn K mainGlobals "_law_both_parts" = some (some (.ref g_both))) (l_both : K.lookup g_both = some ⟨oc_both, od_both, .func (PySem.W.fnOf "_law_both_parts" "_law_both_parts" (defArgs sBoth) (defBody sBoth) (defScope sBoth) .none kV_both dc_both pm_both an_both cd_both ct_both), sl_both⟩) (v_both : PySem.W.codeIn K cd_both "_law_both_parts" = true) (k_both : PySem.W.keepIn K (.ref g_both) = true)
    {g_lcover : Addr} {od_lcover an_lcover : Option Addr} {sl_lcover : Array (Option Value)} {oc_lcover kV_lcover dc_lcover pm_lcover cd_lcover ct_lcover : Value}
    (u_lcover : PySem.W.nsIn K mainGlobals "_law_cover" = some (some (.ref g_lcover))) (l_lcover : K.lookup g_lcover = some ⟨oc_lcover, od_lcover, .func (PySem.W.fnOf "_law_cover" "_law_cover" (defArgs sLCover) (defBody sLCover) (defScope sLCover) .none kV_lcover dc_lcover pm_lcover an_lcover cd_lcover ct_lcover), sl_lcover⟩) (v_lcover : PySem.W.codeIn K cd_lcover "_law_cover" = true) (k_lcover : PySem.W.keepIn K (.ref g_lcover) = true)
    {g_met : Addr} {od_met an_met : Option Addr} {sl_met : Array (Option Value)} {oc_met kV_met dc_met pm_met cd_met ct_met : Value}
    (u_met : PySem.W.nsIn K mainGlobals "_law_is_met" = some (some (.ref g_met))) (l_met : K.lookup g_met = some ⟨oc_met, od_met, .func (PySem.W.fnOf "_law_is_met" "_law_is_met" (defArgs sMet) (defBody sMet) (defScope sMet) .none kV_met dc_met pm_met an_met cd_met ct_met), sl_met⟩) (v_met : PySem.W.codeIn K cd_met "_law_is_met" = true) (k_met : PySem.W.keepIn K (.ref g_met) = true)
    {g_first : Addr} {od_first an_first : Option Addr} {sl_first : Array (Option Value)} {oc_first kV_first dc_first pm_first cd_first ct_first : Value}
    (u_first : PySem.W.nsIn K mainGlobals "_law_first_place" = some (some (.ref g_first))) (l_first : K.lookup g_first = some ⟨oc_first, od_first, .func (PySem.W.fnOf "_law_first_place" "_law_first_place" (defArgs sFirst) (defBody sFirst) (defScope sFirst) .none kV_first dc_first pm_first an_first cd_first ct_first), sl_first⟩) (v_first : PySem.W.codeIn K cd_first "_law_first_place" = true) (k_first : PySem.W.keepIn K (.ref g_first) = true)
    {g_asknot : Addr} {od_asknot an_asknot : Option Addr} {sl_asknot : Array (Option Value)} {oc_asknot kV_asknot dc_asknot pm_asknot cd_asknot ct_asknot : Value}
    (u_asknot : PySem.W.nsIn K mainGlobals "_law_as_knot" = some (some (.ref g_asknot))) (l_asknot : K.lookup g_asknot = some ⟨oc_asknot, od_asknot, .func (PySem.W.fnOf "_law_as_knot" "_law_as_knot" (defArgs sAsKnot) (defBody sAsKnot) (defScope sAsKnot) .none kV_asknot dc_asknot pm_asknot an_asknot cd_asknot ct_asknot), sl_asknot⟩) (v_asknot : PySem.W.codeIn K cd_asknot "_law_as_knot" = true) (k_asknot : PySem.W.keepIn K (.ref g_asknot) = true)
    {g_groups : Addr} {od_groups an_groups : Option Addr} {sl_groups : Array (Option Value)} {oc_groups kV_groups dc_groups pm_groups cd_groups ct_groups : Value}
    (u_groups : PySem.W.nsIn K mainGlobals "_law_groups" = some (some (.ref g_groups))) (l_groups : K.lookup g_groups = some ⟨oc_groups, od_groups, .func (PySem.W.fnOf "_law_groups" "_law_groups" (defArgs sGroups) (defBody sGroups) (defScope sGroups) .none kV_groups dc_groups pm_groups an_groups cd_groups ct_groups), sl_groups⟩) (v_groups : PySem.W.codeIn K cd_groups "_law_groups" = true) (k_groups : PySem.W.keepIn K (.ref g_groups) = true)
    {g_sort : Addr} {od_sort an_sort : Option Addr} {sl_sort : Array (Option Value)} {oc_sort kV_sort dc_sort pm_sort cd_sort ct_sort : Value}
    (u_sort : PySem.W.nsIn K mainGlobals "_law_sort_of" = some (some (.ref g_sort))) (l_sort : K.lookup g_sort = some ⟨oc_sort, od_sort, .func (PySem.W.fnOf "_law_sort_of" "_law_sort_of" (defArgs sSort) (defBody sSort) (defScope sSort) .none kV_sort dc_sort pm_sort an_sort cd_sort ct_sort), sl_sort⟩) (v_sort : PySem.W.codeIn K cd_sort "_law_sort_of" = true) (k_sort : PySem.W.keepIn K (.ref g_sort) = true)
    {g_src : Addr} {od_src an_src : Option Addr} {sl_src : Array (Option Value)} {oc_src kV_src dc_src pm_src cd_src ct_src : Value}
    (u_src : PySem.W.nsIn K mainGlobals "_law_sources" = some (some (.ref g_src))) (l_src : K.lookup g_src = some ⟨oc_src, od_src, .func (PySem.W.fnOf "_law_sources" "_law_sources" (defArgs sSrc) (defBody sSrc) (defScope sSrc) .none kV_src dc_src pm_src an_src cd_src ct_src), sl_src⟩) (v_src : PySem.W.codeIn K cd_src "_law_sources" = true) (k_src : PySem.W.keepIn K (.ref g_src) = true)
    {g_walk : Addr} {od_walk an_walk : Option Addr} {sl_walk : Array (Option Value)} {oc_walk kV_walk dc_walk pm_walk cd_walk ct_walk : Value}
    (u_walk : PySem.W.nsIn K mainGlobals "_law_walk" = some (some (.ref g_walk))) (l_walk : K.lookup g_walk = some ⟨oc_walk, od_walk, .func (PySem.W.fnOf "_law_walk" "_law_walk" (defArgs sWalk) (defBody sWalk) (defScope sWalk) .none kV_walk dc_walk pm_walk an_walk cd_walk ct_walk), sl_walk⟩) (v_walk : PySem.W.codeIn K cd_walk "_law_walk" = true) (k_walk : PySem.W.keepIn K (.ref g_walk) = true)
    {g_from : Addr} {od_from an_from : Option Addr} {sl_from : Array (Option Value)} {oc_from kV_from dc_from pm_from cd_from ct_from : Value}
    (u_from : PySem.W.nsIn K mainGlobals "_law_is_from" = some (some (.ref g_from))) (l_from : K.lookup g_from = some ⟨oc_from, od_from, .func (PySem.W.fnOf "_law_is_from" "_law_is_from" (defArgs sFrom) (defBody sFrom) (defScope sFrom) .none kV_from dc_from pm_from an_from cd_from ct_from), sl_from⟩) (v_from : PySem.W.codeIn K cd_from "_law_is_from" = true) (k_from : PySem.W.keepIn K (.ref g_from) = true)
    {g_right : Addr} {od_right an_right : Option Addr} {sl_right : Array (Option Value)} {oc_right kV_right dc_right pm_right cd_right ct_right : Value}
    (u_right : PySem.W.nsIn K mainGlobals "_law_right" = some (some (.ref g_right))) (l_right : K.lookup g_right = some ⟨oc_right, od_right, .func (PySem.W.fnOf "_law_right" "_law_right" (defArgs sRight) (defBody sRight) (defScope sRight) .none kV_right dc_right pm_right an_right cd_right ct_right), sl_right⟩) (v_right : PySem.W.codeIn K cd_right "_law_right" = true) (k_right : PySem.W.keepIn K (.ref g_right) = true)
    {g_law : Addr} {od_law an_law : Option Addr} {sl_law : Array (Option Value)} {oc_law kV_law dc_law pm_law cd_law ct_law : Value}
    (u_law : PySem.W.nsIn K mainGlobals "law" = some (some (.ref g_law))) (l_law : K.lookup g_law = some ⟨oc_law, od_law, .func (PySem.W.fnOf "law" "law" (defArgs sLaw) (defBody sLaw) (defScope sLaw) .none kV_law dc_law pm_law an_law cd_law ct_law), sl_law⟩) (v_law : PySem.W.codeIn K cd_law "law" = true) (k_law : PySem.W.keepIn K (.ref g_law) = true)
    (zz : (["len", "abs", "max", "min", "int", "divmod", "repr", "isinstance", "enumerate", "range", "all", "super", "zip", "tuple", "dict", "bool", "str", "list", "any", "sorted"].map fun x => PySem.W.nsIn K mainGlobals (Str.ofString x)) = [some none, some none, some none, some none, some none, some none, some none, some none, some none, some none, some none, some none, some none, some none, some none, some none, some none, some none, some none, some none])
    {t_MOST : Nat} (c_MOST : PySem.W.nsIn K mainGlobals "MOST" = some (some (.int 60 t_MOST)))
    {c0 T0 : Addr} {q1 : Value} {q2 : Option Addr} {vs0 : Array Value} {q4 : Array (Option Value)} (y_cd : cd_two = .ref c0) (y_lc : K.lookup c0 = some ⟨q1, q2, .fields vs0, q4⟩) (y_vs : vs0[11]? = some (.ref T0)) (y_tn : K.lookup T0 = none)
    : ∃ (fd : FuncData) (c T : Addr), PySem.W.tabIn K "tokens_with_origins" = some (c, T) ∧ K.lookup T = none ∧ (∀ (s : Shared) (v : Value), BindsTo s fd ⟨[v], []⟩ [("_law_script", v)]) ∧ ∀ base : Heap, K.In base → base.Ns mainGlobals mg → LamX.TabB base mg c T → FnG prg w K mg base 12 fa fd ["_law_script"] (spLaw K T) := by
  have e := hfa.symm.trans (PySem.W.mg_of X G u_law)
  cases e
  have zb : ∀ x ∈ (["len", "abs", "max", "min", "int", "divmod", "repr", "isinstance", "enumerate", "range", "all", "super", "zip", "tuple", "dict", "bool", "str", "list", "any", "sorted"] : List String), mg (Str.ofString x) = none := fun x hx => PySem.W.mg_none_of X G (by
    have e : ∀ y ∈ (["len", "abs", "max", "min", "int", "divmod", "repr", "isinstance", "enumerate", "range", "all", "super", "zip", "tuple", "dict", "bool", "str", "list", "any", "sorted"] : List String), (fun x => PySem.W.nsIn K mainGlobals (Str.ofString x)) y = (fun _ => some none) y := List.map_inj_left.mp (zz.trans rfl)
    exact e x hx)
  have T : Blt mg := ⟨fun x hx => by
    simp only [List.mem_cons, List.not_mem_nil, or_false] at hx
    rcases hx with rfl | rfl | rfl | rfl | rfl | rfl | rfl | rfl | rfl | rfl | rfl | rfl | rfl | rfl | rfl | rfl | rfl | rfl <;> exact zb _ (by decide)⟩
  have X_InvalidText := xok_InvalidText X G a_InvalidText b_InvalidText i_InvalidText S_InvalidText
  have X_InvalidDiff := xok_InvalidDiff X G a_InvalidDiff b_InvalidDiff i_InvalidDiff S_InvalidDiff
  have M_MOST := PySem.W.mg_of X G c_MOST
  have F_whole := fun_mk (st := sWhole) l_whole v_whole k_whole
  have b_whole := F_whole.binds (ps := ["value"]) fun _ _ _ _ _ _ us hl => match us, hl with | [_], _ => rfl
  have m_whole := PySem.W.mg_of X G u_whole
  have F_list := fun_mk (st := sIsList) l_list v_list k_list
  have b_list := F_list.binds (ps := ["value"]) fun _ _ _ _ _ _ us hl => match us, hl with | [_], _ => rfl
  have m_list := PySem.W.mg_of X G u_list
  have F_tup := fun_mk (st := sIsTuple) l_tup v_tup k_tup
  have b_tup := F_tup.binds (ps := ["value", "many"]) fun _ _ _ _ _ _ us hl => match us, hl with | [_, _], _ => rfl
  have m_tup := PySem.W.mg_of X G u_tup
  have F_spot := fun_mk (st := sSpot) l_spot v_spot k_spot
  have b_spot := F_spot.binds (ps := ["value"]) fun _ _ _ _ _ _ us hl => match us, hl with | [_], _ => rfl
  have m_spot := PySem.W.mg_of X G u_spot
  have F_line := fun_mk (st := sLine) l_line v_line k_line
  have b_line := F_line.binds (ps := ["value"]) fun _ _ _ _ _ _ us hl => match us, hl with | [_], _ => rfl
  have m_line := PySem.W.mg_of X G u_line
  have F_text := fun_mk (st := sIsText) l_text v_text k_text
  have b_text := F_text.binds (ps := ["value"]) fun _ _ _ _ _ _ us hl => match us, hl with | [_], _ => rfl
  have m_text := PySem.W.mg_of X G u_text
  have F_check := fun_mk (st := sCheck) l_check v_check k_check
  have m_check := PySem.W.mg_of X G u_check
  have F_pair := fun_mk (st := sPair) l_pair v_pair k_pair
  have b_pair := F_pair.binds (ps := ["old", "new", "value"]) fun _ _ _ _ _ _ us hl => match us, hl with | [_, _, _], _ => rfl
  have m_pair := PySem.W.mg_of X G u_pair
  have F_rise := fun_mk (st := sRising) l_rise v_rise k_rise
  have b_rise := F_rise.binds (ps := ["pairs"]) fun _ _ _ _ _ _ us hl => match us, hl with | [_], _ => rfl
  have m_rise := PySem.W.mg_of X G u_rise
  have F_isdiff := fun_mk (st := sIsDiff) l_isdiff v_isdiff k_isdiff
  have b_isdiff := F_isdiff.binds (ps := ["old", "new", "value"]) fun _ _ _ _ _ _ us hl => match us, hl with | [_, _, _], _ => rfl
  have m_isdiff := PySem.W.mg_of X G u_isdiff
  have F_checkd := fun_mk (st := sCheckD) l_checkd v_checkd k_checkd
  have b_checkd := F_checkd.binds (ps := ["old", "new", "diff"]) fun _ _ _ _ _ _ us hl => match us, hl with | [_, _, _], _ => rfl
  have m_checkd := PySem.W.mg_of X G u_checkd
  have F_gaps := fun_mk (st := sGaps) l_gaps v_gaps k_gaps
  have b_gaps := F_gaps.binds (ps := ["old", "new", "diff"]) fun _ _ _ _ _ _ us hl => match us, hl with | [_, _, _], _ => rfl
  have m_gaps := PySem.W.mg_of X G u_gaps
  have F_blocks := fun_mk (st := sBlocks) l_blocks v_blocks k_blocks
  have b_blocks := F_blocks.binds (ps := ["old", "new", "diff"]) fun _ _ _ _ _ _ us hl => match us, hl with | [_, _, _], _ => rfl
  have m_blocks := PySem.W.mg_of X G u_blocks
  have F_vers := fun_mk (st := sVers) l_vers v_vers k_vers
  have b_vers := F_vers.binds (ps := ["base", "one", "two", "diff_one", "diff_two"]) fun _ _ _ _ _ _ us hl => match us, hl with | [_, _, _, _, _], _ => rfl
  have m_vers := PySem.W.mg_of X G u_vers
  have F_cover := fun_mk (st := sCover) l_cover v_cover k_cover
  have b_cover := F_cover.binds (ps := ["block"]) fun _ _ _ _ _ _ us hl => match us, hl with | [_], _ => rfl
  have m_cover := PySem.W.mg_of X G u_cover
  have F_knots := fun_mk (st := sKnots) l_knots v_knots k_knots
  have b_knots := F_knots.binds (ps := ["base", "one", "two", "diff_one", "diff_two"]) fun _ _ _ _ _ _ us hl => match us, hl with | [_, _, _, _, _], _ => rfl
  have m_knots := PySem.W.mg_of X G u_knots
  have F_bounds := fun_mk (st := sBounds) l_bounds v_bounds k_bounds
  have b_bounds := F_bounds.binds (ps := ["knot"]) fun _ _ _ _ _ _ us hl => match us, hl with | [_], _ => rfl
  have m_bounds := PySem.W.mg_of X G u_bounds
  have F_lines := fun_mk (st := sLines) l_lines v_lines k_lines
  have b_lines := F_lines.binds (ps := ["text", "block"]) fun _ _ _ _ _ _ us hl => match us, hl with | [_, _], _ => rfl
  have m_lines := PySem.W.mg_of X G u_lines
  have F_kind := fun_mk (st := sKind) l_kind v_kind k_kind
  have b_kind := F_kind.binds (ps := ["knot", "one", "two"]) fun _ _ _ _ _ _ us hl => match us, hl with | [_, _, _], _ => rfl
  have m_kind := PySem.W.mg_of X G u_kind
  have F_stretch := fun_mk (st := sStretch) l_stretch v_stretch k_stretch
  have b_stretch := F_stretch.binds (ps := ["knot"]) fun _ _ _ _ _ _ us hl => match us, hl with | [_], _ => rfl
  have m_stretch := PySem.W.mg_of X G u_stretch
  have F_ncome := fun_mk (st := sNCome) l_ncome v_ncome k_ncome
  have b_ncome := F_ncome.binds (ps := ["blocks"]) fun _ _ _ _ _ _ us hl => match us, hl with | [_], _ => rfl
  have m_ncome := PySem.W.mg_of X G u_ncome
  have F_within := fun_mk (st := sLW) l_within v_within k_within
  have b_within := F_within.binds (ps := ["text", "diff", "blocks", "a", "b"]) fun _ _ _ _ _ _ us hl => match us, hl with | [_, _, _, _, _], _ => rfl
  have m_within := PySem.W.mg_of X G u_within
  have F_fates := fun_mk (st := sFates) l_fates v_fates k_fates
  have b_fates := F_fates.binds (ps := ["base", "one", "two", "diff_one", "diff_two"]) fun _ _ _ _ _ _ us hl => match us, hl with | [_, _, _, _, _], _ => rfl
  have m_fates := PySem.W.mg_of X G u_fates
  have F_tokk := fun_mk (st := sTokK) l_tokk v_tokk k_tokk
  have b_tokk := F_tokk.binds (ps := ["knot", "base", "one", "two", "diff_one", "diff_two"]) fun _ _ _ _ _ _ us hl => match us, hl with | [_, _, _, _, _, _], _ => rfl
  have m_tokk := PySem.W.mg_of X G u_tokk
  have F_two := fun_mk (st := sTWO) l_two v_two k_two
  have b_two := F_two.binds (ps := ["base", "one", "two", "diff_one", "diff_two"]) fun _ _ _ _ _ _ us hl => match us, hl with | [_, _, _, _, _], _ => rfl
  have m_two := PySem.W.mg_of X G u_two
  have F_merged := fun_mk (st := sMerged) l_merged v_merged k_merged
  have b_merged := F_merged.binds (ps := ["base", "one", "two", "diff_one", "diff_two"]) fun _ _ _ _ _ _ us hl => match us, hl with | [_, _, _, _, _], _ => rfl
  have m_merged := PySem.W.mg_of X G u_merged
  have F_isc := fun_mk (st := sIsC) l_isc v_isc k_isc
  have b_isc := F_isc.binds (ps := ["token"]) fun _ _ _ _ _ _ us hl => match us, hl with | [_], _ => rfl
  have m_isc := PySem.W.mg_of X G u_isc
  have F_to := fun_mk (st := sTO) l_to v_to k_to
  have b_to := F_to.binds (ps := ["base", "one", "two", "diff_one", "diff_two"]) fun _ _ _ _ _ _ us hl => match us, hl with | [_, _, _, _, _], _ => rfl
  have m_to := PySem.W.mg_of X G u_to
  have F_pot := fun_mk (st := sPot) l_pot v_pot k_pot
  have b_pot := F_pot.binds (ps := ["_law_script", "_law_index"]) fun _ _ _ _ _ _ us hl => match us, hl with | [_, _], _ => rfl
  have m_pot := PySem.W.mg_of X G u_pot
  have F_draw := fun_mk (st := sDraw) l_draw v_draw k_draw
  have b_draw := F_draw.binds (ps := ["_law_pot_here", "_law_many"]) fun _ _ _ _ _ _ us hl => match us, hl with | [_, _], _ => rfl
  have m_draw := PySem.W.mg_of X G u_draw
  have F_pick := fun_mk (st := sPick) l_pick v_pick k_pick
  have b_pick := F_pick.binds (ps := ["_law_pot_here", "_law_some"]) fun _ _ _ _ _ _ us hl => match us, hl with | [_, _], _ => rfl
  have m_pick := PySem.W.mg_of X G u_pick
  have F_plan := fun_mk (st := sPlan) l_plan v_plan k_plan
  have b_plan := F_plan.binds (ps := ["_law_pot_here", "_law_many", "_law_words"]) fun _ _ _ _ _ _ us hl => match us, hl with | [_, _, _], _ => rfl
  have m_plan := PySem.W.mg_of X G u_plan
  have F_second := fun_mk (st := sSecond) l_second v_second k_second
  have b_second := F_second.binds (ps := ["_law_pot_here", "_law_plan_here", "_law_words"]) fun _ _ _ _ _ _ us hl => match us, hl with | [_, _, _], _ => rfl
  have m_second := PySem.W.mg_of X G u_second
  have F_edited := fun_mk (st := sEdited) l_edited v_edited k_edited
  have b_edited := F_edited.binds (ps := ["_law_root", "_law_plan_here"]) fun _ _ _ _ _ _ us hl => match us, hl with | [_, _], _ => rfl
  have m_edited := PySem.W.mg_of X G u_edited
  have F_case := fun_mk (st := sCase) l_case v_case k_case
  have b_case := F_case.binds (ps := ["_law_pot_here", "_law_most"]) fun _ _ _ _ _ _ us hl => match us, hl with | [_, _], _ => rfl
  have m_case := PySem.W.mg_of X G u_case
  have F_lparts := fun_mk (st := sLParts) l_lparts v_lparts k_lparts
  have b_lparts := F_lparts.binds (ps := ["_law_many", "_law_long", "_law_pairs"]) fun _ _ _ _ _ _ us hl => match us, hl with | [_, _, _], _ => rfl
  have m_lparts := PySem.W.mg_of X G u_lparts
  have F_both := fun_mk (st := sBoth) l_both v_both k_both
  have b_both := F_both.binds (ps := ["_law_case_here"]) fun _ _ _ _ _ _ us hl => match us, hl with | [_], _ => rfl
  have m_both := PySem.W.mg_of X G u_both
  have F_lcover := fun_mk (st := sLCover) l_lcover v_lcover k_lcover
  have b_lcover := F_lcover.binds (ps := ["_law_part"]) fun _ _ _ _ _ _ us hl => match us, hl with | [_], _ => rfl
  have m_lcover := PySem.W.mg_of X G u_lcover
  have F_met := fun_mk (st := sMet) l_met v_met k_met
  have b_met := F_met.binds (ps := ["_law_group", "_law_low", "_law_high"]) fun _ _ _ _ _ _ us hl => match us, hl with | [_, _, _], _ => rfl
  have m_met := PySem.W.mg_of X G u_met
  have F_first := fun_mk (st := sFirst) l_first v_first k_first
  have b_first := F_first.binds (ps := ["_law_group"]) fun _ _ _ _ _ _ us hl => match us, hl with | [_], _ => rfl
  have m_first := PySem.W.mg_of X G u_first
  have F_asknot := fun_mk (st := sAsKnot) l_asknot v_asknot k_asknot
  have b_asknot := F_asknot.binds (ps := ["_law_group"]) fun _ _ _ _ _ _ us hl => match us, hl with | [_], _ => rfl
  have m_asknot := PySem.W.mg_of X G u_asknot
  have F_groups := fun_mk (st := sGroups) l_groups v_groups k_groups
  have b_groups := F_groups.binds (ps := ["_law_case_here"]) fun _ _ _ _ _ _ us hl => match us, hl with | [_], _ => rfl
  have m_groups := PySem.W.mg_of X G u_groups
  have F_sort := fun_mk (st := sSort) l_sort v_sort k_sort
  have b_sort := F_sort.binds (ps := ["_law_knot", "_law_case_here"]) fun _ _ _ _ _ _ us hl => match us, hl with | [_, _], _ => rfl
  have m_sort := PySem.W.mg_of X G u_sort
  have F_src := fun_mk (st := sSrc) l_src v_src k_src
  have b_src := F_src.binds (ps := ["_law_case_here", "_law_knot", "_law_ahead"]) fun _ _ _ _ _ _ us hl => match us, hl with | [_, _, _], _ => rfl
  have m_src := PySem.W.mg_of X G u_src
  have F_walk := fun_mk (st := sWalk) l_walk v_walk k_walk
  have b_walk := F_walk.binds (ps := ["_law_case_here"]) fun _ _ _ _ _ _ us hl => match us, hl with | [_], _ => rfl
  have m_walk := PySem.W.mg_of X G u_walk
  have F_from := fun_mk (st := sFrom) l_from v_from k_from
  have b_from := F_from.binds (ps := ["_law_case_here", "_law_token", "_law_source"]) fun _ _ _ _ _ _ us hl => match us, hl with | [_, _, _], _ => rfl
  have m_from := PySem.W.mg_of X G u_from
  have F_right := fun_mk (st := sRight) l_right v_right k_right
  have b_right := F_right.binds (ps := ["_law_pot_here"]) fun _ _ _ _ _ _ us hl => match us, hl with | [_], _ => rfl
  have m_right := PySem.W.mg_of X G u_right
  have F_law := fun_mk (st := sLaw) l_law v_law k_law
  have b_law := F_law.binds (ps := ["_law_script"]) fun _ _ _ _ _ _ us hl => match us, hl with | [_], _ => rfl
  have m_law := PySem.W.mg_of X G u_law
  have yTab : PySem.W.tabIn K "tokens_with_origins" = some (c0, T0) := tabIn_of u_two l_two y_cd y_lc y_vs
  have CA := codeAt_of yTab u_two
  refine ⟨PySem.W.fnOf "law" "law" (defArgs sLaw) (defBody sLaw) (defScope sLaw) .none kV_law dc_law pm_law an_law cd_law ct_law, c0, T0, yTab, y_tn, fun s v => .of_eq rfl, fun base _ _ TB => ?_⟩
  have G_whole := ok_whole (P := prg) (w := w) (base := base) F_whole T
  have G_tup := ok_tup (P := prg) (w := w) (base := base) F_tup T
  have G_spot := ok_spot (P := prg) (w := w) (base := base) F_spot T F_tup b_tup m_tup F_whole b_whole m_whole
  have G_line := ok_line (P := prg) (w := w) (base := base) F_line T
  have G_text := ok_isText (P := prg) (w := w) (base := base) F_text T M_MOST F_list b_list m_list F_line b_line m_line
  have G_check := ok_check (P := prg) (w := w) (base := base) l_check v_check (T.all "super" (by decide)) X_InvalidText F_text G_text b_text m_text
  have G_pair := ok_pair (P := prg) (w := w) (base := base) F_pair T F_spot G_spot b_spot m_spot
  have G_isdiff := ok_isDiff (P := prg) (w := w) (base := base) F_isdiff T G_check k_check m_check F_pair G_pair b_pair m_pair F_rise b_rise m_rise
  have G_checkd := ok_checkD (P := prg) (w := w) (base := base) F_checkd (T.all "super" (by decide)) X_InvalidDiff F_isdiff G_isdiff b_isdiff m_isdiff
  have CK : Chk prg w K mg base g_checkd _ _ _ := ⟨F_checkd, G_checkd, b_checkd, m_checkd⟩
  have G_gaps := ok_gaps (P := prg) (w := w) (base := base) F_gaps T
  have G_blocks := ok_blocks (P := prg) (w := w) (base := base) F_blocks CK F_gaps G_gaps b_gaps m_gaps
  have G_vers := ok_vers (P := prg) (w := w) (base := base) F_vers G_check k_check m_check CK
  have G_cover := ok_cover (P := prg) (w := w) (base := base) (mg := mg) F_cover
  have G_knots := ok_knots (P := prg) (w := w) (base := base) F_knots T (zb "sorted" (by decide)) F_vers G_vers b_vers m_vers F_blocks G_blocks b_blocks m_blocks F_cover G_cover b_cover m_cover
  have G_bounds := ok_bounds (P := prg) (w := w) (base := base) F_bounds T
  have G_lines := ok_lines (P := prg) (w := w) (base := base) F_lines T
  have G_kind := ok_kind (P := prg) (w := w) (base := base) F_kind T F_lines G_lines b_lines m_lines
  have G_stretch := ok_stretch (P := prg) (w := w) (base := base) F_stretch T F_cover G_cover b_cover m_cover
  have G_ncome := ok_nCome (P := prg) (w := w) (base := base) F_ncome T
  have G_within := ok_within (P := prg) (w := w) (base := base) F_within T (zb "sorted" (by decide)) F_ncome G_ncome b_ncome m_ncome
  have G_fates := ok_fates (P := prg) (w := w) (base := base) F_fates T F_knots G_knots b_knots m_knots F_stretch G_stretch b_stretch m_stretch F_kind G_kind b_kind m_kind
  have G_tokk := ok_tokK (P := prg) (w := w) (base := base) F_tokk T F_kind G_kind b_kind m_kind F_bounds G_bounds b_bounds m_bounds F_within G_within b_within m_within F_ncome G_ncome b_ncome m_ncome
  have G_two := ok_two (P := prg) (w := w) (base := base) F_two CA TB T (zb "sorted" (by decide)) F_knots G_knots b_knots m_knots F_fates G_fates b_fates m_fates F_stretch G_stretch b_stretch m_stretch F_tokk G_tokk b_tokk m_tokk
  have G_merged := ok_merged (P := prg) (w := w) (base := base) F_merged T F_two G_two b_two m_two
  have G_isc := ok_isC (P := prg) (w := w) (base := base) F_isc T
  have G_to := ok_to (P := prg) (w := w) (base := base) F_to T F_two G_two b_two m_two F_isc G_isc b_isc m_isc
  have G_pot := ok_pot (P := prg) (w := w) (base := base) F_pot T
  have G_draw := ok_draw (P := prg) (w := w) (base := base) F_draw T
  have G_pick := ok_pick (P := prg) (w := w) (base := base) F_pick T F_draw b_draw m_draw
  have DR : Draws prg w K mg base _ _ _ _ := ⟨F_draw, G_draw, b_draw, m_draw, F_pick, G_pick, b_pick, m_pick⟩
  have G_plan := ok_plan (P := prg) (w := w) (base := base) F_plan T DR
  have G_second := ok_second (P := prg) (w := w) (base := base) F_second T DR F_plan G_plan b_plan m_plan
  have G_edited := ok_edited (P := prg) (w := w) (base := base) F_edited T
  have G_case := ok_case (P := prg) (w := w) (base := base) F_case T DR F_plan G_plan b_plan m_plan F_second G_second b_second m_second F_edited G_edited b_edited m_edited
  have G_lparts := ok_lParts (P := prg) (w := w) (base := base) F_lparts T
  have G_both := ok_both (P := prg) (w := w) (base := base) F_both T F_lparts G_lparts b_lparts m_lparts
  have G_lcover := ok_lCover (P := prg) (w := w) (base := base) (mg := mg) F_lcover
  have G_met := ok_met (P := prg) (w := w) (base := base) F_met T (zb "any" (by decide)) F_lcover G_lcover b_lcover m_lcover
  have G_first := ok_first (P := prg) (w := w) (base := base) F_first T F_lcover G_lcover b_lcover m_lcover
  have G_asknot := ok_asKnot (P := prg) (w := w) (base := base) F_asknot T (zb "sorted" (by decide))
  have G_groups := ok_groups (P := prg) (w := w) (base := base) F_groups T (zb "sorted" (by decide)) F_both G_both b_both m_both F_lcover G_lcover b_lcover m_lcover F_met G_met b_met m_met F_first G_first b_first m_first F_asknot G_asknot b_asknot m_asknot
  have G_sort := ok_sort (P := prg) (w := w) (base := base) F_sort T (zb "any" (by decide))
  have G_src := ok_src (P := prg) (w := w) (base := base) F_src T F_sort G_sort b_sort m_sort
  have G_walk := ok_walk (P := prg) (w := w) (base := base) F_walk T F_groups G_groups b_groups m_groups F_lcover G_lcover b_lcover m_lcover F_sort G_sort b_sort m_sort F_src G_src b_src m_src
  have G_from := ok_from (P := prg) (w := w) (base := base) F_from T
  have G_right := ok_right (P := prg) (w := w) (base := base) F_right T (zb "repr" (by decide)) F_case G_case b_case m_case F_walk G_walk b_walk m_walk F_to G_to b_to m_to F_merged G_merged b_merged m_merged F_from G_from b_from m_from F_fates G_fates b_fates m_fates
  exact ok_law F_law T F_pot G_pot b_pot m_pot F_right G_right b_right m_right
theorem walk {l : PySem.W.OpenLaw} {q : Program} {loose : List Str} {XP : (Str → Option Value) → Heap → Prop} {YP : World → Heap → Prop} {d : DefRec} {K : Params → PySem.W.Frag} (hn : l.most = some 63) (hdf : d.params.defaults = [])
    (hY : ∀ (w : World) (h : Heap), YP w h → (K w.params).In h)
    (hrec : ((PyProof.Rows.recsOf q).find? (fun e => e.name == PySem.Str.ofString "tokens_with_origins")).isSome = true)
    (F : ∀ (w : World) (mg : Str → Option Value) (fa : Addr) (h : Heap), (K w.params).In h → h.Ns mainGlobals mg → mg d.name = some (.ref fa) →
      ∃ (fd : FuncData) (c T : Addr), PySem.W.tabIn (K w.params) "tokens_with_origins" = some (c, T) ∧ (K w.params).lookup T = none ∧ (∀ (s : Shared) (u : Value), BindsTo s fd ⟨[u], []⟩ [("_law_script", u)]) ∧ ∀ base : Heap, (K w.params).In base → base.Ns mainGlobals mg → LamX.TabB base mg c T → FnG l.prog w (K w.params) mg base 12 fa fd ["_law_script"] (spLaw (K w.params) T)) :
    PySem.W.WalkO q loose XP YP l.row.toRowW d [] (fun f vs => PySem.call f vs) := by
  obtain ⟨dt, hrec⟩ := Option.isSome_iff_exists.mp hrec
  exact walkTG (n := 63) (k := 12) (x := "_law_script") (sp := fun w _ T => spLaw (K w.params) T) hn (by decide) hdf ⟨rfl, by decide, by decide⟩ hY hrec F (fun _ _ a _ T ns hl hT hS => ⟨a, ns, rfl, hS, hl, tabS_nil hT, fun _ => rfl⟩)
end K62
open PySem PySem.W PyProof.Rows
set_option maxRecDepth 100000 in
set_option maxHeartbeats 0 in
theorem PySem.Challenge.cw_alldiffs_k62_origins_and_fates_holds : PySem.Challenge.rw_alldiffs_k62_origins_and_fates.Holds := by
  w_on; o_law; k_headL; (case hw => w_witness2)
  k_fill
  refine K62.walk (l := PySem.Challenge.rw_alldiffs_k62_origins_and_fates) rfl rfl (fun w h Y => PySem.W.kIn_of Y) ?R ?F
  case R => kernel_rfl
  case F =>
    intro w mg fa h KX G hmg
    refine' K62.all_mk KX G hmg ?a_InvalidText ?b_InvalidText ?i_InvalidText ?S_InvalidText ?a_InvalidDiff ?b_InvalidDiff ?i_InvalidDiff ?S_InvalidDiff ?u_whole ?l_whole ?v_whole ?k_whole ?u_list ?l_list ?v_list ?k_list ?u_tup ?l_tup ?v_tup ?k_tup ?u_spot ?l_spot ?v_spot ?k_spot ?u_line ?l_line ?v_line ?k_line ?u_text ?l_text ?v_text ?k_text ?u_check ?l_check ?v_check ?k_check ?u_pair ?l_pair ?v_pair ?k_pair ?u_rise ?l_rise ?v_rise ?k_rise ?u_isdiff ?l_isdiff ?v_isdiff ?k_isdiff ?u_checkd ?l_checkd ?v_checkd ?k_checkd ?u_gaps ?l_gaps ?v_gaps ?k_gaps ?u_blocks ?l_blocks ?v_blocks ?k_blocks ?u_vers ?l_vers ?v_vers ?k_vers ?u_cover ?l_cover ?v_cover ?k_cover ?u_knots ?l_knots ?v_knots ?k_knots ?u_bounds ?l_bounds ?v_bounds ?k_bounds ?u_lines ?l_lines ?v_lines ?k_lines ?u_kind ?l_kind ?v_kind ?k_kind ?u_stretch ?l_stretch ?v_stretch ?k_stretch ?u_ncome ?l_ncome ?v_ncome ?k_ncome ?u_within ?l_within ?v_within ?k_within ?u_fates ?l_fates ?v_fates ?k_fates ?u_tokk ?l_tokk ?v_tokk ?k_tokk ?u_two ?l_two ?v_two ?k_two ?u_merged ?l_merged ?v_merged ?k_merged ?u_isc ?l_isc ?v_isc ?k_isc ?u_to ?l_to ?v_to ?k_to ?u_pot ?l_pot ?v_pot ?k_pot ?u_draw ?l_draw ?v_draw ?k_draw ?u_pick ?l_pick ?v_pick ?k_pick ?u_plan ?l_plan ?v_plan ?k_plan ?u_second ?l_second ?v_second ?k_second ?u_edited ?l_edited ?v_edited ?k_edited ?u_case ?l_case ?v_case ?k_case ?u_lparts ?l_lparts ?v_lparts ?k_lparts ?u_both ?l_both ?v_both ?k_both ?u_lcover ?l_lcover ?v_lcover ?k_lcover ?u_met ?l_met ?v_met ?k_met ?u_first ?l_first ?v_first ?k_first ?u_asknot ?l_asknot ?v_asknot ?k_asknot ?u_groups ?l_groups ?v_groups ?k_groups ?u_sort ?l_sort ?v_sort ?k_sort ?u_src ?l_src ?v_src ?k_src ?u_walk ?l_walk ?v_walk ?k_walk ?u_from ?l_from ?v_from ?k_from ?u_right ?l_right ?v_right ?k_right ?u_law ?l_law ?v_law ?k_law ?zz ?c_MOST  ?y_cd ?y_lc ?y_vs ?y_tn
    (case a_InvalidText => k_is); (case b_InvalidText => k_is); (case i_InvalidText => exact ⟨_, _, _, _, _, _, _, _, rfl⟩)
    (case a_InvalidDiff => k_is); (case b_InvalidDiff => k_is); (case i_InvalidDiff => exact ⟨_, _, _, _, _, _, _, _, rfl⟩)
    (case u_whole => k_is); (case l_whole => k_is); (case v_whole => k_is); (case k_whole => k_is)
    (case u_list => k_is); (case l_list => k_is); (case v_list => k_is); (case k_list => k_is)
    (case u_tup => k_is); (case l_tup => k_is); (case v_tup => k_is); (case k_tup => k_is)
    (case u_spot => k_is); (case l_spot => k_is); (case v_spot => k_is); (case k_spot => k_is)
    (case u_line => k_is); (case l_line => k_is); (case v_line => k_is); (case k_line => k_is)
    (case u_text => k_is); (case l_text => k_is); (case v_text => k_is); (case k_text => k_is)
    (case u_check => k_is); (case l_check => k_is); (case v_check => k_is); (case k_check => k_is)
    (case u_pair => k_is); (case l_pair => k_is); (case v_pair => k_is); (case k_pair => k_is)
    (case u_rise => k_is); (case l_rise => k_is); (case v_rise => k_is); (case k_rise => k_is)
    (case u_isdiff => k_is); (case l_isdiff => k_is); (case v_isdiff => k_is); (case k_isdiff => k_is)
    (case u_checkd => k_is); (case l_checkd => k_is); (case v_checkd => k_is); (case k_checkd => k_is)
    (case u_gaps => k_is); (case l_gaps => k_is); (case v_gaps => k_is); (case k_gaps => k_is)
    (case u_blocks => k_is); (case l_blocks => k_is); (case v_blocks => k_is); (case k_blocks => k_is)
    (case u_vers => k_is); (case l_vers => k_is); (case v_vers => k_is); (case k_vers => k_is)
    (case u_cover => k_is); (case l_cover => k_is); (case v_cover => k_is); (case k_cover => k_is)
    (case u_knots => k_is); (case l_knots => k_is); (case v_knots => k_is); (case k_knots => k_is)
    (case u_bounds => k_is); (case l_bounds => k_is); (case v_bounds => k_is); (case k_bounds => k_is)
    (case u_lines => k_is); (case l_lines => k_is); (case v_lines => k_is); (case k_lines => k_is)
    (case u_kind => k_is); (case l_kind => k_is); (case v_kind => k_is); (case k_kind => k_is)
    (case u_stretch => k_is); (case l_stretch => k_is); (case v_stretch => k_is); (case k_stretch => k_is)
    (case u_ncome => k_is); (case l_ncome => k_is); (case v_ncome => k_is); (case k_ncome => k_is)
    (case u_within => k_is); (case l_within => k_is); (case v_within => k_is); (case k_within => k_is)
    (case u_fates => k_is); (case l_fates => k_is); (case v_fates => k_is); (case k_fates => k_is)
    (case u_tokk => k_is); (case l_tokk => k_is); (case v_tokk => k_is); (case k_tokk => k_is)
    (case u_two => k_is); (case l_two => k_is); (case v_two => k_is); (case k_two => k_is)
    (case u_merged => k_is); (case l_merged => k_is); (case v_merged => k_is); (case k_merged => k_is)
    (case u_isc => k_is); (case l_isc => k_is); (case v_isc => k_is); (case k_isc => k_is)
    (case u_to => k_is); (case l_to => k_is); (case v_to => k_is); (case k_to => k_is)
    (case u_pot => k_is); (case l_pot => k_is); (case v_pot => k_is); (case k_pot => k_is)
    (case u_draw => k_is); (case l_draw => k_is); (case v_draw => k_is); (case k_draw => k_is)
    (case u_pick => k_is); (case l_pick => k_is); (case v_pick => k_is); (case k_pick => k_is)
    (case u_plan => k_is); (case l_plan => k_is); (case v_plan => k_is); (case k_plan => k_is)
    (case u_second => k_is); (case l_second => k_is); (case v_second => k_is); (case k_second => k_is)
    (case u_edited => k_is); (case l_edited => k_is); (case v_edited => k_is); (case k_edited => k_is)
    (case u_case => k_is); (case l_case => k_is); (case v_case => k_is); (case k_case => k_is)
    (case u_lparts => k_is); (case l_lparts => k_is); (case v_lparts => k_is); (case k_lparts => k_is)
    (case u_both => k_is); (case l_both => k_is); (case v_both => k_is); (case k_both => k_is)
    (case u_lcover => k_is); (case l_lcover => k_is); (case v_lcover => k_is); (case k_lcover => k_is)
    (case u_met => k_is); (case l_met => k_is); (case v_met => k_is); (case k_met => k_is)
    (case u_first => k_is); (case l_first => k_is); (case v_first => k_is); (case k_first => k_is)
    (case u_asknot => k_is); (case l_asknot => k_is); (case v_asknot => k_is); (case k_asknot => k_is)
    (case u_groups => k_is); (case l_groups => k_is); (case v_groups => k_is); (case k_groups => k_is)
    (case u_sort => k_is); (case l_sort => k_is); (case v_sort => k_is); (case k_sort => k_is)
    (case u_src => k_is); (case l_src => k_is); (case v_src => k_is); (case k_src => k_is)
    (case u_walk => k_is); (case l_walk => k_is); (case v_walk => k_is); (case k_walk => k_is)
    (case u_from => k_is); (case l_from => k_is); (case v_from => k_is); (case k_from => k_is)
    (case u_right => k_is); (case l_right => k_is); (case v_right => k_is); (case k_right => k_is)
    (case u_law => k_is); (case l_law => k_is); (case v_law => k_is); (case k_law => k_is)
    (case c_MOST => k_is)
    (case S_InvalidText => exact ⟨by kernel_rfl, by kernel_rfl, by kernel_rfl, by kernel_rfl, by kernel_rfl, by kernel_rfl, by kernel_rfl, by kernel_rfl, by kernel_rfl, by kernel_rfl, by kernel_rfl, by kernel_rfl, by kernel_rfl, by kernel_rfl, by kernel_rfl, by kernel_rfl, by kernel_rfl, by kernel_rfl, by kernel_rfl, by kernel_rfl, by kernel_rfl, by kernel_rfl, by kernel_rfl, by kernel_rfl⟩)
    (case S_InvalidDiff => exact ⟨by kernel_rfl, by kernel_rfl, by kernel_rfl, by kernel_rfl, by kernel_rfl, by kernel_rfl, by kernel_rfl, by kernel_rfl, by kernel_rfl, by kernel_rfl, by kernel_rfl, by kernel_rfl, by kernel_rfl, by kernel_rfl, by kernel_rfl, by kernel_rfl, by kernel_rfl, by kernel_rfl, by kernel_rfl, by kernel_rfl, by kernel_rfl, by kernel_rfl, by kernel_rfl, by kernel_rfl⟩)
    (case y_cd => exact rfl); (case y_lc => k_is); (case y_vs => exact rfl); (case y_tn => kernel_rfl)
    (case zz => kernel_rfl)
