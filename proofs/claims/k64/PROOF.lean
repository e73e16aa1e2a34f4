import PyProof.Rows.All
import Wide.All
import OpenK.AllK
import Wide.FinOn
import KE.OsRunLaw
import HandS.ForMost
import HandS.RaiseMore
import PyProof.ReprRoads
import KE.KExcIs
import KE.KExcTry
import KE.KExcSuper
import HandS.Exc
import HandS.ExcInit
import HandS.ExcSuper
import HandS.ExcIs
import HandS.Star
import HandS.IsInst
import HandS.Text
import HandS.Walk
import HandS.TupAny
import HandS.TupMul
import HandS.WordsExc
import HandS.Iter
import KE.GoesEnum
import PyProof.Rows.IntBool
import PyProof.Rows.EqBoolInt
import HandS.TryMany
import PyProof.StrLawsRepr
import PySem.Challenge.RW_alldiffs_k64_rows_judged
set_option Elab.async false
set_option maxRecDepth 100000
set_option maxHeartbeats 8000000
set_option linter.all false
/-! repr of data that stands in the abstract heap: none, bools, ints, texts, lists, tuples, dicts with int and text keys. -/
namespace XR
open PySem PySem.Spec L2
mutual
inductive Dq (K : PySem.W.Frag) (H : Hp) : V → PyData → Prop
  | non : Dq K H .non .none
  | bl (b : Bool) : Dq K H (.bl b) (.bool b)
  | int (i : Int) : Dq K H (.int i) (.int i)
  | str (x : Str) : Dq K H (.str x) (.str x)
  | lst {a : Addr} {xs : List V} {ds : List PyData} : SqL K H a xs → DqAll K H xs ds → Dq K H (.ref a) (.list ds)
  | tup {a : Addr} {xs : List V} {ds : List PyData} : SqT K H a xs → DqAll K H xs ds → Dq K H (.ref a) (.tuple ds)
  | dct {a : Addr} {kvs : List (Key × V)} {ds : List (PyData × PyData)} : H a = some (.dK kvs) → DqAll K H (kvs.map fun p => kV p.1) (ds.map (·.1)) → DqAll K H (kvs.map (·.2)) (ds.map (·.2)) → Dq K H (.ref a) (.dict ds)
inductive DqAll (K : PySem.W.Frag) (H : Hp) : List V → List PyData → Prop
  | nil : DqAll K H [] []
  | cons {v : V} {vs : List V} {d : PyData} {ds : List PyData} : Dq K H v d → DqAll K H vs ds → DqAll K H (v :: vs) (d :: ds)
end
theorem DqAll.length {K : PySem.W.Frag} {H : Hp} : ∀ {vs : List V} {ds : List PyData}, DqAll K H vs ds → vs.length = ds.length
  | _, _, .nil => rfl
  | _, _, .cons _ h => by simp [h.length]
theorem DqAll.append {K : PySem.W.Frag} {H : Hp} : ∀ {vs ws : List V} {ds es : List PyData}, DqAll K H vs ds → DqAll K H ws es → DqAll K H (vs ++ ws) (ds ++ es)
  | _, _, _, _, .nil, h => h
  | _, _, _, _, .cons a b, h => .cons a (b.append h)
theorem DqAll.rep {K : PySem.W.Frag} {H : Hp} {v : V} {d : PyData} (h : Dq K H v d) : ∀ n : Nat, DqAll K H (List.replicate n v) (List.replicate n d)
  | 0 => .nil
  | n + 1 => by
    rw [List.replicate_succ, List.replicate_succ]
    exact .cons h (DqAll.rep h n)
theorem Same.tup {K : PySem.W.Frag} {H H' : Hp} {a : Addr} {xs : List V} (e : Same H H') (h : SqT K H a xs) : SqT K H' a xs := by
  rcases h with (h | ⟨o, h⟩) | h
  · exact .inl (.inl (e _ _ h))
  · exact .inl (.inr ⟨o, e _ _ h⟩)
  · exact .inr h
mutual
theorem Dq.same {K : PySem.W.Frag} {H H' : Hp} (e : Same H H') : ∀ {v : V} {d : PyData}, Dq K H v d → Dq K H' v d
  | _, _, .non => .non
  | _, _, .bl b => .bl b
  | _, _, .int i => .int i
  | _, _, .str x => .str x
  | _, _, .lst h1 h2 => .lst (e.seq h1) (DqAll.same e h2)
  | _, _, .tup h1 h2 => .tup (Same.tup e h1) (DqAll.same e h2)
  | _, _, .dct h1 h2 h3 => .dct (e _ _ h1) (DqAll.same e h2) (DqAll.same e h3)
theorem DqAll.same {K : PySem.W.Frag} {H H' : Hp} (e : Same H H') : ∀ {vs : List V} {ds : List PyData}, DqAll K H vs ds → DqAll K H' vs ds
  | _, _, .nil => .nil
  | _, _, .cons a b => .cons (Dq.same e a) (DqAll.same e b)
end
/-- the entries of a dict: their keys and values -/
theorem pairs_keys {P : Program} {w : World} : ∀ {kvs : List (Key × V)} {vs : List (Key × Value)} {es : List DictEntry}, KV kvs vs → Pairs (mixKind P w) es vs →
    Vals (kvs.map fun p => kV p.1) (es.map (·.key)) ∧ Vals (kvs.map (·.2)) (es.map (·.val))
  | _, _, _, .nil, h => by
    cases h
    exact ⟨.nil, .nil⟩
  | _, _, _, .cons r t, h => by
    cases h with
    | cons h1 h2 h3 =>
      obtain ⟨a, b⟩ := pairs_keys t h3
      obtain ⟨r1, r2⟩ := r
      refine ⟨.cons ?_ a, .cons ?_ b⟩
      · dsimp only
        rw [r1]
        rcases keyIs_shape (show keyIs _ _ = true from h1) with ⟨i, t, q1, q2⟩ | ⟨x, t, q1, q2⟩
        · rw [q1, q2]; exact ⟨t, rfl⟩
        · rw [q1, q2]; exact ⟨t, rfl⟩
      · dsimp only
        rw [h2]; exact r2
section
variable {X : Cx} {pins : List (Addr × Obj)} {σ : St} {H : Hp} {s : Shared}
mutual
theorem Dq.both (I : Inv X pins σ H s) : ∀ {v : V} {d : PyData} {u : Value}, Dq X.K H v d → RelV v u → d.showable = true → d.shown.length ≤ sizeLine →
    ∃ as bs, Reads s.heap u d as ∧ ReadAtMost s.heap d.depth bs ∧ ReprK X.prog X.w bs s.heap d.depth u d.shown
  | _, _, _, .non, r, _, _ => by
    cases r
    exact ⟨_, [], .none, (fun _ h => nomatch h), by simp only [PyData.shown]; exact .of_is ReprIs.none _ _ _⟩
  | _, _, _, .bl b, r, _, _ => by
    cases r
    exact ⟨_, [], .bool b, (fun _ h => nomatch h), by simp only [PyData.shown]; exact .of_is (ReprIs.bool b) _ _ _⟩
  | _, _, _, .int i, r, hs, _ => by
    obtain ⟨t, rfl⟩ := r
    exact ⟨_, [], .int i t, (fun _ h => nomatch h), by simp only [PyData.shown]; exact .of_is (ReprIs.int t (by simpa [PyData.showable] using hs)) _ _ _⟩
  | _, _, _, .str x, r, _, hz => by
    obtain ⟨t, rfl⟩ := r
    exact ⟨_, [], .str x t, (fun _ h => nomatch h), by simp only [PyData.shown]; exact .of_is (ReprIs.str x t (by simpa only [PyData.shown] using hz)) _ _ _⟩
  | _, _, _, .lst (a := a) (ds := ds) h1 h2, r, hs, hz => by
    cases r
    have hz' : (listText (PyData.shownAll ds)).length ≤ sizeLine := by simpa only [PyData.shown] using hz
    obtain ⟨its, rv, ⟨o, n, ho, hc, _, hd⟩, _⟩ := I.list h1
    obtain ⟨as, bs, q1, q2, q3⟩ := DqAll.both I h2 rv (by simpa [PyData.showable] using hs) (fun t ht => Nat.le_trans (listText_mem_le ht) hz')
    have rr : Reads s.heap (.ref a) (.list ds) _ := .list ho hc hd q1
    have hna : a ∉ bs := not_mem_of_deeper rr (by simp only [PyData.depth]; omega) q2
    refine ⟨_, a :: bs, rr, ReadAtMost.cons rr (by simp only [PyData.depth]; omega) q2, ?_⟩
    simp only [PyData.depth, PyData.shown]
    cases its with
    | nil =>
      cases q1
      simp only [PyData.shownAll, listText_nil]
      exact ReprK.listEmpty ho hc hd
    | cons y l => exact ReprK.list ho hc hd hna (by simpa using q3.length_eq) (fun i y e => q3.item i y (by simpa using e))
  | _, _, _, .tup (a := a) (ds := ds) h1 h2, r, hs, hz => by
    cases r
    have hz' : (tupleText (PyData.shownAll ds)).length ≤ sizeLine := by simpa only [PyData.shown] using hz
    obtain ⟨its, rv, ⟨o, ho, hc, n, hd⟩, _⟩ := I.tuple h1
    obtain ⟨as, bs, q1, q2, q3⟩ := DqAll.both I h2 rv (by simpa [PyData.showable] using hs) (fun t ht => Nat.le_trans (tupleText_mem_le ht) hz')
    have rr : Reads s.heap (.ref a) (.tuple ds) _ := .tuple ho hc hd q1
    have hna : a ∉ bs := not_mem_of_deeper rr (by simp only [PyData.depth]; omega) q2
    refine ⟨_, a :: bs, rr, ReadAtMost.cons rr (by simp only [PyData.depth]; omega) q2, ?_⟩
    simp only [PyData.depth, PyData.shown]
    exact ReprK.tuple ho hc hd hna q3
  | _, _, _, .dct (a := a) (kvs := kvs) (ds := ds) h1 h2 h3, r, hs, hz => by
    cases r
    have hz' : (dictText (PyData.shownKv ds)).length ≤ sizeLine := by simpa only [PyData.shown] using hz
    obtain ⟨hl, hsys, vs, rk, o, es, ep, ho, ⟨hc, _⟩, hd, _, hp, _⟩ := (show ObjOk X.prog X.w H s.heap a (.dK kvs) from I.hok a _ h1)
    obtain ⟨r1, r2⟩ := pairs_keys rk hp
    obtain ⟨s1, s2⟩ := PyData.showableKv_split ds (by simpa [PyData.showable] using hs)
    obtain ⟨a1, b1, q1, q2, q3⟩ := DqAll.both I h2 r1 s1 (fun t ht => let ⟨p, hp, hl⟩ := PyData.shownKv_key_le ds t ht; Nat.le_trans hl (Nat.le_trans (dictText_mem_le hp) hz'))
    obtain ⟨a2, b2, t1, t2, t3⟩ := DqAll.both I h3 r2 s2 (fun t ht => let ⟨p, hp, hl⟩ := PyData.shownKv_val_le ds t ht; Nat.le_trans hl (Nat.le_trans (dictText_mem_le hp) hz'))
    have rr : Reads s.heap (.ref a) (.dict ds) _ := .dict ho hc hd q1 t1
    have hb : ReadAtMost s.heap (PyData.depthKv ds) (b1 ++ b2) := (q2.mono (PyData.depthAll_keys_le ds)).append (t2.mono (PyData.depthAll_vals_le ds))
    have hna : a ∉ b1 ++ b2 := not_mem_of_deeper rr (by simp only [PyData.depth]; omega) hb
    refine ⟨_, a :: (b1 ++ b2), rr, ReadAtMost.cons rr (by simp only [PyData.depth]; omega) hb, ?_⟩
    simp only [PyData.depth, PyData.shown, PyData.shownKv_eq]
    exact ReprK.dict ho hc hd hsys hna (ReprEntriesK.of_two es.toList _ _
      (q3.more_le (fun b hb => List.mem_append_left _ hb) (PyData.depthAll_keys_le ds)) (t3.more_le (fun b hb => List.mem_append_right _ hb) (PyData.depthAll_vals_le ds)))
theorem DqAll.both (I : Inv X pins σ H s) : ∀ {vs : List V} {ds : List PyData} {us : List Value}, DqAll X.K H vs ds → Vals vs us → PyData.showableAll ds = true → (∀ t ∈ PyData.shownAll ds, t.length ≤ sizeLine) →
    ∃ as bs, ReadsAll s.heap us ds as ∧ ReadAtMost s.heap (PyData.depthAll ds) bs ∧ ReprAllK X.prog X.w bs s.heap (PyData.depthAll ds) us (PyData.shownAll ds)
  | _, _, _, .nil, r, _, _ => by
    cases r
    exact ⟨_, [], .nil, (fun _ h => nomatch h), .nil⟩
  | _, _, _, .cons (d := d) (ds := ds) h1 h2, r, hs, hz => by
    cases r with
    | cons r1 r2 =>
      have hs' : d.showable = true ∧ PyData.showableAll ds = true := by simpa [PyData.showableAll] using hs
      obtain ⟨a1, b1, q1, q2, q3⟩ := Dq.both I h1 r1 hs'.1 (hz _ (by simp only [PyData.shownAll]; exact List.mem_cons_self ..))
      obtain ⟨a2, b2, t1, t2, t3⟩ := DqAll.both I h2 r2 hs'.2 (fun t ht => hz t (by simp only [PyData.shownAll]; exact List.mem_cons_of_mem _ ht))
      refine ⟨_, b1 ++ b2, .cons q1 t1, ?_, ?_⟩
      · simp only [PyData.depthAll]
        exact (q2.mono (Nat.le_max_left _ _)).append (t2.mono (Nat.le_max_right _ _))
      · simp only [PyData.depthAll, PyData.shownAll]
        exact .cons ((q3.more fun b hb => List.mem_append_left _ hb).level_le (Nat.le_max_left _ _)) (t3.more_le (fun b hb => List.mem_append_right _ hb) (Nat.le_max_right _ _))
end
end
section
variable {X : Cx}
def rRepr (K : PySem.W.Frag) : List V → Hp → VK → Prop := fun xs H Q => ∃ x d, xs = [x] ∧ Dq K H x d ∧ d.showable = true ∧ d.shown.length ≤ sizeLine ∧ d.depth ≤ 60 ∧ Q (.str d.shown) H
/-- repr(x), x data; no repr is under way around -/
theorem call_reprQ (hg : X.A.guards = some []) (hu : X.A.units + 64 < cLine) : CallR X (.builtin "repr") (rRepr X.K) := by
  intro pins s σ H xs us Q I r h
  obtain ⟨x, d, rfl, hd, hs, hz, hdp, q⟩ := h
  obtain ⟨u, rfl, ru⟩ := vals1 r
  have fin : ∀ (h' : Heap) (t tk : Nat), (∀ b o, s.heap.get? b = some o → h'.get? b = some o) → EP X pins σ Q (.str d.shown t) { s with heap := h', toks := tk } := fun h' t tk k => ⟨.str d.shown, H, I.kept k, ⟨t, rfl⟩, q⟩
  cases hd with
  | non =>
    cases ru
    refine PySem.P.repr_of_none ?_
    have e := fin s.heap s.toks (s.toks + 1) fun _ _ q => q
    simpa only [PyData.shown] using e
  | bl b =>
    cases ru
    refine PySem.P.repr_of_bool ?_
    have e := fin s.heap s.toks (s.toks + 1) fun _ _ q => q
    simpa only [PyData.shown] using e
  | int i =>
    obtain ⟨t, rfl⟩ := ru
    refine PySem.P.repr_of_int (by simpa [PyData.showable] using hs) ?_
    have e := fin s.heap s.toks (s.toks + 1) fun _ _ q => q
    simpa only [PyData.shown] using e
  | str y =>
    obtain ⟨t, rfl⟩ := ru
    refine PySem.P.repr_of_str ?_ (by simpa only [PyData.shown] using hz)
    have e := fin s.heap s.toks (s.toks + 1) fun _ _ q => q
    simpa only [PyData.shown] using e
  | @lst a xs ds h1 h2 =>
    cases ru
    have hz' : (listText (PyData.shownAll ds)).length ≤ sizeLine := by simpa only [PyData.shown] using hz
    obtain ⟨its, rv, ⟨o, n, ho, hc, _, hd'⟩, _⟩ := I.list h1
    obtain ⟨as, bs, q1, q2, q3⟩ := DqAll.both I h2 rv (by simpa [PyData.showable] using hs) (fun t ht => Nat.le_trans (listText_mem_le ht) hz')
    have hna : a ∉ bs := not_mem_of_deeper (.list ho hc hd' q1) (by simp only [PyData.depth]; omega) q2
    simp only [PyData.depth] at hdp
    simp only [PyData.shown] at fin
    refine call_repr_slot (by omega) ⟨o, ho, hc⟩ F.slot_list_repr.toG ?_
    cases its with
    | nil =>
      cases q1
      simp only [PyData.shownAll, listText_nil] at fin
      exact call_list_repr_empty ⟨o, ho, hc⟩ ho hd' ⟨_, _, rfl, fin s.heap _ _ fun _ _ q => q⟩
    | cons y l =>
      exact call_list_reprK ho hc hd' hna (by simpa using q3.length_eq) (fun i y e => q3.item i y (by simpa using e)) (show X.A.in1.guards = some [] from hg) (fun b _ => Clear.nil b) (by show X.A.units + 1 + _ < cLine; omega) (fun _ _ q => q) (fun h' u tk k => ⟨_, _, rfl, fin h' u tk k⟩) hz'
  | @tup a xs ds h1 h2 =>
    cases ru
    have hz' : (tupleText (PyData.shownAll ds)).length ≤ sizeLine := by simpa only [PyData.shown] using hz
    obtain ⟨its, rv, ⟨o, ho, hc, n, hd'⟩, _⟩ := I.tuple h1
    obtain ⟨as, bs, q1, q2, q3⟩ := DqAll.both I h2 rv (by simpa [PyData.showable] using hs) (fun t ht => Nat.le_trans (tupleText_mem_le ht) hz')
    have hna : a ∉ bs := not_mem_of_deeper (.tuple ho hc hd' q1) (by simp only [PyData.depth]; omega) q2
    simp only [PyData.depth] at hdp
    simp only [PyData.shown] at fin
    refine call_repr_slot (by omega) ⟨o, ho, hc⟩ F.slot_tuple_repr ?_
    exact call_tuple_reprK ho hc hd' hna q3 (show X.A.in1.guards = some [] from hg) (fun b _ => Clear.nil b) (by show X.A.units + 1 + _ < cLine; omega) (fun _ _ q => q) (fun h' u tk k => ⟨_, _, rfl, fin h' u tk k⟩) hz'
  | @dct a kvs ds h1 h2 h3 =>
    cases ru
    have hz' : (dictText (PyData.shownKv ds)).length ≤ sizeLine := by simpa only [PyData.shown] using hz
    obtain ⟨hl, hsys, vs, rk, o, es, ep, ho, ⟨hc, _⟩, hd', _, hp, _⟩ := (show ObjOk X.prog X.w H s.heap a (.dK kvs) from I.hok a _ h1)
    obtain ⟨r1, r2⟩ := pairs_keys rk hp
    obtain ⟨s1, s2⟩ := PyData.showableKv_split ds (by simpa [PyData.showable] using hs)
    obtain ⟨a1, b1, q1, q2, q3⟩ := DqAll.both I h2 r1 s1 (fun t ht => let ⟨p, hp, hl⟩ := PyData.shownKv_key_le ds t ht; Nat.le_trans hl (Nat.le_trans (dictText_mem_le hp) hz'))
    obtain ⟨a2, b2, t1, t2, t3⟩ := DqAll.both I h3 r2 s2 (fun t ht => let ⟨p, hp, hl⟩ := PyData.shownKv_val_le ds t ht; Nat.le_trans hl (Nat.le_trans (dictText_mem_le hp) hz'))
    have hb : ReadAtMost s.heap (PyData.depthKv ds) (b1 ++ b2) := (q2.mono (PyData.depthAll_keys_le ds)).append (t2.mono (PyData.depthAll_vals_le ds))
    have hna : a ∉ b1 ++ b2 := not_mem_of_deeper (.dict ho hc hd' q1 t1) (by simp only [PyData.depth]; omega) hb
    simp only [PyData.depth] at hdp
    simp only [PyData.shown, PyData.shownKv_eq] at fin
    refine call_repr_slot (by omega) ⟨o, ho, hc⟩ F.slot_dict_repr ?_
    exact call_dict_reprK ho hc hd' hsys hna (ReprEntriesK.of_two es.toList _ _
      (q3.more_le (fun b hb => List.mem_append_left _ hb) (PyData.depthAll_keys_le ds)) (t3.more_le (fun b hb => List.mem_append_right _ hb) (PyData.depthAll_vals_le ds)))
      (show X.A.in1.guards = some [] from hg) (fun b _ => Clear.nil b) (by show X.A.units + 1 + _ < cLine; omega) (fun _ _ q => q) (fun h' u tk k => ⟨_, _, rfl, fin h' u tk k⟩) (by rw [← PyData.shownKv_eq]; exact hz')
end
end XR
/-! Defs that ask for a repr: their promise where no repr is under way around the call. -/
namespace XR
open PySem PySem.Spec L2
open PyProof.Rows hiding St
structure FnG (P : Program) (w : World) (K : PySem.W.Frag) (mg : Str → Option Value) (base : Heap) (k : Nat) (f : Addr) (fd : FuncData) (ps : List Str) (sp : Sp) : Prop where
  len : ∀ vs H Q E, sp vs H Q E → vs.length = ps.length
  run : ∀ (A : Around) (outer : List Env) (s : Shared) (H : Hp) (args : Args) (us : List Value) (vs : List V) (Q : VK) (E : XK), A.guards = some [] → Room k A → Env0 P w K mg base A outer s H → BindsTo s fd args (ps.zip us) → Vals vs us → sp vs H Q E →
    codeAny (model P w) A (.call (.ref f) args) (CR CX0 outer P w H s Q E) s
section
variable {P : Program} {w : World} {K : PySem.W.Frag} {mg : Str → Option Value} {base : Heap}
theorem FnG.of {k : Nat} {f : Addr} {fd : FuncData} {ps : List Str} {sp : Sp} (F : FnOk P w K mg base CX0 k f fd ps sp) : FnG P w K mg base k f fd ps sp :=
  ⟨F.len, fun A outer s H args us vs Q E _ hr he hb hv hs => F.run A outer s H args us vs Q E hr he hb hv hs⟩
/-- a def by its body; in the body the guards are none -/
theorem okG {x qual : Str} {st : Stmt} {f : Addr} {fd : FuncData} {N ps : List Str} {k : Nat} {sp : Sp} (F : Fun K x qual st f fd) (S : FnScope N ps (defScope st)) (len : ∀ vs H Q E, sp vs H Q E → vs.length = ps.length)
    (hbody : ∀ (cdv : Value) (A : Around) (outer : List Env) (s : Shared) (H : Hp) (vs : List V) (Q : VK) (E : XK), Room k (A.deeper (envOfC qual (defScope st) s.heap.objs.size f cdv)) → A.guards = some [] → sp vs H Q E →
      ∃ t, PSs (cxOf CX0 P w K mg base N qual (defScope st) f cdv A outer s H E).nox (defBody st) t ∧ t { nx := fun _ H' => Q .non H', rt := Q } (start N vs) H) : FnG P w K mg base (k + 1) f fd ps sp := by
  obtain ⟨oc, od, kV, doc, pm, an, cdv, ct, osl, rfl, lk, hcd⟩ := F.ex
  refine ⟨len, fun A outer s H args us vs Q E hg hr e0 hb r hsp => ?_⟩
  have hl := len _ _ _ _ hsp
  have k0 : ∀ b o, base.get? b = some o → s.heap.get? b = some o := fun b o e => (e0.bs b o e).1
  have KX : K.In s.heap := e0.mod.kin.keeps k0
  have par : ∀ y ∈ ps.zip us, (defScope st).names.lookup y.1 = some .local ∨ ((defScope st).names.lookup y.1 = some .cell ∧ ((cellsFrom (s.heap.objs.size + 1) (defScope st).names []).lookup y.1).isSome = true) := by
    rintro ⟨n, v⟩ hy
    rcases S.par n (List.of_mem_zip hy).1 with q | q
    · exact .inl q
    · exact .inr ⟨q, PySem.W.cellsFrom_some _ _ _ (.inl q)⟩
  refine codeAny_call_function hr.depth (KX _ _ lk) rfl S.co S.gen rfl
    (PySem.W.codeRec_of KX hcd) (hb _ _ _ _ ?_)
  refine wpAny_newFunctionEnv_cells S.kind par fun env he s1 xx => ?_
  subst he
  refine ⟨(e0.mod.nolimit.keeps k0).keeps xx.toInCall.keep, codeAny_func ?_⟩
  obtain ⟨t, ht, hq⟩ := hbody cdv A outer s H vs Q E (hr.deeper _) hg hsp
  have I : Inv (cxOf CX0 P w K mg base N qual (defScope st) f cdv A outer s H E) [] (start N vs) H s1 :=
    inv_start S hr.hd e0 hl r xx
  have tb := ht.nox
  refine wpAny_mono (tb.run [] s1 (start N vs) H _ I hq) (fun fl s' hs => ?_) fun e s' hs => hs
  cases fl with
  | ret u =>
    obtain ⟨v, σ', H', J, rv, q⟩ := hs
    exact ⟨v, H', J.os, J.bare, J.base, J.hok, rv, q⟩
  | next =>
    obtain ⟨σ', H', J, q⟩ := hs
    exact ⟨V.non, H', J.os, J.bare, J.base, J.hok, rfl, q⟩
  | brk =>
    obtain ⟨_, _, _, q⟩ := hs
    exact q.elim
  | cont =>
    obtain ⟨_, _, _, q⟩ := hs
    exact q.elim
end
section
variable {X : Cx} {k : Nat} {f : Addr} {fd : FuncData} {ps : List Str} {sp : Sp} {E : XK} {x : Str} {p pos : Pos} {e : Expr} {es : List Expr} {t : TA}
/-- the call of such a def -/
theorem pe_callG (F : FnG X.prog X.w X.K X.mg X.base k f fd ps sp) (hg : X.A.guards = some []) (hr : Room k X.A) (hgl : Gl X x) (hm : X.mg x = some (.ref f)) (hk : PySem.W.keepIn X.K (.ref f) = true) (hb : Binds X.K fd ps []) (ha : PA X (e :: es) t)
    (hdb : (x == ("__debug__" : Str)) = false := by decide) (he : starEach (e :: es) X.env = (false, eval e X.env) :: starEach es X.env := by rfl) (hpl : (backTo pos (starEach es X.env)).any (·.1) = false := by rfl) :
    PE X (.Call (.Name x p) (e :: es) [] pos) (tCall sp [] E0 t) := by
  refine ⟨fun pins s σ H Q I h => ?_⟩
  refine wpAny_Call_Name_kw (ld_glob I hgl hm ?_ hdb)
  refine PySem.W.callWith_K (h₀ := X.base) I.ok.mod.kin hk (thn (ha.run pos pins s σ H _ I h) fun us s1 ⟨vs, H1, I1, r, q⟩ => ⟨I1.kIn, ?_⟩) he hpl
  have q : sp vs H1 Q E0 := by simpa using q
  have hl : (us ++ []).length = ps.length := by rw [List.append_nil, ← r.length]; exact F.len _ _ _ _ q
  have hbt := hb s1 us I1.kIn hl
  rw [List.append_nil] at hbt
  refine wpAny_call (codeAny_mono (F.run X.A X.stack s1 H1 ⟨us, []⟩ us vs Q E0 hg hr I1.env0 hbt r q) fun r' s' hq => ?_)
  cases r' with
  | error e => exact False.elim hq
  | ok fl =>
    cases fl with
    | ret u => exact I1.after hq
    | next => exact False.elim hq
    | brk => exact False.elim hq
    | cont => exact False.elim hq
end
/-- the call of the law over the heap behind the top -/
theorem lawCallG {P : Program} {w : World} {K : PySem.W.Frag} {mg mb : Str → Option Value} {k : Nat} {fa a : Addr} {fd : FuncData} {x : Str} {sp : Sp} {s₁ : Shared} {vs : List Value} {ns : List Int}
    (KX : K.In s₁.heap) (h1 : s₁.heap.Ns mainGlobals mg) (h2 : s₁.heap.Ns builtinsNs mb) (h3 : ∀ x : Str, x ≠ "__name__" → mb x = bootBuiltins x) (h4 : s₁.heap.NoLimit) (h5 : s₁.gens = #[])
    (ha : s₁.heap.get? a = some { cls := .type "list", data := .seq vs.toArray }) (hi : IntsAre vs ns) (hl : ns.length ≤ sizeLine) (hr : Room k callerA)
    (F : ∀ base : Heap, K.In base → base.Ns mainGlobals mg → FnG P w K mg base k fa fd [x] sp) (hbind : ∀ (s : Shared) (u : Value), BindsTo s fd ⟨[u], []⟩ [(x, u)])
    (hsp : ∀ H : Hp, Only H → SqL K H a (ns.map V.int) → sp [.ref a] H (fun v _ => v = .bl true) fun _ _ _ => False) :
    codeAny (model P w) callerA (.call (.ref fa) ⟨[.ref a], []⟩) (fun r s' => r = .ok (.ret (.bool true)) ∧ OldK s₁.heap s'.heap ∧ s'.os = s₁.os ∧ AllBare s'.gens) s₁ := by
  have rv := vals_ints hi
  have lenV := hi.length
  have main : ∀ H : Hp, Only H → SqL K H a (ns.map V.int) → HOk P w H s₁.heap → (∀ b, H b ≠ none → b = a ∧ K.lookup a = none) →
      codeAny (model P w) callerA (.call (.ref fa) ⟨[.ref a], []⟩) (fun r s' => r = .ok (.ret (.bool true)) ∧ OldK s₁.heap s'.heap ∧ s'.os = s₁.os ∧ AllBare s'.gens) s₁ := by
    intro H hO hS hok hA
    have free : ∀ {b : Addr}, b ≠ a → H b = none := fun {b} hb => by
      cases q : H b with
      | none => rfl
      | some u => exact absurd (hA b (by rw [q]; exact Option.some_ne_none u)).1 hb
    have ns' : ∀ {b : Addr} {m : Str → Option Value}, s₁.heap.Ns b m → (hidT s₁.heap H).Ns b m := by
      rintro b m ⟨o, es, ep, e, d, r⟩
      have hb : b ≠ a := by
        rintro rfl
        rw [ha] at e
        cases e
        cases d
      exact ⟨o, es, ep, hidT_get e (free hb), d, r⟩
    have kb : K.In (hidT s₁.heap H) := fun b o e => by
      refine hidT_get (KX b o e) ?_
      cases q : H b with
      | none => rfl
      | some u =>
        obtain ⟨e1, e2⟩ := hA b (by rw [q]; exact Option.some_ne_none u)
        rw [e1, e2] at e
        cases e
    obtain ⟨mc, l1, l2⟩ := h4
    have M : Mod K mg (hidT s₁.heap H) := ⟨kb, ns' h1, ⟨mb, ns' h2, h3⟩, ⟨mc, ns' l1, l2⟩⟩
    have e0 : Env0 P w K mg (hidT s₁.heap H) callerA [] s₁ H :=
      ⟨rfl, M, fun b o e => of_hidT e, Nat.le_of_eq (hidT_size _ _), trivial, fun b hb => (List.not_mem_nil (a := b) hb).elim, hok, .of_eq h5⟩
    have run := (F _ kb (ns' h1)).run callerA [] s₁ H ⟨[.ref a], []⟩ [.ref a] [.ref a] _ _ rfl hr e0 (hbind s₁ (.ref a)) (.cons rfl .nil) (hsp H hO hS)
    refine codeAny_mono run fun r s' h => ?_
    cases r with
    | error e => exact False.elim h
    | ok fl =>
      cases fl with
      | next => exact False.elim h
      | brk => exact False.elim h
      | cont => exact False.elim h
      | ret u =>
        obtain ⟨v, H', os, bare, un, hok', r', q⟩ := h
        obtain rfl : v = V.bl true := q
        obtain rfl : u = Value.bool true := r'
        refine ⟨rfl, OldK.of_keep fun b o e => ?_, os, bare⟩
        rcases hO b with z | ⟨ob, xs, z⟩
        · exact un.keep b o e z (List.not_mem_nil (a := b)) (List.not_mem_nil (a := b))
        · obtain ⟨e1, _⟩ := hok b _ z
          obtain ⟨e2, _⟩ := hok' b _ (un.frzs b ob _ z)
          rw [e] at e1
          cases e1
          exact e2
  cases hk : K.lookup a with
  | some o =>
    have e := KX a o hk
    rw [ha] at e
    cases e
    exact main (fun _ => none) (fun _ => .inl rfl) (.inr ⟨_, vs.toArray, _, hk, rfl, rfl, rfl, by rw [List.size_toArray, lenV]; exact hl, by simpa using rv⟩) (fun b u z => nomatch z) fun b z => absurd rfl z
  | none =>
    have hT : ∀ {b : Addr} {u : HO}, (if b = a then some (HO.frz { cls := .type "list", data := .seq vs.toArray } (.lst (ns.map V.int))) else none) = some u → b = a ∧ u = .frz { cls := .type "list", data := .seq vs.toArray } (.lst (ns.map V.int)) := fun {b u} z => by
      by_cases hb : b = a
      · rw [if_pos hb] at z
        exact ⟨hb, (Option.some.inj z).symm⟩
      · rw [if_neg hb] at z
        cases z
    refine main (fun b => if b = a then some (.frz { cls := .type "list", data := .seq vs.toArray } (.lst (ns.map V.int))) else none) (fun b => ?_) (.inl (.inr ⟨_, if_pos rfl⟩)) (fun b u z => ?_) fun b z => ?_
    · by_cases hb : b = a
      · exact .inr ⟨_, _, if_pos hb⟩
      · exact .inl (if_neg hb)
    · obtain ⟨rfl, rfl⟩ := hT z
      exact ⟨ha, by rw [List.length_map]; exact hl, vs, _, rv, ha⟩
    · obtain ⟨u, hu⟩ := Option.ne_none_iff_exists'.mp z
      exact ⟨(hT hu).1, hk⟩
/-- the law's end, for such a promise -/
theorem walkG {l : PySem.W.OpenLaw} {n k : Nat} {q : Program} {loose : List Str} {XP : (Str → Option Value) → Heap → Prop} {YP : World → Heap → Prop} {d : DefRec} {K : Params → PySem.W.Frag} {sp : World → Sp} {x : Str}
    (hn : l.most = some n) (hn2 : n ≤ sizeLine) (hdf : d.params.defaults = []) (hr : Room k callerA) (hY : ∀ (w : World) (h : Heap), YP w h → (K w.params).In h)
    (F : ∀ (w : World) (mg : Str → Option Value) (fa : Addr) (h : Heap), (K w.params).In h → h.Ns mainGlobals mg → mg d.name = some (.ref fa) →
      ∃ fd : FuncData, (∀ (s : Shared) (u : Value), BindsTo s fd ⟨[u], []⟩ [(x, u)]) ∧ ∀ base : Heap, (K w.params).In base → base.Ns mainGlobals mg → FnG l.prog w (K w.params) mg base k fa fd [x] (sp w))
    (hsp : ∀ (w : World) (H : Hp) (a : Addr) (ns : List Int), ns.length ≤ n → Only H → SqL (K w.params) H a (ns.map V.int) → sp w [.ref a] H (fun v _ => v = .bl true) fun _ _ _ => False) :
    PySem.W.WalkO q loose XP YP l.row.toRowW d [] (fun f vs => PySem.call f vs) := by
  refine Att.attach_call hn hdf fun w s₀ s₁ mg mb fa o pm cd doc a vs ns G Y ho hd hcd hmg hobj hints hlen hg => ?_
  obtain ⟨fd, hb, hF⟩ := F w mg fa _ (hY w _ Y) G.T.g hmg
  exact lawCallG (hY w _ Y) G.T.g G.T.b G.T.builtins G.T.nolimit hg hobj hints (Nat.le_trans hlen hn2) hr hF hb fun H hO hS => hsp w H a ns hlen hO hS
end XR
/-! An exception of a class of the text, made by a call with positions and keywords. -/
namespace XR
open PySem PySem.W PySem.Calls
section
variable {P : Program} {w : World} {M : Model} {A : Around} {E : Value → Shared → Prop} {R : Result → Shared → Prop} {h : Heap} {g : Array GenState} {d : Drawn} {t : Nat} {os : OsState}
variable {nm q : Str} {C N : Addr} {bs bm bmB : List Value} {hdct : Bool} {sn : List Str} {sub : List Value} {ab : Bool} {col : Option Bool} {dd : Option Addr} {k0 k1 k2 k3 k5 : Option Value} {B newId initId : String}

theorem newChecked (F : ExcBaseFacts B newId initId bmB) (hT : ∀ X : String, bm.contains (.type X) = bmB.contains (.type X)) {us : List Value} {kw : List (Str × Value)} {Q : Unit → Shared → Prop}
    (hC : h.get? C = some (excClassObj nm q C N bs bm hdct sn sub ab col dd k0 k1 k2 k3 k5 newId)) (z : Q () ⟨h, g, d, t, os⟩) : wpAny M A (checkBuiltinCall newId ⟨.ref C :: us, kw⟩) Q E ⟨h, g, d, t, os⟩ := by
  have c1 : (Value.ref C :: bm).contains (.type B) = true := by rw [List.contains_cons, hT, F.hasB, Bool.or_true]
  have c2 := F.noStar
  simp only [checkBuiltinCall, F.newKind, F.newSplit, F.newRow]
  repeat (first
    | refine wpAny_loadPart_at hC ?_
    | (refine wpAny_isSubtype_exc hC ?_; rw [c1])
    | refine wpAny_staticBase_exc hC ?_
    | refine wpAny_madeBy_exc hC ?_
    | simp only [bne_self_eq_false, Bool.false_eq_true, if_false]
    | wp_step)
  exact z

/-- BaseException.__new__ of such a class: the args from the positions alone -/
theorem newRuns (F : ExcBaseFacts B newId initId bmB) (hT : ∀ X : String, bm.contains (.type X) = bmB.contains (.type X)) {us : List Value} {kw : List (Str × Value)}
    (hC : h.get? C = some (excClassObj nm q C N bs bm hdct sn sub ab col dd k0 k1 k2 k3 k5 newId)) (hl : us.length ≤ sizeLine)
    (z : R (.ok (.ret (.ref (h.objs.size + 1)))) ⟨(h.push (kdv_tup us)).push (excObj C h.objs.size none .none), g, d, t, os⟩) :
    codeAny (model P w) A (.builtin newId ⟨.ref C :: us, kw⟩) R ⟨h, g, d, t, os⟩ := by
  have c0 := F.ends
  have c1 : (Value.ref C :: bm).contains (.type B) = true := by rw [List.contains_cons, hT, F.hasB, Bool.or_true]
  have c2 : (Value.ref C :: bm).contains (.type "AttributeError") = false := by rw [List.contains_cons, hT, F.noAttr]; rfl
  have c3 : (Value.ref C :: bm).contains (.type "NameError") = false := by rw [List.contains_cons, hT, F.noName]; rfl
  refine codeAny_builtinAt F.entry ?_
  unfold Builtin.«BaseException.__new__»
  refine wpAt_bind ?_
  show PySem.wpAt _ _ _ (stack >>= _) _ _ _
  refine wpAt_bind (wpAt_stack fun p below => wpAt_of_wpAny ?_)
  wp_walk
  refine wpAt_of_wpAny ?_
  rw [F.owner]
  repeat (first
    | with_reducible refine wpAny_madeHere_exc F.canon hC ?_
    | with_reducible refine wpAny_loadPart_at hC ?_
    | (with_reducible refine wpAny_isSubtype_exc hC ?_; first | rw [c1] | rw [c2] | rw [c3])
    | wp_step)
  show R _ _
  rw [Heap.size_push]
  exact z

theorem typeCall (F : ExcBaseFacts B newId initId bmB) (hT : ∀ X : String, bm.contains (.type X) = bmB.contains (.type X)) {us : List Value} {kw : List (Str × Value)} {fI : Addr} {Q : Fin → Shared → Prop}
    (hC : h.get? C = some (excClassObj nm q C N bs bm hdct sn sub ab col dd k0 k1 k2 k3 k5 newId))
    (hi : Looks (model P w) h (typeLookup (.ref C) "__init__") (some (.ref fI))) (hb : ∀ self, Looks (model P w) h (bindSpecial (.ref fI) self) (.ref fI, [self])) (hl : us.length ≤ sizeLine)
    (z : codeAny (model P w) A (.call (.ref fI) ⟨.ref (h.objs.size + 1) :: us, kw⟩)
      (fun r s' => match r with | .ok (.ret v) => v = .none ∧ Q (.done (.ret (.ref (h.objs.size + 1)))) s' | .ok _ => False | .error e => E e s')
      ⟨(h.push (kdv_tup us)).push (excObj C h.objs.size none .none), g, d, t, os⟩) :
    wpAny (model P w) A (Builtin.«type.__call__» ⟨.ref C :: us, kw⟩) Q E ⟨h, g, d, t, os⟩ := by
  repeat (first
    | with_reducible refine wpAny_loadPart_at hC ?_
    | with_reducible refine wpAny_madeBy_exc hC ?_
    | wp_step)
  refine codeAny_call_builtin_code (Code.quiet_builtin _ F.quiet) (newChecked F hT hC ?_)
  refine newRuns F hT hC hl ?_
  show wpAny _ _ _ _ _ _
  have k : ∀ b o, h.get? b = some o → ((h.push (kdv_tup us)).push (excObj C h.objs.size none .none)).get? b = some o := fun b o e => Heap.get?_push_of_some _ (Heap.get?_push_of_some _ e)
  have c4 := k _ _ hC
  have c5 : ((h.push (kdv_tup us)).push (excObj C h.objs.size none .none)).get? (h.objs.size + 1) = some (excObj C h.objs.size none .none) := by heap_get
  have c6 : (Value.ref C :: bm).contains (.ref C) = true := by simp
  have i1 := hi.keeps k
  have b1 := (hb (.ref (h.objs.size + 1))).keeps k
  unfold isInstance
  repeat (first
    | with_reducible refine wpAny_loadPart_at c5 ?_
    | (with_reducible refine wpAny_isSubtype_exc c4 ?_; rw [c6])
    | wp_step)
  show wpAny _ _ (typeLookup (.ref C) _) _ _ _
  refine i1.at ?_
  refine wpAny_holding (wpAny_bind (b1.at ?_))
  refine wpAny_bind (wpAny_call (codeAny_mono z fun r s' y => ?_))
  rcases r with e | (v | _ | _ | _) <;> first | exact y | exact y.elim | skip
  obtain ⟨rfl, y⟩ := y
  first
    | exact wpAny_pure (wpAny_pure y)
    | (wp_walk; exact y)

theorem callMade (F : ExcBaseFacts B newId initId bmB) (hT : ∀ X : String, bm.contains (.type X) = bmB.contains (.type X)) {us : List Value} {kw : List (Str × Value)} {fI : Addr}
    (hC : h.get? C = some (excClassObj nm q C N bs bm hdct sn sub ab col dd k0 k1 k2 k3 k5 newId))
    (hi : Looks (model P w) h (typeLookup (.ref C) "__init__") (some (.ref fI))) (hb : ∀ self, Looks (model P w) h (bindSpecial (.ref fI) self) (.ref fI, [self])) (hl : us.length ≤ sizeLine)
    (z : codeAny (model P w) (A.under (.builtin "type.__call__" ⟨.ref C :: us, kw⟩)) (.call (.ref fI) ⟨.ref (h.objs.size + 1) :: us, kw⟩) (InitBack (h.objs.size + 1) R)
      ⟨(h.push (kdv_tup us)).push (excObj C h.objs.size none .none), g, d, t, os⟩) :
    codeAny (model P w) A (.call (.ref C) ⟨us, kw⟩) R ⟨h, g, d, t, os⟩ := by
  have f1 := tc_lookup
  have f2 := tc_bind (.ref C)
  have f3 : (⟨h, g, d, t, os⟩ : Shared).TypeIs (.ref C) "type" := ⟨_, hC, rfl⟩
  refine codeAny_of_tree ?_
  show wpAny _ _ (callAny (.ref C) _) _ _ _
  repeat (any_goals (first | assumption | with_reducible refine wpAny_loadPart_at hC ?_ | wp_step))
  refine ⟨rfl, ?_⟩
  refine codeAny_call_builtin_at (Code.quiet_builtin _ (by decide +kernel)) entry_typeCall (wpAny_check_type_call_sub hC (typeCall F hT hC hi hb hl ?_))
  refine codeAny_mono z fun r s' y => ?_
  rcases r with e | (v | _ | _ | _) <;> exact y
end
end XR
namespace XR
open PySem PySem.W PySem.Calls
open Builtin Builtin.ObjectAttr
section
variable {P : Program} {w : World} {M : Model} {A : Around} {E : Value → Shared → Prop} {R : Result → Shared → Prop} {h : Heap} {g : Array GenState} {d : Drawn} {t : Nat} {os : OsState}
variable {K : Frag} {C e t1 dx : Addr} {B : String} {bmB : List Value} {f : Str} {v : Value} {Q : Unit → Shared → Prop}

/-- the first field of an exception: its dict is made -/
theorem storeFirst (SF : StoreFacts B bmB "object.__setattr__" "object") (X : K.In h) (he : h.get? e = some (excObj C t1 none .none)) (sa : findIn K (.ref C) "__setattr__" = some (some (.builtin "object.__setattr__")))
    (ov : excOver K C bmB = true) (di : hasDictIn K C = true) (tk : takerIn K C f = some none)
    (z : ∀ h' tk' dx, (∀ b o, b ≠ e → h.get? b = some o → h'.get? b = some o) → h.objs.size ≤ dx → dx ≠ e → h'.get? e = some (excObj C t1 (some dx) .none) → h'.Ns1 dx (fun y => if y = f then some v else none) → Q () ⟨h', g, d, tk', os⟩) :
    wpAny (model P w) A (setAttr (.ref e) f v) Q E ⟨h, g, d, t, os⟩ := by
  have I : W.InstAt h e (excObj C t1 none .none) C none := ⟨he, rfl, rfl, trivial⟩
  refine set_plain X I sa ?_
  refine osa_openX (r := none) SF X I ov tk fun b => ?_
  obtain ⟨cd, hc, hd'⟩ := any_some di
  have hcls : Looks (model P w) h (classData C) cd := looks_clsIn X hc
  have hes : e ≠ h.objs.size := Nat.ne_of_lt (Heap.lt_size he)
  show wpAny _ _ (storeInOwnDict (.ref e) (.ref C) (.str f t) f v b) _ _ _
  obtain ⟨nm, bs, mro, ns, qn, hd, sn, sb, ab, col, del⟩ := cd
  dsimp only at hd'
  subst hd'
  unfold storeInOwnDict ownDictForStores
  repeat (first
    | with_reducible refine PySem.HandSPX.store_in_new ?_ ?_
    | with_reducible refine wpAny_loadPart_at he ?_
    | with_reducible refine hcls.at ?_
    | wp_step)
  · exact ⟨_, #[], _, (Heap.get?_update_ne _ _ _ _ hes.symm).trans (Heap.get?_push_at rfl rfl), rfl, fun e he => absurd he (by simp), fun _ => rfl⟩
  · intro h' tk' hn' hs
    have h1 : (h.push { cls := .type "dict", data := .dict #[] }).get? e = some (excObj C t1 none .none) := Heap.get?_push_of_some _ he
    refine z h' tk' h.objs.size (fun b o hb ho => ?_) (Nat.le_refl _) hes.symm ?_ hn'
    · exact (hs.2 b (Nat.ne_of_lt (Heap.lt_size ho))).trans ((Heap.get?_update_ne _ _ _ _ hb).trans (Heap.get?_push_of_some _ ho))
    · exact (hs.2 e hes).trans (Heap.get?_update_self _ h1 rfl)

/-- a further one -/
theorem storeNext {m0 : Str → Option Value} {ns : List Str} (SF : StoreFacts B bmB "object.__setattr__" "object") (X : K.In h) (he : h.get? e = some (excObj C t1 (some dx) .none)) (hn : h.Ns1 dx m0) (hw : Within m0 ns) (hz : ns.length ≤ 1000)
    (sa : findIn K (.ref C) "__setattr__" = some (some (.builtin "object.__setattr__"))) (ov : excOver K C bmB = true) (di : hasDictIn K C = true) (tk : takerIn K C f = some none)
    (z : ∀ h' tk', (∀ b o, b ≠ dx → h.get? b = some o → h'.get? b = some o) → h'.Ns1 dx (fun y => if y = f then some v else m0 y) → Q () ⟨h', g, d, tk', os⟩) :
    wpAny (model P w) A (setAttr (.ref e) f v) Q E ⟨h, g, d, t, os⟩ := by
  obtain ⟨oD, esD, epD, hoD, hdD, _⟩ := hn.count hw
  have I : W.InstAt h e (excObj C t1 (some dx) .none) C (some oD) := ⟨he, rfl, rfl, hoD⟩
  refine set_plain X I sa ?_
  refine osa_openX (r := none) SF X I ov tk fun b => ?_
  obtain ⟨cd, hc, hd'⟩ := any_some di
  have hcls : Looks (model P w) h (classData C) cd := looks_clsIn X hc
  show wpAny _ _ (storeInOwnDict (.ref e) (.ref C) (.str f t) f v b) _ _ _
  obtain ⟨nm, bs, mro, nsx, qn, hd, sn, sb, ab, col, del⟩ := cd
  dsimp only at hd'
  subst hd'
  unfold storeInOwnDict ownDictForStores
  repeat (first
    | with_reducible refine PySem.OEX.store_in_old hn hw hz ?_
    | with_reducible refine wpAny_loadPart_at he ?_
    | with_reducible refine hcls.at ?_
    | wp_step)
  intro h' tk' hn' hs
  exact z h' tk' (fun b o hb ho => (hs.2 b hb).trans ho) hn'
end
end XR
namespace XR
open PySem PySem.W PySem.Calls
/-- what the written part says of an exception class over the built-in B, and of its __init__ -/
structure XCls (K : Frag) (P : Program) (C fI cc cda : Addr) (B newId initId : String) (bmB : List Value) (fd : FuncData) : Prop where
  FB : ExcBaseFacts B newId initId bmB
  SF : StoreFacts B bmB "object.__setattr__" "object"
  KF : KxsFacts B initId
  ei : excInitIn K C bmB newId = true
  ov : excOver K C bmB = true
  di : hasDictIn K C = true
  sa : findIn K (.ref C) "__setattr__" = some (some (.builtin "object.__setattr__"))
  su : ks_superIn K C C "__init__" = some (some (.builtin initId))
  sb : subIn K (.ref C) (.type B) = some true
  me : mroIn K C (.ref C) = some true
  op : nsIn K cStatics "thirdparty.any" = some none
  ini : findIn K (.ref C) "__init__" = some (some (.ref fI))
  fn : isFn K (.ref fI) = true
  lk : ∃ oc od osl, K.lookup fI = some ⟨oc, od, .func fd, osl⟩
  cod : codeIn K (.ref cda) fd.qualname = true
  cdl : ∃ a b vs c file tf, K.lookup cda = some ⟨a, b, .fields vs, c⟩ ∧ vs[2]? = some (.str file tf) ∧ ((P.main.file : Str) == file) = true
  cel : ∃ a b c, K.lookup cc = some ⟨a, b, .cell (some (.ref C)), c⟩
  kp : keepIn K (.ref C) = true

/-- a store of a parameter -/
def stS (f p : Str) (a b c d : Pos) : Stmt := .Assign [.Attribute (.Name "self" a) f b] (.Name p c) d
def stSup (txt : Str) (k : Nat) (p0 p1 p2 p3 p4 p5 : Pos) : Stmt := .Expr (.Call (.Attribute (.Call (.Name "super" p0) [] [] p1) "__init__" p2) [.Constant (.str txt) k p3] [] p4) p5

section
variable {P : Program} {w : World} {A : Around} {h : Heap} {g : Array GenState} {d : Drawn} {t : Nat} {os : OsState}
variable {K : Frag} {C fI cc cda e t1 L : Addr} {B newId initId : String} {bmB : List Value} {fd : FuncData} {m mg mb : Str → Option Value} {qual : Str} {scope : Scope}

/-- super().__init__(text): the args are laid anew -/
theorem superRuns {body : List Stmt} {txt : Str} {k : Nat} {p0 p1 p2 p3 p4 p5 : Pos} {ar : Arg} {Q : Flow → Shared → Prop} {E : Value → Shared → Prop} (T : XCls K P C fI cc cda B newId initId bmB fd) (X : K.In h) (he : h.get? e = some (excObj C t1 none .none))
    (hn : h.Ns L m) (hv : m "self" = some (.ref e)) (hm : h.Ns mainGlobals mg) (hb : h.Ns builtinsNs mb) (m1 : mg "super" = none) (m2 : mb "super" = some (.type "super"))
    (hp : (fd.params.posonlyargs ++ fd.params.args).head? = some ar) (har : ar.arg = "self")
    (hks : scope.names.lookup ("super" : Str) = some .globalImplicit) (hkc : scope.names.lookup ("__class__" : Str) = some .free) (hka : scope.names.lookup ("self" : Str) = some .local) (hk : scope.kind = .function)
    (hev : ∃ pl, eval (.Call (.Attribute (.Call (.Name "super" p0) [] [] p1) "__init__" p2) [.Constant (.str txt) k p3] [] p4) (ksEnv qual scope L fI (.ref cda) cc) = (do
      let ov ← attributeBase (.Call (.Name "super" p0) [] [] p1) "__init__" (ksEnv qual scope L fI (.ref cda) cc) (eval (.Call (.Name "super" p0) [] [] p1) (ksEnv qual scope L fI (.ref cda) cc))
      standAt p2.atName
      let (f, first) ← holding [ov] (getMethod ov "__init__" pl)
      callWith p4 f first (backTo p4 (starEach [.Constant (.str txt) k p3] (ksEnv qual scope L fI (.ref cda) cc))) []))
    (htop : (P.main.scope.names.lookup ("super" : Str)).isSome = false) (heL : e ≠ L)
    (z : ∀ h' t2 tk, (∀ b o, b ≠ e → h.get? b = some o → h'.get? b = some o) → h'.get? e = some (excObj C t2 none .none) → Q .next ⟨h', g, d, tk, os⟩) :
    PySem.wpAt (model P w) A (.func body (ksEnv qual scope L fI (.ref cda) cc)) (exec (stSup txt k p0 p1 p2 p3 p4 p5) (ksEnv qual scope L fI (.ref cda) cc)) Q E ⟨h, g, d, t, os⟩ := by
  obtain ⟨kd, nms, ig, ic, mr⟩ := scope
  dsimp only at hk hks hkc hka hev
  obtain ⟨pl, hev⟩ := hev
  subst hk
  have hk : (⟨.function, nms, ig, ic, mr⟩ : Scope).kind = .function := rfl
  obtain ⟨oc, od, osl, lk⟩ := T.lk
  obtain ⟨a1, a2, vs, a3, file, tf, cdl, hvs, hfile⟩ := T.cdl
  obtain ⟨b1, b2, b3, cel⟩ := T.cel
  obtain ⟨nm, N', qn, bs, bm, hdct, sn, sub, ab, col, dd, k0, k1', k2, k3, k5, hC, hT⟩ := excInit_of X T.ei
  have I : W.InstAt h e (excObj C t1 none .none) C none := ⟨he, rfl, rfl, trivial⟩
  refine ks_wpAt_Expr_any ?_
  refine ks_wpAt_MethodCall (pl := pl) ?_ hev
  refine ks_wpAt_super_base (env := ksEnv qual ⟨.function, nms, ig, ic, mr⟩ L fI (.ref cda) cc) (attr := "__init__") hks hkc (by decide) rfl (X _ _ lk) rfl hp rfl (X _ _ cdl) rfl hvs hfile htop ?_
  have hD : ∃ oD cdD, h.get? C = some oD ∧ oD.data = .cls cdD := ⟨_, _, hC, rfl⟩
  obtain ⟨oD, cdD, hD1, hD2⟩ := hD
  refine ks_loadName_global hk hks (loadGlobal_builtin (env := ksEnv qual ⟨.function, nms, ig, ic, mr⟩ L fI (.ref cda) cc) hm m1 hb m2 ⟨rfl, ?_⟩)
  refine wpAny_loadName_free hk hkc rfl ⟨_, X _ _ cel, rfl⟩ ?_
  rw [har]
  refine wpAny_loadName_local hk hka hn hv ?_
  refine ks_wpAny_isType_cls hD1 hD2 ⟨rfl, ?_⟩
  refine ks_wpAny_call_super hD1 hD2 he rfl (fun c e => by cases e) (looks_mroIn X T.me) (fun h1 e1 k1 => ?_)
  have X1 : K.In h1 := X.keeps k1
  have he1 := k1 _ _ he
  obtain ⟨cdx, hcdx, hfx⟩ := Option.bind_eq_some_iff.mp (show (clsIn K C).bind (fun cd => alongIn K "__init__" ((cd.mro.dropWhile (· != .ref C)).drop 1)) = some (some (.builtin initId)) from T.su)
  have I1 : W.InstAt h1 e (excObj C t1 none .none) C none := ⟨he1, rfl, rfl, trivial⟩
  have hI : Looks (model P w) h1 (isInstance (.ref e) (.type B)) true := I1.type.andThen (looks_subIn X1 T.sb)
  refine kxs_getMethod T.KF e1 (looks_opaque X1 T.op) (l₀ := cdx.mro) ?_ rfl X1 hfx hI (ks_ne X1 I1 hcdx) (by decide) ?_
  · exact fun A Q E s k q => wpAny_bind ((looks_clsIn X1 hcdx) A _ E s k (wpAny_pure q))
  refine kxs_callWith (i := initId) (x := e) (by rfl) ?_
  have c1 : (h1.push (kxs_mw initId e)).get? h1.objs.size = some (kxs_mw initId e) := Heap.get?_push_at rfl rfl
  have c2 : ∀ b o, h1.get? b = some o → (h1.push (kxs_mw initId e)).get? b = some o := fun b o q => Heap.get?_push_of_some _ q
  refine evalArgs_plain (spliced_cons (Constant_str (k := k) (pos := p3) (spliced_nil ⟨c1, ?_⟩)))
  refine wpAny_call (codeAny_of_tree ?_)
  show wpAny _ A.in1 (callAny (.ref h1.objs.size) ⟨[.str txt _], []⟩) _ _ _
  simp only [callAny]
  refine wpAny_bind (wpAny_load c1 ?_)
  have c3 : (Value.type "method-wrapper" == Value.type "method" || Value.type "method-wrapper" == Value.type "builtin_function_or_method" || Value.type "method-wrapper" == Value.type "method-wrapper") = true := by decide
  simp only [kxs_mw, c3, if_true]
  refine KFB.if_so (by decide) ?_
  refine wpAny_bind (check_bound_init T.FB.toExcCallFacts (c2 _ _ (k1 _ _ hC)) (c2 _ _ he1) rfl ?_)
  refine wpAny_bind (wpAny_pure (wpAny_pure ?_))
  refine ⟨plainId_quiet T.FB.init.plain _, codeAny_builtin T.FB.initEntry ?_⟩
  refine exc_init_tree (cls := .ref C) (t0 := t1) (dv := none) (c2 := .none) (c3 := .none) (b4 := .bool false) (c2 _ _ he1) (by show 1 ≤ sizeLine; decide) fun h' k' e' t' => ?_
  exact z h' _ _ (fun b o hb q => k' b o hb (c2 b o (k1 b o q))) e'
end
end XR
namespace XR
open PySem PySem.W PySem.Calls
/-- a store of the body: the field, the parameter, its value -/
structure Sto where
  f : Str
  p : Str
  v : Value
  a : Pos
  b : Pos
  c : Pos
  d : Pos
def Sto.st (x : Sto) : Stmt := stS x.f x.p x.a x.b x.c x.d
/-- an exception at e with the fields fs, newest first; its dict stands at n0 or behind, and is not L -/
def Fl (n0 : Nat) (L e C : Addr) (fs : List (Str × Value)) (h : Heap) : Prop :=
  ∃ t1 : Addr, (fs = [] ∧ h.get? e = some (excObj C t1 none .none)) ∨
    ∃ dx : Addr, fs ≠ [] ∧ n0 ≤ dx ∧ dx ≠ e ∧ dx ≠ L ∧ h.get? e = some (excObj C t1 (some dx) .none) ∧ h.Ns1 dx (fun y => fs.lookup y)
theorem lookup_cons' (f y : Str) (v : Value) (fs : List (Str × Value)) : (if y = f then some v else fs.lookup y) = ((f, v) :: fs).lookup y := by
  by_cases q : y = f
  · subst q; simp [List.lookup]
  · have q' : (y == f) = false := by simpa using q
    rw [if_neg q]; simp [List.lookup, q']
theorem within_lookup : ∀ (fs : List (Str × Value)), Within (fun y => fs.lookup y) (fs.map (·.1))
  | [] => fun y hy => absurd rfl hy
  | (f, v) :: fs => fun y hy => by
    by_cases q : y = f
    · rw [q]; exact List.mem_cons_self ..
    · refine List.mem_cons_of_mem _ (within_lookup fs y ?_)
      have q' : (y == f) = false := by simpa using q
      simpa [List.lookup, q'] using hy
section
variable {P : Program} {w : World} {A : Around} {g : Array GenState} {d : Drawn} {os : OsState}
variable {K : Frag} {C fI cc cda e L : Addr} {n0 : Nat} {B newId initId : String} {bmB : List Value} {fd : FuncData} {m : Str → Option Value} {env : Env} {Q : Flow → Shared → Prop} {E : Value → Shared → Prop}

theorem storesRun (T : XCls K P C fI cc cda B newId initId bmB fd) (hK : ∀ b o, K.lookup b = some o → b < n0) (he0 : n0 ≤ e) (hL0 : n0 ≤ L) (heL : e ≠ L) (hl : env.locals = L) (hk : env.scope.kind = .function)
    (hself : env.kindOf "self" = some .local) (hv : m "self" = some (.ref e)) :
    ∀ (l : List Sto) (fs : List (Str × Value)) (h : Heap) (t : Nat), (∀ x ∈ l, m x.p = some x.v ∧ env.kindOf x.p = some .local ∧ (x.p == ("__debug__" : Str)) = false ∧ takerIn K C x.f = some none ∧ swapsWith (.Name x.p x.c) (some (.Attribute (.Name "self" x.a) x.f x.b)) x.d.line env = pure false) →
      fs.length + l.length ≤ 900 → K.In h → h.Ns L m → Fl n0 L e C fs h →
      (∀ h' tk, (∀ b o, b < n0 → h.get? b = some o → h'.get? b = some o) → Fl n0 L e C ((l.map fun x => (x.f, x.v)).reverse ++ fs) h' → Q .next ⟨h', g, d, tk, os⟩) →
      wpAny (model P w) A (execs (l.map Sto.st) env) Q E ⟨h, g, d, t, os⟩
  | [], fs, h, t, _, _, _, _, hF, z => wpAny_execs_nil (z h t (fun _ _ _ q => q) hF)
  | x :: l, fs, h, t, hx, hlen, X, hn, hF, z => by
    obtain ⟨x1, x2, x3, x4, x5⟩ := hx x (List.mem_cons_self ..)
    have hn' : h.Ns env.locals m := by rw [hl]; exact hn
    refine wpAny_execs_cons ?_
    show wpAny _ _ (exec (.Assign [.Attribute (.Name "self" x.a) x.f x.b] (.Name x.p x.c) x.d) env) _ _ _
    refine plainObj_wpAny_Assign_Attribute (wpAny_Name (wpAny_loadName_local hk x2 hn' x1 (wpAny_Name (wpAny_loadName_local hk hself hn' hv ?_) (by decide))) x3) x5
    have step : ∀ (h' : Heap) (tk : Nat), (∀ b o, (b < n0 ∨ b = L) → h.get? b = some o → h'.get? b = some o) → Fl n0 L e C ((x.f, x.v) :: fs) h' → wpAny (model P w) A (execs (l.map Sto.st) env) Q E ⟨h', g, d, tk, os⟩ := fun h' tk k hF' => by
      have X' : K.In h' := fun b o q => k b o (.inl (hK b o q)) (X b o q)
      have hn2 : h'.Ns L m := by
        obtain ⟨o, es, ep, ho, r⟩ := hn
        exact ⟨o, es, ep, k _ _ (.inr rfl) ho, r⟩
      refine storesRun T hK he0 hL0 heL hl hk hself hv l ((x.f, x.v) :: fs) h' tk (fun y hy => hx y (List.mem_cons_of_mem _ hy)) (by simp only [List.length_cons] at hlen ⊢; omega) X' hn2 hF' fun h2 tk2 k2 hF2 => ?_
      refine z h2 tk2 (fun b o hb q => k2 b o hb (k b o (.inl hb) q)) ?_
      simpa using hF2
    obtain ⟨t1, ⟨hf, he⟩ | ⟨dx, hf, hd0, hde, hdL, he, hns⟩⟩ := hF
    · subst hf
      refine storeFirst T.SF X he T.sa T.ov T.di x4 fun h' tk' dx k k0 kne hx' hn' => ?_
      refine step h' tk' (fun b o hb q => k b o ?_ q) ⟨t1, .inr ⟨dx, by simp, ?_, kne, ?_, hx', ?_⟩⟩
      · rcases hb with hb | hb
        · exact Nat.ne_of_lt (Nat.lt_of_lt_of_le hb he0)
        · rw [hb]; exact heL.symm
      · exact Nat.le_trans (Nat.le_trans he0 (Nat.le_of_lt (Heap.lt_size he))) k0
      · have : L < h.objs.size := by obtain ⟨o, _, _, ho, _⟩ := hn; exact Heap.lt_size ho
        exact (Nat.ne_of_lt (Nat.lt_of_lt_of_le this k0)).symm
      · have e1 : (fun y => if y = x.f then some x.v else none) = (fun y => [(x.f, x.v)].lookup y) := by funext y; exact lookup_cons' x.f y x.v []
        rw [e1] at hn'; exact hn'
    · refine storeNext T.SF X he hns (within_lookup fs) (by rw [List.length_map]; simp only [List.length_cons] at hlen; omega) T.sa T.ov T.di x4 fun h' tk' k hn' => ?_
      refine step h' tk' (fun b o hb q => k b o ?_ q) ⟨t1, .inr ⟨dx, by simp, hd0, hde, hdL, k _ _ hde.symm he, ?_⟩⟩
      · rcases hb with hb | hb
        · exact Nat.ne_of_lt (Nat.lt_of_lt_of_le hb hd0)
        · rw [hb]; exact hdL.symm
      · have e1 : (fun y => if y = x.f then some x.v else fs.lookup y) = (fun y => ((x.f, x.v) :: fs).lookup y) := by funext y; exact lookup_cons' x.f y x.v fs
        rw [e1] at hn'; exact hn'
end
end XR
namespace XR
open PySem PySem.W PySem.Calls
section
variable {P : Program} {w : World} {A : Around} {g : Array GenState} {d : Drawn} {t : Nat} {os : OsState} {hp h : Heap}
variable {K : Frag} {C fI cc cda e t1 : Addr} {n0 : Nat} {B newId initId : String} {bmB : List Value} {fd : FuncData} {mg mb : Str → Option Value} {R : Result → Shared → Prop} {Q : Value → Shared → Prop} {E : Value → Shared → Prop}

/-- how the text of an __init__ stands: super().__init__(txt), then the stores l -/
structure Shape (P : Program) (fd : FuncData) (fI cda cc : Addr) (txt : Str) (k : Nat) (p0 p1 p2 p3 p4 p5 : Pos) (l : List Sto) : Prop where
  eq : ∃ x qual params scope dV kV doc pm an ct, fd = ksFn x qual params (stSup txt k p0 p1 p2 p3 p4 p5 :: l.map Sto.st) scope dV kV doc pm an (.ref cda) ct cc ∧
    (∃ ar, (params.posonlyargs ++ params.args).head? = some ar ∧ ar.arg = "self") ∧ scope.names.lookup ("super" : Str) = some .globalImplicit ∧ scope.names.lookup ("__class__" : Str) = some .free ∧ scope.names.lookup ("self" : Str) = some .local ∧ scope.kind = .function ∧
    (∀ L : Addr, ∃ pl, eval (.Call (.Attribute (.Call (.Name "super" p0) [] [] p1) "__init__" p2) [.Constant (.str txt) k p3] [] p4) (ksEnv qual scope L fI (.ref cda) cc) = (do
      let ov ← attributeBase (.Call (.Name "super" p0) [] [] p1) "__init__" (ksEnv qual scope L fI (.ref cda) cc) (eval (.Call (.Name "super" p0) [] [] p1) (ksEnv qual scope L fI (.ref cda) cc))
      standAt p2.atName
      let (f, first) ← holding [ov] (getMethod ov "__init__" pl)
      callWith p4 f first (backTo p4 (starEach [.Constant (.str txt) k p3] (ksEnv qual scope L fI (.ref cda) cc))) [])) ∧
    (∀ x ∈ scope.names, x.2 ≠ .cell) ∧ scope.isCoroutine = false ∧ scope.isGenerator = false ∧
    (∀ L : Addr, ∀ x ∈ l, scope.names.lookup x.p = some .local ∧ (x.p == ("__debug__" : Str)) = false ∧ swapsWith (.Name x.p x.c) (some (.Attribute (.Name "self" x.a) x.f x.b)) x.d.line (ksEnv qual scope L fI (.ref cda) cc) = pure false)
  top : (P.main.scope.names.lookup ("super" : Str)).isSome = false

theorem initRuns {txt : Str} {k : Nat} {p0 p1 p2 p3 p4 p5 : Pos} {l : List Sto} {args : Args} {binds : List (Str × Value)} (T : XCls K P C fI cc cda B newId initId bmB fd) (S : Shape P fd fI cda cc txt k p0 p1 p2 p3 p4 p5 l)
    (hK : ∀ b o, K.lookup b = some o → b < n0) (he0 : n0 ≤ e) (hl : l.length ≤ 900)
    (X : K.In hp) (hm : hp.Ns mainGlobals mg) (hb : hp.Ns builtinsNs mb) (m1 : mg "super" = none) (m2 : mb "super" = some (.type "super")) (lim : hp.NoLimit) (room : A.depth < recursionLimit)
    (bt : BindsTo ⟨hp, g, d, t, os⟩ fd args binds) (hloc : ∀ x ∈ binds, fd.scope.names.lookup x.1 = some .local) (hself : binds.reverse.lookup ("self" : Str) = some (Value.ref e))
    (hx : ∀ x ∈ l, binds.reverse.lookup x.p = some x.v ∧ takerIn K C x.f = some none)
    (he : hp.get? e = some (excObj C t1 none .none))
    (z : ∀ h' tk, (∀ b o, b < n0 → hp.get? b = some o → h'.get? b = some o) → Fl n0 hp.objs.size e C (l.map fun x => (x.f, x.v)).reverse h' → R (.ok (.ret .none)) ⟨h', g, d, tk, os⟩) :
    codeAny (model P w) A (.call (.ref fI) args) R ⟨hp, g, d, t, os⟩ := by
  obtain ⟨x, qual, params, scope, dV, kV, doc, pm, an, ct, rfl, ⟨ar, hp1, har⟩, hks, hkc, hka, hk, hev, hcell, hco, hgen, hsw⟩ := S.eq
  obtain ⟨oc, od, osl, lk⟩ := T.lk
  have heL : e ≠ hp.objs.size := Nat.ne_of_lt (Heap.lt_size he)
  have hL0 : n0 ≤ hp.objs.size := Nat.le_trans he0 (Nat.le_of_lt (Heap.lt_size he))
  refine ks_codeAny_call_defAt (fd := ksFn x qual params (stSup txt k p0 p1 p2 p3 p4 p5 :: l.map Sto.st) scope dV kV doc pm an (.ref cda) ct cc) (body := stSup txt k p0 p1 p2 p3 p4 p5 :: l.map Sto.st) (binds := binds) room (X _ _ lk) rfl lim (codeRec_of X T.cod) rfl bt hcell hloc (fun h1 hns hk1 => ?_) hco hgen hk
  refine ks_wpAt_execs_cons ?_
  show PySem.wpAt (model P w) (A.deeper (ksEnv qual scope hp.objs.size fI (.ref cda) cc)) (.func (stSup txt k p0 p1 p2 p3 p4 p5 :: l.map Sto.st) (ksEnv qual scope hp.objs.size fI (.ref cda) cc)) (exec (stSup txt k p0 p1 p2 p3 p4 p5) (ksEnv qual scope hp.objs.size fI (.ref cda) cc)) _ _ _
  refine superRuns (t1 := t1) T (X.keeps hk1) (hk1 _ _ he) hns hself (hm.keeps hk1) (hb.keeps hk1) m1 m2 hp1 har hks hkc hka hk (hev _) S.top heL fun h2 t2 tk k2 he2 => ?_
  dsimp only
  refine wpAt_of_wpAny ?_
  have K2 : ∀ b o, b ≠ e → hp.get? b = some o → h2.get? b = some o := fun b o hb q => k2 b o hb (hk1 b o q)
  have X2 : K.In h2 := fun b o q => K2 b o (Nat.ne_of_lt (Nat.lt_of_lt_of_le (hK b o q) he0)) (X b o q)
  have hns2 : h2.Ns hp.objs.size (fun x => binds.reverse.lookup x) := by
    obtain ⟨o, es, ep, ho, r⟩ := hns
    exact ⟨o, es, ep, k2 _ _ heL.symm ho, r⟩
  refine storesRun (env := ksEnv qual scope hp.objs.size fI (.ref cda) cc) (m := fun x => binds.reverse.lookup x) T hK he0 hL0 heL rfl hk hka hself l [] h2 tk (fun y hy => ⟨(hx y hy).1, (hsw 0 y hy).1, (hsw 0 y hy).2.1, (hx y hy).2, (hsw _ y hy).2.2⟩) (by simpa using hl) X2 hns2 ⟨t2, .inl ⟨rfl, he2⟩⟩ fun h3 tk3 k3 F3 => ?_
  refine z h3 tk3 (fun b o hb q => k3 b o hb (K2 b o (Nat.ne_of_lt (Nat.lt_of_lt_of_le hb he0)) q)) ?_
  simpa using F3

/-- C(..): the exception stands with its fields -/
theorem made {txt : Str} {k : Nat} {p0 p1 p2 p3 p4 p5 : Pos} {l : List Sto} {us : List Value} {kw : List (Str × Value)} {binds : List (Str × Value)} (T : XCls K P C fI cc cda B newId initId bmB fd) (S : Shape P fd fI cda cc txt k p0 p1 p2 p3 p4 p5 l) (hl : l.length ≤ 900)
    (X : K.In h) (hm : h.Ns mainGlobals mg) (hb : h.Ns builtinsNs mb) (m1 : mg "super" = none) (m2 : mb "super" = some (.type "super")) (lim : h.NoLimit) (room : (A.under (.builtin "type.__call__" ⟨.ref C :: us, kw⟩)).depth < recursionLimit) (hus : us.length ≤ sizeLine)
    (bt : ∀ s, BindsTo s fd ⟨.ref (h.objs.size + 1) :: us, kw⟩ binds) (hloc : ∀ x ∈ binds, fd.scope.names.lookup x.1 = some .local) (hself : binds.reverse.lookup ("self" : Str) = some (Value.ref (h.objs.size + 1)))
    (hx : ∀ x ∈ l, binds.reverse.lookup x.p = some x.v ∧ takerIn K C x.f = some none)
    (z : ∀ h' tk L, (∀ b o, h.get? b = some o → h'.get? b = some o) → Fl h.objs.size L (h.objs.size + 1) C (l.map fun x => (x.f, x.v)).reverse h' → Q (.ref (h.objs.size + 1)) ⟨h', g, d, tk, os⟩) :
    wpAny (model P w) A (call (.ref C) us kw) Q E ⟨h, g, d, t, os⟩ := by
  obtain ⟨nm, N', qn, bs, bm, hdct, sn, sub, ab, col, dd, k0, k1, k2, k3, k5, hC, hT⟩ := excInit_of X T.ei
  obtain ⟨oI, hoI, hcI⟩ : ∃ oI, h.get? fI = some oI ∧ oI.cls = .type "function" := by
    obtain ⟨o, ho, hc⟩ := Option.map_eq_some_iff.mp (show (K.lookup fI).map (·.cls) = some (.type "function") from beq_iff_eq.mp T.fn)
    exact ⟨o, X _ _ ho, hc⟩
  have kk : ∀ b o, h.get? b = some o → ((h.push (kdv_tup us)).push (excObj C h.objs.size none .none)).get? b = some o := fun b o q => Heap.get?_push_of_some _ (Heap.get?_push_of_some _ q)
  have c5 : ((h.push (kdv_tup us)).push (excObj C h.objs.size none .none)).get? (h.objs.size + 1) = some (excObj C h.objs.size none .none) := by heap_get
  refine wpAny_call (callMade T.FB hT hC (looks_findIn X T.ini) (fun self => exc_bind hoI hcI self) hus ?_)
  refine initRuns T S (n0 := h.objs.size) (fun b o q => Heap.lt_size (X b o q)) (Nat.le_succ _) hl (X.keeps kk) (hm.keeps kk) (hb.keeps kk) m1 m2 (lim.keeps kk) room (bt _) hloc hself hx c5 fun h' tk k' F' => ?_
  refine ⟨rfl, ?_⟩
  exact z h' tk _ (fun b o q => k' b o (Heap.lt_size q) (kk b o q)) F'
end
end XR
/-! Exceptions of the text as values: made, their fields read, isinstance of them. -/
namespace XR
open PySem PySem.Spec L2
/-- an exception of the class at C with the fields fs, newest first -/
def ExAt (H : Hp) (e C : Addr) (fs : List (Str × V)) : Prop := (fs = [] ∧ H e = some (exo e C none)) ∨ ∃ dx, H e = some (exo e C (some dx)) ∧ H dx = some (exd dx fs)
theorem ExAt.same {H H' : Hp} {e C : Addr} {fs : List (Str × V)} (s : Same H H') (h : ExAt H e C fs) : ExAt H' e C fs := by
  rcases h with ⟨h1, h2⟩ | ⟨dx, h1, h2⟩
  · exact .inl ⟨h1, s _ _ h2⟩
  · exact .inr ⟨dx, s _ _ h1, s _ _ h2⟩
abbrev FV : List (Str × V) → List (Str × Value) → Prop := Paired fun p q => p.1 = q.1 ∧ RelV p.2 q.2
theorem FV.rel : ∀ {fs : List (Str × V)} {gs : List (Str × Value)}, FV fs gs → ∀ f, RelO (fs.lookup f) (gs.lookup f)
  | _, _, .nil, _ => True.intro
  | (a, v) :: fs, (b, u) :: gs, .cons ⟨h1, h2⟩ t, f => by
    have h1 : a = b := h1
    subst h1
    by_cases q : f = a
    · subst q
      simp only [List.lookup, beq_self_eq_true]
      exact h2
    · have q' : (f == a) = false := by simpa using q
      simp only [List.lookup, q']
      exact FV.rel t f
theorem FV.nil_iff {fs : List (Str × V)} {gs : List (Str × Value)} (h : FV fs gs) : gs = [] → fs = [] := fun e => by
  subst e
  cases h
  rfl
section
variable {X : Cx} {pins : List (Addr × Obj)} {σ : St} {H : Hp} {h h' : Heap} {g : Array GenState} {d : Drawn} {t tk : Nat} {os : OsState} {e C L : Addr} {fs : List (Str × V)} {gs : List (Str × Value)}
theorem laidX (I : Inv X pins σ H ⟨h, g, d, t, os⟩) (k : ∀ b o, h.get? b = some o → h'.get? b = some o) (he : h.objs.size ≤ e) (F : Fl h.objs.size L e C gs h') (r : FV fs gs) :
    ∃ H2, Same H H2 ∧ ExAt H2 e C fs ∧ Inv X pins σ H2 ⟨h', g, d, tk, os⟩ := by
  have ne : H e = none := I.hok.fresh he
  obtain ⟨t1, ⟨hf, ho⟩ | ⟨dx, hf, hd0, hde, hdL, ho, hns⟩⟩ := F
  · subst hf
    have e2 := r.nil_iff rfl
    subst e2
    refine ⟨upd H e (exo e C none), fun b o q => by rw [upd_ne (ne_of_none q ne)]; exact q, .inl ⟨rfl, upd_same⟩, ?_⟩
    exact I.laid (t' := tk) k he (exo_ok ho)
  · have nd : H dx = none := I.hok.fresh hd0
    have sm : Same H (upd (upd H dx (exd dx fs)) e (exo e C (some dx))) := fun b o q => by
      rw [upd_ne (ne_of_none q ne), upd_ne (ne_of_none q nd)]
      exact q
    refine ⟨_, sm, .inr ⟨dx, upd_same, by rw [upd_ne hde]; exact upd_same⟩, ?_⟩
    have lt : ∀ {b : Addr} {o : Obj}, h.get? b = some o → b ≠ e ∧ b ≠ dx := fun {b o} q => ⟨Nat.ne_of_lt (Nat.lt_of_lt_of_le (Heap.lt_size q) he), Nat.ne_of_lt (Nat.lt_of_lt_of_le (Heap.lt_size q) hd0)⟩
    have U : Un X.fs [] H (upd (upd H dx (exd dx fs)) e (exo e C (some dx))) h h' := {
      keep := fun b o q _ _ _ => k b o q
      slot := fun b o q _ _ _ => ⟨o.slots, k b o q⟩
      free := fun b o q n _ => by rw [upd_ne (lt q).1, upd_ne (lt q).2]; exact n
      there := fun b o q _ => ⟨o, k b o q⟩
      tups := fun b xs q => sm _ _ q
      frzs := fun b o u q => sm _ _ q
      tbls := fun b ps q => ⟨#[], by rw [sm _ _ q]; simp⟩ }
    refine I.un (t' := tk) U fun b o q => ?_
    by_cases hb : b = e
    · subst hb
      rw [upd_same] at q
      cases q
      exact exo_ok ho
    · rw [upd_ne hb] at q
      by_cases hd : b = dx
      · subst hd
        rw [upd_same] at q
        cases q
        exact exd_ok hns r.rel
      · rw [upd_ne hd] at q
        exact (I.hok b o q).stay (fun c v _ z => k c v z) (fun c z => sm _ _ z) fun c xs z => sm _ _ z
end
/-- how the class at C is made by a call with n arguments: by position, or by the keywords ks -/
def argsX (kw : Option (List Str)) (e : Addr) (us : List Value) : Args := match kw with
  | none => ⟨.ref e :: us, []⟩
  | some ks => ⟨[.ref e], ks.zip us⟩
structure MkX (K : PySem.W.Frag) (P : Program) (C : Addr) (kw : Option (List Str)) (n : Nat) (fv : List V → List (Str × V)) : Prop where
  n1 : n ≤ 100
  ex : ∃ fI cc cda B newId initId bmB fd txt k p0 p1 p2 p3 p4 p5, ∃ (l : List Value → List Sto) (gb : List Value → List (Str × Value)), XCls K P C fI cc cda B newId initId bmB fd ∧
    (∀ us, us.length = n → Shape P fd fI cda cc txt k p0 p1 p2 p3 p4 p5 (l us) ∧ (l us).length ≤ 900 ∧ (∀ e s, BindsTo s fd (argsX kw e us) (("self", .ref e) :: gb us)) ∧
      (∀ e, ∀ x ∈ (((("self" : Str), Value.ref e) :: gb us) : List (Str × Value)), fd.scope.names.lookup x.1 = some .local) ∧ (∀ e : Addr, (((("self" : Str), Value.ref e) :: gb us) : List (Str × Value)).reverse.lookup ("self" : Str) = some (Value.ref e)) ∧
      (∀ e : Addr, ∀ x ∈ l us, (((("self" : Str), Value.ref e) :: gb us) : List (Str × Value)).reverse.lookup x.p = some x.v ∧ PySem.W.takerIn K C x.f = some none) ∧
      ∀ vs, Vals vs us → FV (fv vs) ((l us).map fun x => (x.f, x.v)).reverse)
section
variable {X : Cx} {k n : Nat} {C : Addr} {fv : List V → List (Str × V)} {x : Str} {p pos : Pos} {e : Expr} {es : List Expr} {t tk : TA} {ks : List Str} {kws : List Keyword} {mb : Str → Option Value}
/-- the call of the class, its arguments at hand -/
theorem runX {pins : List (Addr × Obj)} {σ : St} {H : Hp} {s : Shared} {Q : VK} {kw : Option (List Str)} {us : List Value} {vs : List V} (T : MkX X.K X.prog C kw n fv) (hr : Room 2 X.A) (hsup : X.mg "super" = none) (I : Inv X pins σ H s) (r : Vals vs us) (hl : us.length = n)
    (q : ∀ H2 e, Same H H2 → H e = none → ExAt H2 e C (fv vs) → Q (.ref e) H2) :
    wpAny (model X.prog X.w) X.A (match kw with | none => call (.ref C) us | some ks => call (.ref C) [] (ks.zip us)) (EP X pins σ Q) X.xe s := by
  obtain ⟨fI, cc, cda, B, newId, initId, bmB, fd, txt, kk, p0, p1, p2, p3, p4, p5, l, gb, T1, T2⟩ := T.ex
  obtain ⟨S, hl9, bt, hloc, hself, hx, hfv⟩ := T2 us hl
  obtain ⟨mb, hb, hbb⟩ := I.ok.mod.blt
  have hn : us.length ≤ sizeLine := by rw [hl, sizeLine_eq]; have := T.n1; omega
  have m2 : mb "super" = some (.type "super") := (hbb _ (by decide +kernel)).trans (by decide +kernel)
  obtain ⟨h, g, d, t, os⟩ := s
  have hm := I.ok.mod.glob.keeps I.bk
  have hb' := hb.keeps I.bk
  have dep : ∀ us kw, (X.A.under (.builtin "type.__call__" ⟨.ref C :: us, kw⟩)).depth < recursionLimit := fun us kw => by
    have := hr.dp
    rw [make_depth]
    omega
  have fin : ∀ h' tk L, (∀ b o, h.get? b = some o → h'.get? b = some o) → Fl h.objs.size L (h.objs.size + 1) C ((l us).map fun x => (x.f, x.v)).reverse h' → EP X pins σ Q (.ref (h.objs.size + 1)) ⟨h', g, d, tk, os⟩ := fun h' tk L kp F => by
    obtain ⟨H2, sm, ea, J⟩ := laidX (tk := tk) I kp (Nat.le_succ _) F (hfv vs r)
    exact ⟨.ref (h.objs.size + 1), H2, J, rfl, q H2 _ sm (I.hok.fresh (Nat.le_succ _)) ea⟩
  cases kw with
  | none => exact made T1 S hl9 I.kIn hm hb' hsup m2 I.nolimit (dep _ _) hn (bt _) (hloc _) (hself _) (hx _) fin
  | some ks => exact made (us := []) T1 S hl9 I.kIn hm hb' hsup m2 I.nolimit (dep _ _) (Nat.zero_le _) (bt _) (hloc _) (hself _) (hx _) fin
def tMkX (C : Addr) (n : Nat) (fv : List V → List (Str × V)) (t : TA) : TE := fun σ H Q => t σ H fun vs H1 => vs.length = n ∧ ∀ H2 e, Same H1 H2 → H1 e = none → ExAt H2 e C (fv vs) → Q (.ref e) H2
/-- C(e, ..) -/
theorem pe_mkX (T : MkX X.K X.prog C none n fv) (hk : PySem.W.keepIn X.K (.ref C) = true) (hr : Room 2 X.A) (hsup : X.mg "super" = none) (hg : Gl X x) (hm : X.mg x = some (.ref C)) (ha : PA X (e :: es) t)
    (hdb : (x == ("__debug__" : Str)) = false := by decide) (he : starEach (e :: es) X.env = (false, eval e X.env) :: starEach es X.env := by rfl) (hpl : (backTo pos (starEach es X.env)).any (·.1) = false := by rfl) :
    PE X (.Call (.Name x p) (e :: es) [] pos) (tMkX C n fv t) := by
  refine ⟨fun pins s σ H Q I h => ?_⟩
  refine wpAny_Call_Name_kw (ld_glob I hg hm ?_ hdb)
  refine PySem.W.callWith_K (h₀ := X.base) I.ok.mod.kin hk (thn (ha.run pos pins s σ H _ I h) fun us s1 ⟨vs, H1, I1, r, hl, q⟩ => ⟨I1.kIn, ?_⟩) he hpl
  exact runX (kw := none) T hr hsup I1 r (r.length.symm.trans hl) q
/-- C() -/
theorem pe_mkX0 (T : MkX X.K X.prog C none 0 fv) (hk : PySem.W.keepIn X.K (.ref C) = true) (hr : Room 2 X.A) (hsup : X.mg "super" = none) (hg : Gl X x) (hm : X.mg x = some (.ref C))
    (hdb : (x == ("__debug__" : Str)) = false := by decide) : PE X (.Call (.Name x p) [] [] pos) (tMkX C 0 fv tNil) := by
  refine ⟨fun pins s σ H Q I h => ?_⟩
  refine wpAny_Call_Name_kw (ld_glob I hg hm ?_ hdb)
  obtain ⟨_, q⟩ := h
  exact PySem.W.callWith_K0 I.kIn hk (runX T hr hsup I .nil rfl q)
/-- C(k = e, ..) -/
theorem pe_mkXK (T : MkX X.K X.prog C (some ks) n fv) (hk : PySem.W.keepIn X.K (.ref C) = true) (hr : Room 2 X.A) (hsup : X.mg "super" = none) (hg : Gl X x) (hm : X.mg x = some (.ref C)) (hkw : PK X kws tk)
    (hall : (backToKw pos (keywordEach kws X.env)).all (·.1.isSome) = true := by rfl) (hks : (backToKw pos (keywordEach kws X.env)).filterMap (·.1) = ks := by rfl)
    (hdb : (x == ("__debug__" : Str)) = false := by decide) (hpl : ((backTo pos (starEach [] X.env)).any (·.1) || (backToKw pos (keywordEach kws X.env)).any (·.1.isNone)) = false := by rfl) :
    PE X (.Call (.Name x p) [] kws pos) (tMkX C n fv tk) := by
  refine ⟨fun pins s σ H Q I h => ?_⟩
  refine wpAny_Call_Name_kw (ld_glob I hg hm ?_ hdb)
  refine PySem.W.callWith_KW0 (h₀ := X.base) I.ok.mod.kin hk hall (thn (hkw.run pos pins s σ H _ I h) fun us s1 ⟨vs, H1, I1, r, hl, q⟩ => ⟨I1.kIn, ?_⟩) hpl
  rw [hks]
  exact runX (kw := some ks) T hr hsup I1 r (r.length.symm.trans hl) q
end
/-- what the written part says of a class of exceptions, for its fields and isinstance -/
structure ClsR (K : PySem.W.Frag) (C : Addr) : Prop where
  cl : (PySem.W.clsIn K C).isSome = true
  ga : PySem.W.findIn K (.ref C) "__getattribute__" = some (some (.builtin "BaseException.__getattribute__"))
  gt : PySem.W.findIn K (.ref C) "__getattr__" = some none
  sb : PySem.W.subIn K (.ref C) (.type "BaseException") = some true
  di : PySem.W.hasDictIn K C = true
  ca : PySem.W.findIn K (.ref C) "__class__" = some (some (.builtin "object.__class__"))
  sp : PySem.W.specialIn K (.builtin "object.__class__") "__get__" = some (some (.builtin "getset_descriptor.__get__"))
  tk : PySem.W.takesIn K (.builtin "object.__class__") = some true
  mo : PySem.W.mroIn K C (.type "object") = some true
section
variable {X : Cx} {pins : List (Addr × Obj)} {σ : St} {H : Hp} {s : Shared} {a C : Addr} {fs : List (Str × V)}
theorem instX (I : Inv X pins σ H s) (h : ExAt H a C fs) : ∃ (ox : Obj) (od : Option Obj), PySem.W.InstAt s.heap a ox C od ∧ ∀ v, fs.lookup v ≠ none → ∃ o, od = some o ∧ ∃ m : Str → Option Value, (∀ f, RelO (fs.lookup f) (m f)) ∧ ∀ f, PySem.W.lookIn f o = some (m f) := by
  rcases h with ⟨rfl, h⟩ | ⟨dx, h1, h2⟩
  · obtain ⟨t1, ho⟩ := exo_at I.hok h
    exact ⟨_, none, ⟨ho, rfl, rfl, trivial⟩, fun v hv => absurd rfl hv⟩
  · obtain ⟨t1, ho⟩ := exo_at I.hok h1
    obtain ⟨m, hn, hr⟩ := exd_at I.hok h2
    obtain ⟨od, hod, hl⟩ := lookIn_ns hn
    exact ⟨_, some od, ⟨ho, rfl, rfl, hod⟩, fun v _ => ⟨od, rfl, m, hr, hl⟩⟩
variable {e : Expr} {f : Str} {pos : Pos} {ta : TE}
def tExF (K : PySem.W.Frag) (ta : TE) (f : Str) : TE := fun σ H Q => ta σ H fun x H1 => ∃ a C fs v, x = .ref a ∧ ExAt H1 a C fs ∧ ClsR K C ∧ PySem.W.findIn K (.ref C) f = some none ∧ fs.lookup f = some v ∧ Q v H1
/-- e.f of an exception -/
theorem pe_exf (he : PE X e ta) (hb : attributeBase e f X.env (eval e X.env) = eval e X.env) : PE X (.Attribute e f pos) (tExF X.K ta f) := by
  refine ⟨fun pins s σ H Q I h => ?_⟩
  refine attr_of hb (thn (he.run pins s σ H _ I h) fun u s1 ⟨x, H1, I1, rx, a, C, fs, v, ex, ea, T, nf, l, q⟩ => ?_)
  subst ex
  obtain rfl : u = Value.ref a := rx
  obtain ⟨ox, od, J, hf⟩ := instX I1 ea
  obtain ⟨o, rfl, m, hr, hl⟩ := hf f (by rw [l]; exact Option.some_ne_none v)
  have hm := hr f
  rw [l] at hm
  obtain ⟨u, hu, ru⟩ := RelO.some_of hm
  have hl' := hl f
  rw [hu] at hl'
  refine PySem.PX.exc_get I1.kIn J T.ga T.gt T.sb (PySem.W.findObj_own T.di nf rfl hl') (handed_of ru) ?_
  exact ⟨v, H1, I1.tok _, ru, q⟩
/-- isinstance(e, c) -/
def rIsX (K : PySem.W.Frag) : List V → Hp → VK → Prop := fun xs H Q => ∃ (a C : Addr) (fs : List (Str × V)) (c : V) (cv : Value) (b : Bool), xs = [.ref a, c] ∧ ExAt H a C fs ∧ ClsR K C ∧ (∀ u, RelV c u → u = cv) ∧ PySem.W.kitOne K (.ref C) cv = some b ∧ Q (.bl b) H
theorem call_isX : CallR X (.builtin "isinstance") (rIsX X.K) := by
  intro pins s σ H xs us Q I r h
  obtain ⟨a, C, fs, c, cv, b, rfl, ea, T, hc, e, q⟩ := h
  obtain ⟨u1, u2, rfl, r1, r2⟩ := vals2 r
  cases r1
  obtain rfl := hc _ r2
  obtain ⟨ox, od, J, _⟩ := instX I ea
  exact PySem.W.kia_one (PySem.W.kitx_exc T.cl T.ga T.gt T.sb T.ca T.sp T.tk T.mo) I.kIn J e (fun z => nomatch z) fun tk => ⟨.bl b, H, I.kept (t' := tk) fun _ _ z => z, rfl, q⟩
end
end XR
/-! Raising an exception of the text whose __init__ calls super().__init__ and stores its parameters; its field in a handler. -/
namespace XR
open PySem PySem.Spec L2
section
variable {X : Cx} {n : Nat} {C : Addr} {fv : List V → List (Str × V)} {x : Str} {p pos : Pos} {e : Expr} {es : List Expr} {t : TA}
/-- C(e, ..), to be raised -/
def tPmX (C : Addr) (n : Nat) (fv : List V → List (Str × V)) (t : TA) : St → Hp → XK → Prop := fun σ H Q => t σ H fun vs H1 => vs.length = n ∧ ∀ d, H1 d = none → Q (.ref C) (some d) (upd H1 d (.xd (fv vs)))
theorem pmkX (T : MkX X.K X.prog C none n fv) (h0 : ∀ vs : List V, vs.length = n → fv vs ≠ []) (hk : PySem.W.keepIn X.K (.ref C) = true) (hr : Room 2 X.A) (hsup : X.mg "super" = none) (bP : PySem.W.subIn X.K (.ref C) (.type "BaseException") = some true) (tP : PySem.W.typeIn X.K (.ref C) = some (.type "type"))
    (hg : Gl X x) (hm : X.mg x = some (.ref C)) (ha : PA X (e :: es) t)
    (hdb : (x == ("__debug__" : Str)) = false := by decide) (he : starEach (e :: es) X.env = (false, eval e X.env) :: starEach es X.env := by rfl) (hpl : (backTo pos (starEach es X.env)).any (·.1) = false := by rfl) :
    PMk X (.Call (.Name x p) (e :: es) [] pos) (tPmX C n fv t) := by
  intro pins s σ H Q I h
  refine wpAny_Call_Name_kw (ld_glob I hg hm ?_ hdb)
  refine PySem.W.callWith_K (h₀ := X.base) I.ok.mod.kin hk (thn (ha.run pos pins s σ H _ I h) fun us s1 ⟨vs, H1, I1, r, hl, q⟩ => ⟨I1.kIn, ?_⟩) he hpl
  have hlu : us.length = n := r.length.symm.trans hl
  obtain ⟨fI, cc, cda, B, newId, initId, bmB, fd, txt, kk, p0, p1, p2, p3, p4, p5, l, gb, T1, T2⟩ := T.ex
  obtain ⟨S, hl9, bt, hloc, hself, hx, hfv⟩ := T2 us hlu
  obtain ⟨mb, hb, hbb⟩ := I1.ok.mod.blt
  have hn : us.length ≤ sizeLine := by rw [hlu, sizeLine_eq]; have := T.n1; omega
  have m2 : mb "super" = some (.type "super") := (hbb _ (by decide +kernel)).trans (by decide +kernel)
  obtain ⟨hp, g, dr, tk, os⟩ := s1
  have hm' := I1.ok.mod.glob.keeps I1.bk
  have hb' := hb.keeps I1.bk
  have dep : (X.A.under (.builtin "type.__call__" ⟨.ref C :: us, []⟩)).depth < recursionLimit := by
    have := hr.dp
    rw [make_depth]
    omega
  show wpAny _ _ (call (.ref C) us) _ _ _
  refine made T1 S hl9 I1.kIn hm' hb' hsup m2 I1.nolimit dep hn (bt _) (hloc _) (hself _) (hx _) fun h' tk' L k F => ?_
  obtain ⟨t1, ⟨hf, ho⟩ | ⟨dx, hf, hd0, hde, hdL, ho, hns⟩⟩ := F
  · exact absurd ((hfv vs r).nil_iff hf) (h0 vs hl)
  · obtain ⟨G', g1, g2⟩ := restrict h' fun b => decide (b ≠ hp.objs.size + 1)
    have gk : ∀ b, b ≠ hp.objs.size + 1 → G'.get? b = h'.get? b := fun b hb => g1 b (decide_eq_true hb)
    have ge : G'.get? (hp.objs.size + 1) = none := g2 (hp.objs.size + 1) (by simp)
    have old : ∀ b o, hp.get? b = some o → G'.get? b = some o := fun b o q => (gk b (Nat.ne_of_lt (Nat.lt_succ_of_lt (Heap.lt_size q)))).trans (k b o q)
    have ob : ObjOk X.prog X.w (upd H1 dx (.xd (fv vs))) G' dx (.xd (fv vs)) := ⟨_, hns.at (fun o q => (gk dx hde).trans q), (hfv vs r).rel⟩
    have J : Inv X pins σ (upd H1 dx (.xd (fv vs))) ⟨G', g, dr, tk', os⟩ := I1.laid (t' := tk') old hd0 ob
    refine ⟨hp.objs.size + 1, _, _, ⟨G', g, dr, tk', os⟩, _, .ref C, some dx, rfl, J, fun b o q => ?_, ge, ho, ⟨rfl, rfl⟩, rfl, rfl, ?_, rfl, I1.bare, raises_own bP tP, q dx (I1.hok.fresh hd0)⟩
    · by_cases hb : b = hp.objs.size + 1
      · have q' : G'.get? b = some o := q
        rw [hb, ge] at q'; cases q'
      · exact (gk b hb).symm.trans q
    · rw [upd_ne (Ne.symm hde)]
      exact I1.hok.fresh (Nat.le_succ _)
/-- raise C(e, ..) -/
theorem ps_raiseX {W : WX} {pos2 : Pos} (hc : X.calm = true) (tk : Takes X W) (T : MkX X.K X.prog C none n fv) (h0 : ∀ vs : List V, vs.length = n → fv vs ≠ []) (hk : PySem.W.keepIn X.K (.ref C) = true) (hr : Room 2 X.A) (hsup : X.mg "super" = none) (bP : PySem.W.subIn X.K (.ref C) (.type "BaseException") = some true) (tP : PySem.W.typeIn X.K (.ref C) = some (.type "type"))
    (hg : Gl X x) (hm : X.mg x = some (.ref C)) (ha : PA X (e :: es) t)
    (hdb : (x == ("__debug__" : Str)) = false := by decide) (he : starEach (e :: es) X.env = (false, eval e X.env) :: starEach es X.env := by rfl) (hpl : (backTo pos (starEach es X.env)).any (·.1) = false := by rfl) :
    PS X (.Raise (some (.Call (.Name x p) (e :: es) [] pos)) none pos2) (fun _ σ H => tPmX C n fv t σ H fun cls d H' => W cls d σ H') := ps_raise hc tk (pmkX T h0 hk hr hsup bP tP hg hm ha hdb he hpl)
/-- e.f in a handler, e the exception that it holds (at a; its class cls, its dict d) -/
def tByX (K : PySem.W.Frag) (a : Addr) (cls : Value) (d : Option Addr) (f : Str) (te : TE) : TE := fun σ H Q => te σ H fun x H1 => x = .ref a ∧ ∃ (C dd : Addr) (fs : List (Str × V)) (v : V), cls = .ref C ∧ d = some dd ∧ ClsR K C ∧ PySem.W.findIn K (.ref C) f = some none ∧ H1 dd = some (.xd fs) ∧ fs.lookup f = some v ∧ Q v H1
theorem pe_byX {a : Addr} {oe : Obj} {cls : Value} {d : Option Addr} {pn : List (Addr × Obj)} {e : Expr} {f : Str} {te : TE} {pos : Pos} (hz : Zc cls d oe) (hf : ∃ vs, oe.data = .fields vs) (he : PE (X.suite a ((a, oe) :: pn)) e te)
    (hb : attributeBase e f X.env (eval e X.env) = eval e X.env) :
    PE (X.suite a ((a, oe) :: pn)) (.Attribute e f pos) (tByX X.K a cls d f te) := by
  refine ⟨fun pins s σ H Q I h => ?_⟩
  refine attr_of hb (thn (he.run pins s σ H _ I h) fun u s1 hh => ?_)
  obtain ⟨x, H1, I1, rx, ex, C, dd, fs, v, ec, ed, T, nf, ea, lk, q⟩ := hh
  subst ex
  obtain rfl : u = Value.ref a := rx
  subst ec
  subst ed
  obtain ⟨ha, _⟩ := I1.pin (a, oe) (List.mem_append_left _ List.mem_cons_self)
  obtain ⟨vs, hd⟩ := hf
  have hx : ObjOk X.prog X.w H1 s1.heap dd (.xd fs) := I1.hok dd _ ea
  obtain ⟨mA, hns, hr⟩ := hx
  obtain ⟨od, ho, hl⟩ := lookIn_ns hns
  obtain ⟨u, hu, ru⟩ := RelO.some_of (v := v) (o := mA f) (by rw [← lk]; exact hr f)
  have J : PySem.W.InstAt s1.heap a oe C (some od) := ⟨ha, hz.1, by unfold PySem.W.notCls; rw [hd] <;> rfl, by rw [hz.2]; exact ho⟩
  exact PySem.PX.exc_get I1.kIn J T.ga T.gt T.sb (PySem.W.findObj_own T.di nf rfl (by rw [hl, hu])) (handed_of ru) ⟨v, H1, I1.tok _, ru, q⟩
end
end XR
/-! Law-independent: heaps alike but for one address, the pot of a law, what its draws promise. -/
namespace XR
open PySem L2
/-- all but a is as it was -/
def But (a : Addr) (H H' : Hp) : Prop := ∀ b o, H b = some o → b ≠ a → H' b = some o
theorem But.refl (a : Addr) (H : Hp) : But a H H := fun _ _ h _ => h
theorem But.trans {a : Addr} {H H1 H2 : Hp} (x : But a H H1) (y : But a H1 H2) : But a H H2 := fun b o h n => y b o (x b o h n) n
theorem But.same {a : Addr} {H H1 H2 : Hp} (x : But a H H1) (y : Same H1 H2) : But a H H2 := fun b o h n => y b o (x b o h n)
theorem same_upd {H : Hp} {p : Addr} {o : HO} (h : H p = none) : Same H (upd H p o) := fun b u e => by
  rw [upd_ne (ne_of_none e h)]
  exact e
theorem But.del {a : Addr} {H H' : Hp} (x : But a H H') : Same (L2.del H a) (L2.del H' a) := fun b o h => by
  by_cases e : b = a
  · rw [e, del_same] at h; cases h
  · rw [del_ne e] at h ⊢
    exact x b o h e
theorem del_sub {a : Addr} {H : Hp} : Same (L2.del H a) H := fun b o h => by
  by_cases e : b = a
  · rw [e, del_same] at h; cases h
  · rw [del_ne e] at h
    exact h
def PotAt (H : Hp) (a : Addr) : Prop := ∃ p q : Int, H a = some (.lst [.int p, .int q]) ∧ 0 ≤ p ∧ 0 ≤ q ∧ q < 2147483647
def spPot (K : PySem.W.Frag) : Sp := fun vs H Q _ => ∃ (a : Addr) (ns : List Int) (k : Nat), vs = [.ref a, .int k] ∧ SqL K H a (ns.map V.int) ∧ ns.length ≤ 63 ∧ k ≤ 100 ∧
  ∀ p H', Same H H' → H p = none → PotAt H' p → Q (.ref p) H'
def spDraw : Sp := fun vs H Q _ => ∃ (a : Addr) (m : Int), vs = [.ref a, .int m] ∧ PotAt H a ∧ 0 < m ∧ m ≤ 1000 ∧
  ∀ (r : Int) H', 0 ≤ r → r < m → PotAt H' a → But a H H' → Q (.int r) H'
def spPick : Sp := fun vs H Q _ => ∃ (a b : Addr) (xs : List V), vs = [.ref a, .ref b] ∧ PotAt H a ∧ H b = some (.lst xs) ∧ a ≠ b ∧ 0 < xs.length ∧ xs.length ≤ 1000 ∧
  ∀ (x : V) H', x ∈ xs → PotAt H' a → But a H H' → Q x H'
theorem int_of_map {ns : List Int} {i : Nat} (h : i < ns.length) : (ns.map V.int)[i]? = some (V.int (ns.getD i 0)) := by
  rw [List.getElem?_map, List.getD_eq_getElem?_getD]
  rw [List.getElem?_eq_getElem h]
  rfl
end XR
namespace XR
open PySem L2
theorem ll20 {n : Nat} (h : n ≤ 20) : n ≤ sizeLine := Nat.le_trans h (by decide)
theorem But.new {a p : Addr} {H H' : Hp} {o : HO} (b : But a H H') (h : H' p = none) : But a H (upd H' p o) := fun x u hx n => by
  have := b x u hx n
  rw [upd_ne (ne_of_none this h)]
  exact this
theorem PotAt.same {a : Addr} {H H' : Hp} (s : Same H H') (h : PotAt H a) : PotAt H' a := by
  obtain ⟨p, q, e, r⟩ := h
  exact ⟨p, q, s _ _ e, r⟩
theorem PotAt.ne {a p : Addr} {H : Hp} (h : PotAt H a) (n : H p = none) : a ≠ p := by
  obtain ⟨_, _, e, _⟩ := h
  exact ne_of_none e n
theorem PotAt.upd {a p : Addr} {H : Hp} {o : HO} (h : PotAt H a) (n : a ≠ p) : PotAt (L2.upd H p o) a := by
  obtain ⟨p', q, e, r⟩ := h
  exact ⟨p', q, by rw [upd_ne n]; exact e, r⟩
theorem Same.but {a : Addr} {H H' : Hp} (s : Same H H') : But a H H' := fun b o h _ => s b o h
theorem But.fresh {a p : Addr} {H H' : Hp} (b : But a H H') (h : PotAt H' a) (n : H' p = none) : H p = none := by
  cases e : H p with
  | none => rfl
  | some o =>
    have := b _ _ e (h.ne n).symm
    rw [n] at this; cases this
end XR
namespace XR
open PySem L2
def tyN : PyData → String
  | .none => "NoneType"
  | .bool _ => "bool"
  | .int _ => "int"
  | .str _ => "str"
  | .list _ => "list"
  | .tuple _ => "tuple"
  | .dict _ => "dict"
theorem Dq.ty {K : PySem.W.Frag} {H : Hp} {x : V} {d : PyData} (h : Dq K H x d) : TyX K H x (.type (tyN d)) := by
  cases h with
  | non => exact .base .non
  | bl b => exact .base (.bl b)
  | int i => exact .base (.int i)
  | str s => exact .base (.str s)
  | lst h1 h2 =>
    rcases h1 with (h | ⟨o, h⟩) | ⟨o, _, _, h, hc, _⟩
    · exact .base (.lst h)
    · exact .base (.frz h)
    · exact .kList h hc
  | tup h1 h2 =>
    rcases h1 with (h | ⟨o, h⟩) | ⟨o, _, _, h, hc, _⟩
    · exact .base (.tup h)
    · exact .fTuple h
    · exact .kTuple h hc
  | dct h1 _ _ => exact .base (.dK h1)
/-- a judge of any value -/
def spJudge (K : PySem.W.Frag) (p : PyData → Bool) : Sp := fun vs H Q _ => ∃ (x : V) (d : PyData), vs = [x] ∧ Dq K H x d ∧ ∀ H', Same H H' → Q (.bl (p d)) H'
def isWhole : PyData → Bool
  | .int _ => true
  | _ => false
def isSeq : PyData → Bool
  | .list _ => true
  | .tuple _ => true
  | _ => false
def isLine : PyData → Bool
  | .str s => !decide ((10 : Nat) ∈ s.cps.toList)
  | _ => false
def itemsOf : PyData → List PyData
  | .list ds => ds
  | .tuple ds => ds
  | _ => []
def isText (d : PyData) : Bool := isSeq d && (decide ((itemsOf d).length ≤ 60) && (itemsOf d).all isLine)
theorem kit_int (d : PyData) : kitB (tyN d) "int" = some (isWhole d || (match d with | .bool _ => true | _ => false)) := by
  cases d <;> kernel_rfl
theorem kit_bool (d : PyData) : kitB (tyN d) "bool" = some (match d with | .bool _ => true | _ => false) := by
  cases d <;> kernel_rfl
theorem kit_str (d : PyData) : kitB (tyN d) "str" = some (match d with | .str _ => true | _ => false) := by
  cases d <;> kernel_rfl
theorem kit_tuple (d : PyData) : kitB (tyN d) "tuple" = some (match d with | .tuple _ => true | _ => false) := by
  cases d <;> kernel_rfl
end XR
namespace XR
open PySem L2
theorem DqAll.get {K : PySem.W.Frag} {H : Hp} : ∀ {xs : List V} {ds : List PyData} {i : Nat} {x : V}, DqAll K H xs ds → xs[i]? = some x → ∃ d, ds[i]? = some d ∧ Dq K H x d
  | _, _, _, _, .nil, h => by simp at h
  | _, _, 0, _, .cons (d := d) a b, h => by
    have e := Option.some.inj h
    subst e
    exact ⟨d, rfl, a⟩
  | _, _, i + 1, _, .cons a b, h => b.get (i := i) h
end XR
namespace XR
open PySem PySem.Spec L2
/-- a call that raises nothing of a def that may raise -/
theorem passF {X : Cx} (σ : St) : PassesAt (L2.CX X.prog X.w) X σ E0 := fun pins H s e s' I h => by
  obtain ⟨_, _, _, _, _, _, _, _, _, _, _, _, z⟩ := h
  exact z.elim
section
variable {X : Cx} {CX : CXT} {k : Nat} {f : Addr} {sp : Sp} {E : St → XK} {x : Str} {p pos : Pos} {e : Expr} {es : List Expr} {t : TA}
/-- the plain call of a def that is known by its promise for any arguments -/
theorem pe_callR (F : FnR X.prog X.w X.K X.mg X.base CX k f sp) (hr : Room k X.A) (hgl : Gl X x) (hm : X.mg x = some (.ref f)) (hk : PySem.W.keepIn X.K (.ref f) = true) (hx : ∀ σ, PassesAt CX X σ (E σ)) (ha : PA X (e :: es) t)
    (hdb : (x == ("__debug__" : Str)) = false := by decide) (he : starEach (e :: es) X.env = (false, eval e X.env) :: starEach es X.env := by rfl) (hpl : (backTo pos (starEach es X.env)).any (·.1) = false := by rfl) :
    PE X (.Call (.Name x p) (e :: es) [] pos) (fun σ H Q => t σ H fun vs H1 => sp vs H1 Q (E σ)) := by
  refine ⟨fun pins s σ H Q I h => ?_⟩
  refine wpAny_Call_Name_kw (ld_glob I hgl hm ?_ hdb)
  refine PySem.W.callWith_K (h₀ := X.base) I.ok.mod.kin hk (thn (ha.run pos pins s σ H _ I h) fun us s1 ⟨vs, H1, I1, r, q⟩ => ⟨I1.kIn, ?_⟩) he hpl
  refine wpAny_call (codeAny_mono (F X.A X.stack s1 H1 us vs Q (E σ) hr I1.env0 r q) fun r' s' hq => ?_)
  cases r' with
  | error e => exact hx σ pins H1 s1 e s' I1 hq
  | ok fl =>
    cases fl with
    | ret u => exact I1.after hq
    | next => exact False.elim hq
    | brk => exact False.elim hq
    | cont => exact False.elim hq
end
/-- what is known of a class of exceptions with n fields -/
structure XOk (P : Program) (K : PySem.W.Frag) (mg : Str → Option Value) (x : Str) (C : Addr) (n : Nat) (fv : List V → List (Str × V)) : Prop where
  mx : MkX K P C none n fv
  ne : ∀ vs : List V, vs.length = n → fv vs ≠ []
  kp : PySem.W.keepIn K (.ref C) = true
  bP : PySem.W.subIn K (.ref C) (.type "BaseException") = some true
  tP : PySem.W.typeIn K (.ref C) = some (.type "type")
  g : mg x = some (.ref C)
  rd : ClsR K C
  nf : ∀ vs : List V, ∀ q, q ∈ fv vs → PySem.W.findIn K (.ref C) q.1 = some none
def fvOne (f : Str) : List V → List (Str × V) := fun vs => [(f, vs.getD 0 .non)]
/-- a judge of texts: it raises with the first that is none -/
def spCheck (K : PySem.W.Frag) (C : Addr) : Sp := fun vs H Q E => ∃ ds : List PyData, DqAll K H vs ds ∧ vs.length ≤ 100 ∧ (ds.all isText = true → ∀ H', Same H H' → Q .non H') ∧
  (∀ i x d, vs[i]? = some x → ds[i]? = some d → isText d = false → (∀ d', d' ∈ ds.take i → isText d' = true) → ∀ H' dd, Same H H' → H dd = none → H' dd = some (.xd [("value", x)]) → E (.ref C) (some dd) H')
end XR
namespace XR
open PySem L2
theorem DqAll.two {K : PySem.W.Frag} {H : Hp} {xs : List V} {ds : List PyData} (h : DqAll K H xs ds) (e : ds.length = 2) : ∃ d1 d2 y1 y2, ds = [d1, d2] ∧ xs = [y1, y2] ∧ Dq K H y1 d1 ∧ Dq K H y2 d2 := by
  cases h with
  | nil => cases e
  | cons a h =>
    cases h with
    | nil => cases e
    | cons b h =>
      cases h with
      | nil => exact ⟨_, _, _, _, rfl, rfl, a, b⟩
      | cons c h => simp at e
theorem sepFrom_le (B : Nat) : ∀ (ts : List Str) (k : Nat) (acc : Str), (∀ t ∈ ts, t.length ≤ B) → (textFrom k acc ts).length ≤ acc.length + ts.length * (B + 2)
  | [], k, acc, _ => by
    show acc.length ≤ acc.length + 0 * (B + 2)
    omega
  | t :: r, k, acc, h => by
    have ih := sepFrom_le B r (k + 1) (acc ++ (if k > 0 then ", " else "" : String) ++ t) fun x hx => h x (List.mem_cons_of_mem _ hx)
    have e : (acc ++ (if k > 0 then ", " else "" : String) ++ t).length ≤ acc.length + 2 + t.length := by
      rw [strLen_append, strLen_append]
      have q : (Str.ofString (if k > 0 then ", " else "")).length ≤ 2 := by
        by_cases hk : k > 0
        · rw [if_pos hk]; decide
        · rw [if_neg hk]; decide
      omega
    have ht := h t (List.mem_cons_self ..)
    show (textFrom (k + 1) _ r).length ≤ _
    rw [List.length_cons, Nat.succ_mul]
    omega
theorem shownAll_in {ds : List PyData} {t : Str} (h : t ∈ PyData.shownAll ds) : ∃ d ∈ ds, t = d.shown := by
  induction ds with
  | nil => simp [PyData.shownAll] at h
  | cons d ds ih =>
    simp only [PyData.shownAll, List.mem_cons] at h
    rcases h with rfl | h
    · exact ⟨d, List.mem_cons_self .., rfl⟩
    · obtain ⟨e, h1, h2⟩ := ih h
      exact ⟨e, List.mem_cons_of_mem _ h1, h2⟩
theorem shownAll_len : ∀ ds : List PyData, (PyData.shownAll ds).length = ds.length
  | [] => by simp [PyData.shownAll]
  | d :: ds => by simp [PyData.shownAll, shownAll_len ds]
theorem joined_le (B : Nat) : ∀ (ts : List Str), (∀ t ∈ ts, t.length ≤ B) → (Str.join ", " ts).length ≤ ts.length * (B + 2)
  | [], _ => by
    show (0 : Nat) ≤ _
    exact Nat.zero_le _
  | [x], h => by
    have := h x (List.mem_cons_self ..)
    show x.length ≤ _
    rw [List.length_cons, List.length_nil]
    omega
  | x :: y :: r, h => by
    have ih := joined_le B (y :: r) fun t ht => h t (List.mem_cons_of_mem _ ht)
    have hx := h x (List.mem_cons_self ..)
    have e2 : (Str.ofString ", ").length = 2 := by decide
    show (x ++ Str.ofString ", " ++ Str.join ", " (y :: r)).length ≤ _
    rw [strLen_append, strLen_append, e2]
    rw [List.length_cons, Nat.succ_mul]
    omega
structure Shw (n k : Nat) (d : PyData) : Prop where
  ok : d.showable = true
  len : d.shown.length ≤ n
  dep : d.depth ≤ k
theorem showAll_of : ∀ {ds : List PyData}, (∀ d ∈ ds, d.showable = true) → PyData.showableAll ds = true
  | [], _ => by simp [PyData.showableAll]
  | d :: ds, h => by
    simp only [PyData.showableAll, Bool.and_eq_true]
    exact ⟨h d (List.mem_cons_self ..), showAll_of fun x hx => h x (List.mem_cons_of_mem _ hx)⟩
theorem depAll_of {k : Nat} : ∀ {ds : List PyData}, (∀ d ∈ ds, d.depth ≤ k) → PyData.depthAll ds ≤ k
  | [], _ => by simp [PyData.depthAll]
  | d :: ds, h => by
    simp only [PyData.depthAll]
    exact Nat.max_le.mpr ⟨h d (List.mem_cons_self ..), depAll_of fun x hx => h x (List.mem_cons_of_mem _ hx)⟩
theorem Shw.list {n k m : Nat} {ds : List PyData} (h : ∀ d ∈ ds, Shw n k d) (l : ds.length ≤ m) : Shw (2 + m * (n + 2)) (k + 1) (.list ds) := by
  refine ⟨?_, ?_, ?_⟩
  · simp only [PyData.showable]
    exact showAll_of fun d hd => (h d hd).ok
  · simp only [PyData.shown]
    have e := sepFrom_le n (PyData.shownAll ds) 0 "[" fun t ht => by
      obtain ⟨d, hd, rfl⟩ := shownAll_in ht
      exact (h d hd).len
    have q : (listText (PyData.shownAll ds)).length = (textFrom 0 "[" (PyData.shownAll ds)).length + 1 := by
      show (textFrom 0 "[" (PyData.shownAll ds) ++ "]").length = _
      rw [strLen_append]; rfl
    have q2 : (Str.ofString "[").length = 1 := by decide
    rw [shownAll_len] at e
    have := Nat.mul_le_mul_right (n + 2) l
    omega
  · simp only [PyData.depth]
    have := depAll_of fun d hd => (h d hd).dep
    omega
theorem Shw.tuple {n k m : Nat} {ds : List PyData} (h : ∀ d ∈ ds, Shw n k d) (l : ds.length ≤ m) : Shw (3 + m * (n + 2)) (k + 1) (.tuple ds) := by
  refine ⟨?_, ?_, ?_⟩
  · simp only [PyData.showable]
    exact showAll_of fun d hd => (h d hd).ok
  · simp only [PyData.shown]
    have e := joined_le n (PyData.shownAll ds) fun t ht => by
      obtain ⟨d, hd, rfl⟩ := shownAll_in ht
      exact (h d hd).len
    have q1 : (Str.ofString "(").length = 1 := by decide
    have q2 : (Str.ofString (if (PyData.shownAll ds).length == 1 then ",)" else ")")).length ≤ 2 := by
      by_cases hk : ((PyData.shownAll ds).length == 1) = true
      · rw [if_pos hk]; decide
      · rw [if_neg hk]; decide
    unfold tupleText
    rw [strLen_append, strLen_append, q1]
    rw [shownAll_len] at e
    have := Nat.mul_le_mul_right (n + 2) l
    omega
  · simp only [PyData.depth]
    have := depAll_of fun d hd => (h d hd).dep
    omega
theorem Shw.le {n k n' k' : Nat} {d : PyData} (h : Shw n k d) (a : n ≤ n') (b : k ≤ k') : Shw n' k' d := ⟨h.ok, Nat.le_trans h.len a, Nat.le_trans h.dep b⟩
theorem line_ge : 8000 ≤ sizeLine := by decide
theorem passP {X : Cx} (σ : St) : PassesAt CX0 X σ E0 := fun _ _ _ _ _ _ h => h.elim
theorem same_new {H H1 : Hp} {p : Addr} {o o' : HO} (n : H p = none) (s : Same (upd H p o) H1) : Same H (upd H1 p o') := fun b u e => by
  rw [upd_ne (ne_of_none e n)]
  exact s _ _ (same_upd n _ _ e)
theorem Shw.line {n k : Nat} {d : PyData} (h : Shw n k d) (hn : n ≤ 8000) : d.shown.length ≤ sizeLine := Nat.le_trans h.len (Nat.le_trans hn line_ge)
theorem Shw.low {n k : Nat} {d : PyData} (h : Shw n k d) (hk : k ≤ 60) : d.depth ≤ 60 := Nat.le_trans h.dep hk
theorem del_at {p q : Addr} {H : Hp} {o : HO} (h : H q = some o) (n : p ≠ q) : L2.del H p q = some o := by
  rw [del_ne n.symm]
  exact h
def spLaw (K : PySem.W.Frag) : Sp := fun vs H Q _ => ∃ (a : Addr) (ns : List Int), vs = [.ref a] ∧ SqL K H a (ns.map V.int) ∧ ns.length ≤ 63 ∧ ∀ H', Q (.bl true) H'
theorem But.same_of {p : Addr} {H H1 H2 : Hp} (b : But p H1 H2) (s : Same H H1) (n : H p = none) : Same H H2 := fun q o h => b _ _ (s _ _ h) (ne_of_none h n)
end XR
/-! enumerate of a tuple. -/
namespace PySem
open Sem (wp)
theorem meets_enum1 {v : Value} {o : Obj} {H : Heap → Prop} (B : Begins v o H) :
    Meets (Builtin.«enumerate.__new__» ⟨[.type "enumerate", v], []⟩) (fun _ R s => H s.heap ∧
      R (.ok (.ret (.ref (s.heap.push o).objs.size))) { s with heap := (s.heap.push o).push { cls := .type "enumerate", data := .fields #[.none, .bool false, .ref s.heap.objs.size, rawInt 0, .none, .none] } }) :=
  .of_wp fun prog w A R s h => by
    obtain ⟨hp, g, d, tk, os⟩ := s; obtain ⟨h1, h⟩ := h
    have hsub := sub_enumerate
    have q1 : ∀ {A' : Around} {E : Value → Shared → Prop} {Q : Value → Shared → Prop}, Q (.ref hp.objs.size) ⟨hp.push o, g, d, tk, os⟩ → wpAny (model prog w) A' (pyIter v) Q E ⟨hp, g, d, tk, os⟩ :=
      fun q => B.iter prog w _ _ ⟨hp, g, d, tk, os⟩ _ h1 q
    wp_walk using q1
    refine wpAny_stack_any fun st => wpAny_pure ?_
    split
    · rename_i c _ _ _ _ _
      cases (c == Value.type "enumerate")
      · wp_walk using q1
        exact ⟨_, rfl, h⟩
      · wp_walk using q1
        exact ⟨_, rfl, h⟩
    · wp_walk using q1
      exact ⟨_, rfl, h⟩
section
variable {prog : Program} {w : World} {A : Around} {E : Value → Shared → Prop} {s : Shared}
theorem call_enum1 {v : Value} {o : Obj} {H : Heap → Prop} {Q : Value → Shared → Prop} (B : Begins v o H) (h1 : H s.heap)
    (h : ∀ h', IsEnum h' (s.heap.objs.size + 1) s.heap.objs.size 0 .none → h'.get? s.heap.objs.size = some o → h'.objs.size = s.heap.objs.size + 2 →
      (∀ b o, s.heap.get? b = some o → h'.get? b = some o) → Q (.ref (s.heap.objs.size + 1)) { s with heap := h' }) :
    wpAny (model prog w) A (call (.type "enumerate") [v]) Q E s := by
  refine callType_new F.called_enumerate (by decide) (F.typeCall_enumerate_1 _) (F.newCall_enumerate_1 _) (fun obj => F.args_object_init_2 obj _) F.entry_enumerate_new
    (meets_enum1 B) ⟨h1, ?_⟩
  have hz : (s.heap.push o).objs.size = s.heap.objs.size + 1 := Heap.size_push ..
  show _ ∧ _
  rw [hz]
  have he : IsEnum ((s.heap.push o).push { cls := .type "enumerate", data := .fields #[.none, .bool false, .ref s.heap.objs.size, rawInt 0, .none, .none] }) (s.heap.objs.size + 1) s.heap.objs.size 0 .none := by
    have := Heap.get?_push_size (s.heap.push o) (o := { cls := .type "enumerate", data := .fields #[.none, .bool false, .ref s.heap.objs.size, rawInt 0, .none, .none] }) rfl
    rw [hz] at this; exact this
  refine ⟨⟨_, he, rfl⟩, h _ he (Heap.get?_push_of_some _ (Heap.get?_push_size _ B.free)) (by rw [Heap.size_push, hz]) fun b o x => Heap.get?_push_of_some _ (Heap.get?_push_of_some _ x)⟩
theorem enum_tuple_end {e it t : Addr} {i : Nat} {items : Array Value} {old : Value} {Q : Option Value → Shared → Prop} (hh : A.handled = none)
    (he : IsEnum s.heap e it i old) (hit : s.heap.IsTupleIter it t i) (ht : s.heap.IsTuple t items) (hx : items[i]? = none)
    (hQ : ∀ h', Heap.ExtBut it s.heap h' → Q none { s with heap := h' }) : wpAny (model prog w) A (pyNext (.ref e)) Q E s := by
  have hT : s.TypeIs (.ref e) "enumerate" := ⟨_, he, rfl⟩
  unfold pyNext
  refine wpAny_bind (wpAny_attempt (wpAny_callSpecial?_slot (name := Str.ofString "__next__") hT F.slot_enumerate_next
    (wpAny_call_entry F.slot_enumerate_next hT F.entry_enumerate_next ?_ (F.args_enumerate_next_1 _))))
  show wpAny _ _ (field (.ref e) 2 >>= _) _ _ _
  refine wpAny_bind (wpAny_field he rfl (x := .ref it) rfl ?_)
  refine wpAny_bind (wpAny_nextOf_tuple_end hh hit ht hx fun h' x he' hx' => ?_)
  obtain ⟨o, ho, hc⟩ := hx'
  refine wpAny_bind (wpAny_isInstance (T := "StopIteration") (b := true) ⟨o, ho, hc⟩ isSubtype_stop ?_)
  exact wpAny_pure (hQ _ he')
end
end PySem
namespace XR
open PyProof.Rows hiding St
open PySem L2
def IteT (K : PySem.W.Frag) (a : Addr) : It :=
  ⟨fun i H => ∃ (xs : List V) (x : V), SqT K H a xs ∧ xs[i]? = some x, fun i H v H' => ∃ T x, v = .ref T ∧ H T = none ∧ H' = L2.upd H T (.tup [.int (i : Nat), x]) ∧ ∀ xs, SqT K H a xs → xs[i]? = some x, fun i H => ∃ xs : List V, SqT K H a xs ∧ xs.length ≤ i⟩
theorem turn_enumT {P : Program} {w : World} {K : PySem.W.Frag} {elts : List Expr} {kk : Nat} {tpos : Pos} (a e it : Addr) :
    Turn P w K (.Tuple elts kk tpos) (IteT K a) [e, it] e (fun i h => (∃ old, IsEnum h e it ((i : Nat) : Int) old) ∧ h.IsTupleIter it a i ∧ e ≠ it ∧ e ≠ a ∧ a ≠ it) where
  mem := by simp
  obj := fun i h st b hb => by
    obtain ⟨⟨old, he⟩, ⟨o, ho, hc, hd⟩, _⟩ := st
    have e' : b = e ∨ b = it := by simpa using hb
    rcases e' with z | z
    · rw [z]; exact ⟨_, he, fun v q => nomatch q⟩
    · rw [z]; exact ⟨o, ho, fun v q => by rw [hd] at q; cases q⟩
  keep := fun i h h' st k => let ⟨⟨old, he⟩, hi, hne⟩ := st; ⟨⟨old, k e (by simp) _ he⟩, hi.at fun o q => k it (by simp) o q, hne⟩
  item := by
    intro X hP hw hK hc i pins s σ H E I hf st hg
    subst hP hw hK
    obtain ⟨⟨old, he⟩, hit, hne, hea, hai⟩ := st
    obtain ⟨xs, x, hq, hx⟩ := hg
    obtain ⟨its, rv, p, hz⟩ := I.tuple hq
    have p' : s.heap.IsTuple a its.toArray := p
    obtain ⟨u, hu, ru⟩ := rv.get hx
    have hel : e < s.heap.objs.size := Heap.lt_size he
    have hil : it < s.heap.objs.size := by obtain ⟨_, q, _⟩ := hit; exact Heap.lt_size q
    have hlt : i < its.toArray.size := by
      have := (List.getElem?_eq_some_iff.mp hu).1
      simpa using this
    refine wpAny_pyNext_enum_itemD (Draws.tuple (A := X.A.in1) (I.ok.hd hc) it a hai its.toArray) he ⟨hit, p'⟩ hlt hne (by simp [hne, hea]) fun u' h' tk hu' ho hst' hT hsz hk => ?_
    obtain ⟨hit', _⟩ := hst'
    have eu : u' = u := by
      have h1 : its[i]? = some u' := by simpa using hu'
      rw [hu] at h1
      exact (Option.some.inj h1).symm
    subst eu
    refine ⟨_, rfl, wpAny_letOwnedTupleGo_enum (s := { s with heap := h', toks := tk + 1 }) ho fun h'' he' sb => ?_⟩
    have hT2 : h''.get? s.heap.objs.size = some { cls := .type "tuple", data := .seq #[.int i tk, u'] } := (sb.2 _ (Nat.ne_of_gt hel)).trans hT
    have new : ObjOk X.prog X.w (L2.upd H s.heap.objs.size (.tup [.int (i : Nat), x])) h'' s.heap.objs.size (.tup [.int (i : Nat), x]) :=
      ⟨by show 2 ≤ sizeLine; decide, [.int i tk, u'], .cons ⟨_, rfl⟩ (.cons ru .nil), ⟨_, hT2, rfl, _, rfl⟩⟩
    have I1 : Inv X pins σ (L2.upd H s.heap.objs.size (.tup [.int (i : Nat), x])) { s with heap := h'', toks := tk + 1 } :=
      I.turnedNew (ch := [e, it]) (fun b ob hb q => (sb.2 b (fun z => hb (by simp [z]))).trans (hk b ob (fun z => hb (by simp [z])) (fun z => hb (by simp [z])) q)) hf (Nat.le_refl _) new
    refine ⟨.ref s.heap.objs.size, _, I1, rfl, ⟨_, x, rfl, I.hok.fresh (Nat.le_refl _), rfl, fun ys hy => by rw [I.tuple_inj hy hq]; exact hx⟩, ⟨⟨u', ?_⟩, hit'.at fun o q => (sb.2 it (Ne.symm hne)).trans q, hne, hea, hai⟩, fun b hb => ?_⟩
    · have e1 : ((i + 1 : Nat) : Int) = (i : Int) + 1 := by omega
      rw [e1]; exact he'
    · have hb' : b < s.heap.objs.size := by
        have e' : b = e ∨ b = it := by simpa using hb
        rcases e' with z | z
        · rw [z]; exact hel
        · rw [z]; exact hil
      rw [upd_ne (Nat.ne_of_lt hb')]
      exact (hf b hb).1
  done := by
    intro X hP hw hK hc i pins s σ H E I hf st hg
    subst hP hw hK
    obtain ⟨⟨old, he⟩, hit, hne⟩ := st
    obtain ⟨xs, hq, hx⟩ := hg
    obtain ⟨its, rv, p, hz⟩ := I.tuple hq
    obtain ⟨f0, f1, f2, f3, f4, f5⟩ := hf it (by simp)
    have hl := rv.length
    exact enum_tuple_end (I.ok.hd hc) he hit (show s.heap.IsTuple a its.toArray from p) (by simp; omega) fun h' eb => ⟨rfl, I.turned (t' := s.toks) (fun b o hb q => eb b o hb q) f0 f1 f3 f4 f5⟩
  self := fun A i s Q E st h => let ⟨⟨_, he⟩, _⟩ := st; wpAny_pyIter_enum he h
def iEnumT (K : PySem.W.Frag) (ta : TA) : TI := fun σ H R => ta σ H fun vs H1 => ∃ a xs, vs = [.ref a] ∧ SqT K H1 a xs ∧ R (IteT K a) H1
theorem pi_enumT {X : Cx} {e : Expr} {ta : TA} {p pos tpos : Pos} {elts : List Expr} {kk : Nat} (hg : Gl X "enumerate") (hm : X.mg "enumerate" = none) (ha : PA X [e] ta) (hs : starEach [e] X.env = [(false, eval e X.env)] := by rfl) :
    PI X (.Tuple elts kk tpos) (.Call (.Name "enumerate" p) [e] [] pos) (iEnumT X.K ta) := by
  refine ⟨fun pins s σ H R I h => ?_⟩
  refine Call_ (ld_blt I hg hm boot_enumerate (PyProof.Rows.callWith_type1 (thn (ha.run pos pins s σ H _ I h) fun us s1 ⟨vs, H1, I1, r1, q1⟩ => ?_) hs rfl))
  obtain ⟨a, xs, ex, hq, q⟩ := q1
  subst ex
  cases r1 with
  | cons r rr =>
    cases rr
    cases r
    obtain ⟨its, rv, p', hz⟩ := I1.tuple hq
    have p'' : s1.heap.IsTuple a its.toArray := p'
    have hal : a < s1.heap.objs.size := by obtain ⟨_, q, _⟩ := p''; exact Heap.lt_size q
    refine call_enum1 (begins_tuple a its.toArray) p'' fun h' he hit hsz hk => wpAny_pyIter_enum he ?_
    have I2 : Inv X pins σ H1 { s1 with heap := h' } := I1.kept (t' := s1.toks) hk
    refine ⟨s1.heap.objs.size + 1, [s1.heap.objs.size + 1, s1.heap.objs.size], _, _, H1, rfl, I2, turn_enumT a (s1.heap.objs.size + 1) s1.heap.objs.size, ⟨⟨.none, he⟩, ⟨_, hit, rfl, rfl⟩, Nat.succ_ne_self _, Nat.ne_of_gt (Nat.lt_succ_of_lt hal), Nat.ne_of_lt hal⟩, fun b hb => ?_, q⟩
    have e' : b = s1.heap.objs.size + 1 ∨ b = s1.heap.objs.size := by simpa using hb
    have hle : s1.heap.objs.size ≤ b := by
      rcases e' with z | z
      · rw [z]; exact Nat.le_add_right _ _
      · rw [z]; exact Nat.le_refl _
    exact I1.fpOk hle (I1.hok.fresh hle)
theorem walk_enumT {K : PySem.W.Frag} {a : Addr} {xs : List V} : Walk (IteT K a) xs.length (fun H => SqT K H a xs) (YPair (fun i => some (.int (i : Nat))) (fun i => xs[i]?)) := by
  refine ⟨fun i _ hi q => ⟨xs, xs[i], q, by simp [hi]⟩, fun _ q => ⟨xs, q, Nat.le_refl _⟩, fun i H v H' _ q y => ?_⟩
  obtain ⟨T, x, h1, h2, h3, h4⟩ := y
  exact ⟨T, .int (i : Nat), x, h1, h2, h3, rfl, h4 xs q⟩
end XR
/-! bool or whole number on the left of +, -, ==; a tuple != (); a op b op c op d as a test. -/
namespace XR
open PyProof.Rows hiding St
open PySem L2 PySem.Spec
def numV : V → Option Int
  | .int i => some i
  | .bl b => some (if b = true then 1 else 0)
  | _ => none
def rNum (g : Int → Int → V) : R2 := fun x y H Q => ∃ i j, numV x = some i ∧ y = .int j ∧ Q (g i j) H
section
variable {X : Cx}
theorem op_addN : OpR X (binaryOp .Add) (rNum fun i j => .int (i + j)) := by
  intro pins s σ H x y v u Q I rx ry h
  obtain ⟨i, j, e, rfl, q⟩ := h
  obtain ⟨t', rfl⟩ := ry
  cases x with
  | int a =>
    cases e
    obtain ⟨t, rfl⟩ := rx
    exact add_int ⟨.int (_ + j), H, I.tok _, ⟨_, rfl⟩, q⟩
  | bl b =>
    cases e
    cases rx
    exact PySem.IntBool.add_bool_int ⟨.int (_ + j), H, I.tok _, ⟨_, rfl⟩, q⟩
  | _ => cases e
theorem op_subN2 : OpR X (binaryOp .Sub) (rNum fun i j => .int (i - j)) := by
  intro pins s σ H x y v u Q I rx ry h
  obtain ⟨i, j, e, rfl, q⟩ := h
  obtain ⟨t', rfl⟩ := ry
  cases x with
  | int a =>
    cases e
    obtain ⟨t, rfl⟩ := rx
    exact sub_int ⟨.int (_ - j), H, I.tok _, ⟨_, rfl⟩, q⟩
  | bl b =>
    cases e
    cases rx
    exact PySem.IntBool.sub_bool_int ⟨.int (_ - j), H, I.tok _, ⟨_, rfl⟩, q⟩
  | _ => cases e
theorem op_eqN : OpR X (compareOp .Eq) (rNum fun i j => .bl (decide (i = j))) := by
  intro pins s σ H x y v u Q I rx ry h
  obtain ⟨i, j, e, rfl, q⟩ := h
  obtain ⟨t', rfl⟩ := ry
  cases x with
  | int a =>
    cases e
    obtain ⟨t, rfl⟩ := rx
    exact eq_int (fin_bl I q rfl)
  | bl b =>
    cases e
    cases rx
    exact PySem.EqBoolInt.eq_bool_int (fin_bl I q rfl)
  | _ => cases e
def rNeT0 (K : PySem.W.Frag) : R2 := fun x y H Q => ∃ a b xs, x = .ref a ∧ y = .ref b ∧ SqT K H a xs ∧ SqT K H b [] ∧ Q (.bl (decide (xs ≠ []))) H
theorem op_neT0 {k : Nat} (hr : Room k X.A) : OpR X (compareOp .NotEq) (rNeT0 X.K) := by
  intro pins s σ H x y v u Q I rx ry h
  obtain ⟨a, b, xs, rfl, rfl, h1, h2, q⟩ := h
  cases rx
  cases ry
  obtain ⟨its, rv, p, hz⟩ := I.tuple h1
  obtain ⟨its2, rv2, p2, hz2⟩ := I.tuple h2
  cases rv2
  have p' : s.heap.IsTuple a its.toArray := p
  have p2' : s.heap.IsTuple b #[] := p2
  refine PySem.SeqAt.RcNeAt.tuples (e := fun _ => true) p' p2' (Nat.lt_of_le_of_lt (Nat.le_add_right _ _) (hu_of hr)) (fun j j1 j2 => absurd j2 (Nat.not_lt_zero _)) _ _ _ _ ?_
  refine fin_bl I q ?_
  have hl := rv.length
  cases xs with
  | nil =>
    cases rv
    rfl
  | cons y ys =>
    cases rv
    rfl
def tChain3 (r r' r'' : R2) (ta tb tc td : TE) : TE := fun σ H Q => ta σ H fun x H1 => tb σ H1 fun y H2 => r x y H2 fun z H3 => ∃ k, z = .bl k ∧
  (if k = true then tc σ H3 fun w' H4 => r' y w' H4 fun z2 H5 => ∃ k2, z2 = .bl k2 ∧ (if k2 = true then td σ H5 fun w'' H6 => r'' w' w'' H6 Q else Q (.bl false) H5) else Q (.bl false) H3)
theorem pt_chain3 {a b c d : Expr} {ta tb tc td : TE} {pos : Pos} {op op' op'' : CmpOp} {r r' r'' : R2} (ho : OpR X (compareOp op) r) (ho' : OpR X (compareOp op') r') (ho'' : OpR X (compareOp op'') r'')
    (ha : PE X a ta) (hb : PE X b tb) (hc : PE X c tc) (hd : PE X d td)
    (hm : lastMarks [op, op', op''] [b, c, d] = false := by with_unfolding_all rfl) : PT X (.Compare a [op, op', op''] [b, c, d] pos) (tTest (tChain3 r r' r'' ta tb tc td)) := by
  refine ⟨fun pins s σ H Q I h => ?_⟩
  refine PyProof.Rows.isTrue_chain (thn (ha.run pins s σ H _ I h) fun v s1 ⟨x, H1, I1, r1, q1⟩ => PyProof.Rows.test_link (thn (hb.run pins s1 σ H1 _ I1 q1) fun u s2 ⟨y, H2, I2, r2, q2⟩ =>
    thn (ho pins s2 σ H2 x y v u _ I2 r1 r2 q2) fun d s3 ⟨z, H3, I3, r3, k, e, q3⟩ => ?_)) hm
  subst e
  cases r3
  refine PySem.wpAny_truthy_bool ?_
  cases k with
  | false =>
    obtain ⟨k', e', q'⟩ := q3
    cases e'
    exact ite_ff ⟨H3, I3, q'⟩
  | true =>
    refine ite_tt (PyProof.Rows.test_link (thn (hc.run pins s3 σ H3 _ I3 q3) fun w' s4 ⟨z', H4, I4, r4, q4⟩ => thn (ho' pins s4 σ H4 y z' u w' _ I4 r2 r4 q4) fun d' s5 ⟨z2, H5, I5, r5, k2, e2, q5⟩ => ?_))
    subst e2
    cases r5
    refine PySem.wpAny_truthy_bool ?_
    cases k2 with
    | false =>
      obtain ⟨k', e', q'⟩ := q5
      cases e'
      exact ite_ff ⟨H5, I5, q'⟩
    | true =>
      refine ite_tt (PyProof.Rows.test_last (thn (hd.run pins s5 σ H5 _ I5 q5) fun w2 s6 ⟨z3, H6, I6, r6, q6⟩ => thn (ho'' pins s6 σ H6 z' z3 w' w2 _ I6 r4 r6 q6) fun d2 s7 ⟨z4, H7, I7, r7, k3, e3, q7⟩ => ?_))
      subst e3
      cases r7
      exact PySem.wpAny_truthy_bool ⟨H7, I7, q7⟩
end
end XR
/-! Calls by names alone; try with several clauses 'except C as n' of one name. -/
namespace XR
open PySem PySem.Spec L2
section
variable {X : Cx} {CX : CXT} {k : Nat} {f : Addr} {fd : FuncData} {ps ks : List Str} {sp : Sp} {E : St → XK} {x : Str} {p pos : Pos} {kws : List Keyword} {tk : TA} {g : List Value → List Value → List Value} {gV : List V → List V → List V}
/-- f(k = v, ..), nothing by its place -/
theorem pe_callKw (F : FnOk X.prog X.w X.K X.mg X.base CX k f fd ps sp) (hr : Room k X.A) (hgl : Gl X x) (hm : X.mg x = some (.ref f)) (hk : PySem.W.keepIn X.K (.ref f) = true) (kb : KBinds X.K fd ps ks g gV) (hx : ∀ σ, PassesAt CX X σ (E σ)) (hkw : PK X kws tk)
    (ok1 : (backToKw pos (keywordEach kws X.env)).all (·.1.isSome) = true := by rfl) (ok2 : (backToKw pos (keywordEach kws X.env)).filterMap (·.1) = ks := by rfl) (ok3 : (x == ("__debug__" : Str)) = false := by decide)
    (ok4 : ((backTo pos (starEach [] X.env)).any (·.1) || (backToKw pos (keywordEach kws X.env)).any (·.1.isNone)) = false := by rfl) :
    PE X (.Call (.Name x p) [] kws pos) (fun σ H Q => tk σ H fun zs H1 => sp (gV [] zs) H1 Q (E σ)) := by
  refine ⟨fun pins s σ H Q I h => wpAny_Call_Name_kw (ld_glob I hgl hm ?_ ok3)⟩
  refine PySem.W.callWith_KW0 (h₀ := X.base) I.ok.mod.kin hk ok1 (thn (hkw.run pos pins s σ H _ I h) fun ws t ⟨zs, H2, J, rz, q⟩ => ⟨J.kIn, ?_⟩) ok4
  rw [ok2]
  have r2 : Vals (gV [] zs) (g [] ws) := kb.rel .nil rz
  have hl : (g [] ws).length = ps.length := r2.length.symm.trans (F.len _ _ _ _ q)
  refine wpAny_call (codeAny_mono (F.run X.A X.stack t H2 ⟨[], ks.zip ws⟩ (g [] ws) (gV [] zs) Q (E σ) hr J.env0 (kb.to t [] ws J.kIn hl) r2 q) fun r t' hq => ?_)
  match r, hq with
  | .error e, hq => exact hx σ pins H2 t e t' J hq
  | .ok (.ret u), hq => exact J.after hq
  | .ok .next, hq => exact hq.elim
  | .ok .brk, hq => exact hq.elim
  | .ok .cont, hq => exact hq.elim
end
def turn4 {α : Type} : List α → List α → List α
  | [], [a, b, c, d] => [d, c, b, a]
  | _, _ => []
def turn5 {α : Type} : List α → List α → List α
  | [], [a, b, c, d, e] => [e, d, c, b, a]
  | _, _ => []
theorem turn4_rel {vs : List V} {us : List Value} {zs : List V} {ws : List Value} (r : Vals vs us) (t : Vals zs ws) : Vals (turn4 vs zs) (turn4 us ws) := by
  cases r with
  | cons _ _ => exact .nil
  | nil =>
    cases t with
    | nil => exact .nil
    | cons a t => cases t with
      | nil => exact .nil
      | cons b t => cases t with
        | nil => exact .nil
        | cons c t => cases t with
          | nil => exact .nil
          | cons d t => cases t with
            | nil => exact .cons d (.cons c (.cons b (.cons a .nil)))
            | cons e t => exact .nil
theorem turn5_rel {vs : List V} {us : List Value} {zs : List V} {ws : List Value} (r : Vals vs us) (t : Vals zs ws) : Vals (turn5 vs zs) (turn5 us ws) := by
  cases r with
  | cons _ _ => exact .nil
  | nil =>
    cases t with
    | nil => exact .nil
    | cons a t => cases t with
      | nil => exact .nil
      | cons b t => cases t with
        | nil => exact .nil
        | cons c t => cases t with
          | nil => exact .nil
          | cons d t => cases t with
            | nil => exact .nil
            | cons e t => cases t with
              | nil => exact .cons e (.cons d (.cons c (.cons b (.cons a .nil))))
              | cons f t => exact .nil
theorem turn4_len {us ws : List Value} (h : (turn4 us ws).length = 4) : ∃ a b c d, us = [] ∧ ws = [a, b, c, d] := by
  unfold turn4 at h
  split at h
  · exact ⟨_, _, _, _, rfl, rfl⟩
  · cases h
theorem turn5_len {us ws : List Value} (h : (turn5 us ws).length = 5) : ∃ a b c d e, us = [] ∧ ws = [a, b, c, d, e] := by
  unfold turn5 at h
  split at h
  · exact ⟨_, _, _, _, _, rfl, rfl⟩
  · cases h
section
variable {K : PySem.W.Frag} {x qual : Str} {st : Stmt} {f : Addr} {fd : FuncData} {p1 p2 p3 p4 p5 : Str}
theorem kb4 (F : Fun K x qual st f fd) (h : ∀ (kV doc pm : Value) (an : Option Addr) (cdv ct a b c d : Value), bindArgs (PySem.W.fnOf x qual (defArgs st) (defBody st) (defScope st) .none kV doc pm an cdv ct) ⟨[], [(p4, a), (p3, b), (p2, c), (p1, d)]⟩ = pure [(p1, d), (p2, c), (p3, b), (p4, a)]) :
    KBinds K fd [p1, p2, p3, p4] [p4, p3, p2, p1] turn4 turn4 := by
  obtain ⟨oc, od, kV, doc, pm, an, cdv, ct, osl, rfl, lk, hcd⟩ := F.ex
  refine ⟨fun s us ws _ hl => ?_, turn4_rel⟩
  obtain ⟨a, b, c, d, rfl, rfl⟩ := turn4_len hl
  exact .of_eq (h kV doc pm an cdv ct a b c d)
theorem kb5 (F : Fun K x qual st f fd) (h : ∀ (kV doc pm : Value) (an : Option Addr) (cdv ct a b c d e : Value), bindArgs (PySem.W.fnOf x qual (defArgs st) (defBody st) (defScope st) .none kV doc pm an cdv ct) ⟨[], [(p5, a), (p4, b), (p3, c), (p2, d), (p1, e)]⟩ = pure [(p1, e), (p2, d), (p3, c), (p4, b), (p5, a)]) :
    KBinds K fd [p1, p2, p3, p4, p5] [p5, p4, p3, p2, p1] turn5 turn5 := by
  obtain ⟨oc, od, kV, doc, pm, an, cdv, ct, osl, rfl, lk, hcd⟩ := F.ex
  refine ⟨fun s us ws _ hl => ?_, turn5_rel⟩
  obtain ⟨a, b, c, d, e, rfl, rfl⟩ := turn5_len hl
  exact .of_eq (h kV doc pm an cdv ct a b c d e)
end
/-- behind the suite of 'except C as n' the slot of n is empty -/
def freed (i : Nat) (D : Ends) : Ends := { nx := fun τ G => D.nx (τ.set i none) G, rt := D.rt, bk := fun τ G => D.bk (τ.set i none) G, ct := fun τ G => D.ct (τ.set i none) G }
abbrev Clauses := List (Value × (Addr → Value → Option Addr → TS))
/-- what the clauses, from the first one on, wish of an exception -/
def wishA (K : PySem.W.Frag) (i : Nat) (Wout : WX) (D : Ends) : Clauses → WX
  | [] => Wout
  | (c, ts) :: r => fun cls d σ H => ∃ b, PySem.W.exmOne K cls c = some b ∧ (b = true → ∀ a, H a = none → ts a cls d (freed i D) (σ.set i (some (.ref a))) H) ∧ (b = false → wishA K i Wout D r cls d σ H)
inductive ClausesOk (X : Cx) (n : Str) : List ExceptHandler → Clauses → Prop
  | nil : ClausesOk X n [] []
  | cons {x : Str} {c : Value} {ts : Addr → Value → Option Addr → TS} {st : Stmt} {sts : List Stmt} {np q : Pos} {hl : List ExceptHandler} {l : Clauses} (hc : Names X x c)
      (su : ∀ (a : Addr) (o : Obj) (cls : Value) (d : Option Addr) (pn : List (Addr × Obj)), Zc cls d o → (∃ vs, o.data = .fields vs) → PSs (X.suite a ((a, o) :: pn)) (st :: sts) (ts a cls d)) (r : ClausesOk X n hl l) :
      ClausesOk X n (.ExceptHandler (some (.Name x np)) (some n) (st :: sts) q :: hl) ((c, ts) :: l)
/-- what becomes of an exception that the clauses look at -/
def looked (X : Cx) (hl : List ExceptHandler) (Q : Flow → Shared → Prop) : Value → Shared → Prop := fun e t1 =>
  wpAny (model X.prog X.w) X.A (noteFrame e X.env) (fun _ t2 => wpAny (model X.prog X.w) X.A (setFlight e none) (fun _ t3 => wpAny (model X.prog X.w) X.A (handleBy e X.env hl) Q X.xe t3) X.xe t2) X.xe t1
section
variable {X : Cx} {body : List Stmt} {c₀ : ExceptHandler} {cl : List ExceptHandler} {l : Clauses} {pos : Pos} {tb : WX → TS} {Wout : WX} {i : Nat} {n : Str}
theorem ps_try_asMany (hs : X.stack = X.env :: X.outer) (hf : X.env.frame = some X.env.locals) (hN : X.N.Nodup) (hi : X.N[i]? = some n) (hln : X.env.kindOf n = some .local) (tk : Takes X Wout)
    (hb : ∀ (W : WX) (pn : List (Addr × Obj)) (xe : Value → Shared → Prop), Takes (X.tr pn xe) W → PySem.PassesOwn (model X.prog X.w) X.A X.env xe → PSs (X.tr pn xe) body (tb W)) (hc : ClausesOk X n (c₀ :: cl) l) :
    PS X (.Try body (c₀ :: cl) [] [] pos) (fun D σ H => tb (wishA X.K i Wout D l) D σ H) := by
  refine ⟨fun pins s σ H D I h => ?_⟩
  have ok := I.ok
  have hfr : X.A.frames = some (X.env :: X.outer) := ok.frames.trans (congrArg some hs)
  have hloc : Loc X.env.scope n := .inl hln
  refine wpAny_Try_except (wpAny_mono ((hb (wishA X.K i Wout D l) (X.pn ++ pins) (looked X (c₀ :: cl) (SP X pins D)) (fun u t xx => ?_) PySem.PassesOwn.looking).run [] s σ H D (I.toTry _) h) (fun fl t q => ?_) fun e t he => he)
  · obtain ⟨a, B, sI, pins', σ', H', cls, d, rfl, J', nb, up, sk, na, os, ag, w⟩ := xx
    have J : Inv X pins σ' H' sI := J'.ofTry ok
    rw [show (X.tr (X.pn ++ pins) (looked X (c₀ :: cl) (SP X pins D))).stack = X.env :: X.outer from hs] at sk
    show wpAny (model X.prog X.w) X.A (noteFrame (.ref a) X.env) _ _ _
    refine Sky.land Zc.steady hfr hf sk fun g3 fl3 up3 => ?_
    have J3 : Inv X pins σ' H' { t with heap := g3 } := J.landed nb fl3.1 (up.trans up3) os ag
    obtain ⟨o3, vs3, e3, z3, d3⟩ := fl3.there
    have nofr : a ∉ frs (X.env :: X.outer) := fun hm => by
      obtain ⟨_, o', e', hnf⟩ := fl3.2.2.1.mem hm
      rw [e3] at e'
      cases e'
      exact hnf _ d3
    have nL : a ≠ X.env.locals := fun z => nofr (List.mem_filterMap.mpr ⟨X.env, List.mem_cons_self, hf.trans (congrArg some z.symm)⟩)
    have nF : a ∉ X.fs := fun hm => let ⟨e, he, q⟩ := List.mem_filterMap.mp hm; nofr (List.mem_filterMap.mpr ⟨e, List.mem_cons_of_mem _ he, q⟩)
    have S3 := J3.suite e3 d3 na nL nF
    have go : ∀ {hl : List ExceptHandler} {k : Clauses}, ClausesOk X n hl k → wishA X.K i Wout D k cls d σ' H' →
        wpAny (model X.prog X.w) X.A (handleBy (.ref a) X.env hl) (SP X pins D) X.xe { t with heap := g3 } := by
      intro hl k hk
      induction hk with
      | nil =>
        intro w
        refine wpAny_handleBy_nil ?_
        obtain ⟨k1, k2, k3, oe, vs, T, oT, ts', he, hz, hd, h1, hr⟩ := id fl3
        unfold PySem.passOn
        refine wpAny_bind (wpAny_field he hd h1 ?_)
        rw [if_neg (by simp : ¬ ((Value.ref T == Value.none) = true))]
        have out : wpAny (model X.prog X.w) X.A (setFlight (.ref a) X.env.frame) (fun _ t4 => wpAny (model X.prog X.w) X.A (throw (.ref a) : Sem Flow) (SP X pins D) X.xe t4) X.xe { t with heap := g3 } := by
          rw [hf]
          exact HandSPX.setFlight_upZ fl3 fun g4 hh4 up4 => wpAny_throw (tk _ _ ⟨a, B, sI, pins, σ', H', cls, d, rfl, J, nb, (up.trans up3).trans up4, .inr (.inr (by rw [hs]; exact hh4)), na, os, ag, w⟩)
        first
          | exact wpAny_bind (wpAny_pure (wpAny_bind out))
          | exact wpAny_bind out
      | @cons x c ts st sts np q hl2 l2 hc su r ih =>
        intro w
        obtain ⟨b, hb1, yes, no⟩ := w
        refine wpAny_handleBy_cons (codeAny_handlers_test ?_) (fun q => nomatch q)
        have LT : PySem.W.Looks (model X.prog X.w) g3 (typeOf (.ref a)) cls := fun A Q E t k q => wpAny_typeOf_ref (k _ _ e3) (by rw [z3.1]; exact q)
        have test : ∀ {Q : Value → Shared → Prop} {E : Value → Shared → Prop}, Q c { t with heap := g3 } → wpAny (model X.prog X.w) (X.A.mark (some (.ref a))) (eval (.Name x np) X.env) Q E { t with heap := g3 } := fun {Q E} q => by
          obtain ⟨hg, hdb, hm | ⟨hm, hv, hnn⟩⟩ := hc
          · exact ld_glob (X := X.suite a ((a, o3) :: (X.pn ++ pins))) S3 hg hm q hdb
          · exact ld_blt (X := X.suite a ((a, o3) :: (X.pn ++ pins))) S3 hg hm hv q hnn hdb
        refine test ((PySem.W.exm_one (M := model X.prog X.w) J3.kIn LT hb1).here ?_)
        cases b with
        | false => exact ih (no rfl)
        | true =>
          refine codeAny_handlers_suite_as (HandSPX.lands_againZ fl3 fun g4 fl4 up4 => ?_)
          have J4 : Inv X pins σ' H' { t with heap := g4 } := J.landed nb fl4.1 ((up.trans up3).trans up4) os ag
          obtain ⟨o4, vs4, e4, z4, d4⟩ := fl4.there
          refine store_ok (X := X.suite a ((a, o4) :: (X.pn ++ pins))) (v := .ref a) (J4.suite e4 d4 na nL nF) hN hi hloc rfl (fun t5 S5 => ?_) (.inr hln)
          refine wpAny_mono ((su a o4 cls d (X.pn ++ pins) z4 ⟨_, d4⟩).run [] t5 _ H' _ S5 (yes rfl a na)) (fun fl t6 hsp => ?_) (fun _ _ z => z.elim)
          have gone : ∀ {σ6 : St} {H6 : Hp} {Q : Shared → Prop}, Inv (X.suite a ((a, o4) :: (X.pn ++ pins))) [] σ6 H6 t6 → (∀ t7, Inv X pins (σ6.set i none) H6 t7 → Q t7) →
              wpAny (model X.prog X.w) X.A (do bindName X.env n .none; unbindBehindTheSuite X.env n q) (fun _ t7 => Q t7) X.xe t6 := fun {σ6 H6 Q} S6 hq => gone_ok (S6.unsuite ok) hN hi hln hq
          cases fl with
          | ret u =>
            obtain ⟨v6, σ6, H6, S6, r6, q6⟩ := hsp
            exact gone S6 fun t7 J7 => ⟨_, _, _, J7, r6, q6⟩
          | next =>
            obtain ⟨σ6, H6, S6, q6⟩ := hsp
            exact gone S6 fun t7 J7 => ⟨_, _, J7, q6⟩
          | brk =>
            obtain ⟨σ6, H6, S6, q6⟩ := hsp
            exact gone S6 fun t7 J7 => ⟨_, _, J7, q6⟩
          | cont =>
            obtain ⟨σ6, H6, S6, q6⟩ := hsp
            exact gone S6 fun t7 J7 => ⟨_, _, J7, q6⟩
    exact go hc w
  · cases fl with
    | ret u =>
      obtain ⟨v, τ, G, J', r, z⟩ := q
      exact ⟨v, τ, G, J'.ofTry ok, r, z⟩
    | next =>
      obtain ⟨τ, G, J', z⟩ := q
      exact wpAny_execs_nil ⟨τ, G, J'.ofTry ok, z⟩
    | brk =>
      obtain ⟨τ, G, J', z⟩ := q
      exact ⟨τ, G, J'.ofTry ok, z⟩
    | cont =>
      obtain ⟨τ, G, J', z⟩ := q
      exact ⟨τ, G, J'.ofTry ok, z⟩
end
end XR
/-! isinstance of a caught own exception that has a dict. -/
namespace XR
open PySem PySem.Spec L2
def rIsH (K : PySem.W.Frag) (a : Addr) (cls : Value) (d : Option Addr) : List V → Hp → VK → Prop := fun xs H Q => ∃ (C dd : Addr) (fs : List (Str × V)) (c : V) (cv : Value) (b : Bool), xs = [.ref a, c] ∧ cls = .ref C ∧ d = some dd ∧ ClsR K C ∧ H dd = some (.xd fs) ∧ (∀ u, RelV c u → u = cv) ∧ PySem.W.kitOne K (.ref C) cv = some b ∧ Q (.bl b) H
theorem call_isH {X : Cx} {a : Addr} {oe : Obj} {cls : Value} {d : Option Addr} {pn : List (Addr × Obj)} (hz : Zc cls d oe) (hf : ∃ vs, oe.data = .fields vs) : CallR (X.suite a ((a, oe) :: pn)) (.builtin "isinstance") (rIsH X.K a cls d) := by
  intro pins s σ H xs us Q I r h
  obtain ⟨C, dd, fs, c, cv, b, rfl, rfl, rfl, T, ea, hc, e, q⟩ := h
  obtain ⟨u1, u2, rfl, r1, r2⟩ := vals2 r
  cases r1
  obtain rfl := hc _ r2
  obtain ⟨ha, _⟩ := I.pin (a, oe) (List.mem_append_left _ List.mem_cons_self)
  obtain ⟨vs, hd⟩ := hf
  have hx : ObjOk X.prog X.w H s.heap dd (.xd fs) := I.hok dd _ ea
  obtain ⟨mA, hns, hr⟩ := hx
  obtain ⟨od, ho, hl⟩ := lookIn_ns hns
  have J : PySem.W.InstAt s.heap a oe C (some od) := ⟨ha, hz.1, by unfold PySem.W.notCls; rw [hd] <;> rfl, by rw [hz.2]; exact ho⟩
  exact PySem.W.kia_one (PySem.W.kitx_exc T.cl T.ga T.gt T.sb T.ca T.sp T.tk T.mo) I.kIn J e (fun z => nomatch z) fun tk => ⟨.bl b, H, I.kept (t' := tk) fun _ _ z => z, rfl, q⟩
end XR
namespace XR
open PySem L2
def isTup (n : Int) : PyData → Bool
  | .tuple ds => decide ((ds.length : Int) = n)
  | _ => false
def spTup (K : PySem.W.Frag) : Sp := fun vs H Q _ => ∃ (x : V) (d : PyData) (n : Int), vs = [x, .int n] ∧ Dq K H x d ∧ ∀ H', Same H H' → Q (.bl (isTup n d)) H'
def linesB : PyData → Bool
  | .tuple ds => decide (ds.length ≤ 60) && ds.all isLine
  | _ => false
def isClashWord : PyData → Bool
  | .str s => decide (s = ("clash" : Str))
  | _ => false
def rngB : PyData → PyData → Bool
  | .int i, .int j => decide (0 ≤ i) && (decide (i ≤ j) && decide (j ≤ 60))
  | _, _ => false
def clashB : PyData → Bool
  | .tuple [c, a, b, o, t] => isClashWord c && (rngB a b && (linesB o && linesB t))
  | _ => false
def tokB (d : PyData) : Bool := isLine d || clashB d
def rowB : PyData → Bool
  | .tuple ds => decide (ds.length ≤ 180) && ds.all tokB
  | _ => false
def tupB : PyData → Bool
  | .tuple _ => true
  | _ => false
theorem linesB_tup (ds : List PyData) : linesB (.tuple ds) = (decide (ds.length ≤ 60) && ds.all isLine) := rfl
theorem rowB_tup (ds : List PyData) : rowB (.tuple ds) = (decide (ds.length ≤ 180) && ds.all tokB) := rfl
theorem five_of {K : PySem.W.Frag} {H : Hp} {xs : List V} {ds : List PyData} (h : DqAll K H xs ds) (e : ds.length = 5) :
    ∃ d0 d1 d2 d3 d4 x0 x1 x2 x3 x4, ds = [d0, d1, d2, d3, d4] ∧ xs = [x0, x1, x2, x3, x4] ∧ Dq K H x0 d0 ∧ Dq K H x1 d1 ∧ Dq K H x2 d2 ∧ Dq K H x3 d3 ∧ Dq K H x4 d4 := by
  rcases ds with _ | ⟨d0, _ | ⟨d1, _ | ⟨d2, _ | ⟨d3, _ | ⟨d4, _ | ⟨d5, ds⟩⟩⟩⟩⟩⟩
  all_goals first
    | (simp at e; done)
    | skip
  cases h with
  | cons a0 h =>
    cases h with
    | cons a1 h =>
      cases h with
      | cons a2 h =>
        cases h with
        | cons a3 h =>
          cases h with
          | cons a4 h =>
            cases h
            exact ⟨_, _, _, _, _, _, _, _, _, _, rfl, rfl, a0, a1, a2, a3, a4⟩
theorem not5 {ds : List PyData} (h : ds.length ≠ 5) : clashB (.tuple ds) = false := by
  rcases ds with _ | ⟨d0, _ | ⟨d1, _ | ⟨d2, _ | ⟨d3, _ | ⟨d4, _ | ⟨d5, ds⟩⟩⟩⟩⟩⟩
  all_goals first
    | rfl
    | exact absurd rfl h
end XR
namespace K64
open PySem L2 XR
def top (i : Nat) : Stmt := PySem.Challenge.pw_alldiffs_k64_rows_judged.main.body.getD i (.Pass ⟨0, 0, 0, 0⟩)
structure Blt (mg : Str → Option Value) : Prop where
  all : ∀ x : Str, x ∈ (["len", "abs", "max", "min", "int", "divmod", "repr", "isinstance", "enumerate", "range", "all", "super", "tuple", "bool", "str", "list"] : List Str) → mg x = none
abbrev sWhole : Stmt := top 6
abbrev sIsTuple : Stmt := top 7
abbrev sLine : Stmt := top 10
abbrev sIsClash : Stmt := top 13
abbrev sIsRow : Stmt := top 14
abbrev sClashL : Stmt := top 15
abbrev sLines : Stmt := top 16
abbrev sLLine : Stmt := top 28
abbrev sLNum : Stmt := top 29
abbrev sLLines : Stmt := top 30
abbrev sLTok : Stmt := top 31
abbrev sLToks : Stmt := top 32
section
variable {P : Program} {w : World} {K : PySem.W.Frag} {mg : Str → Option Value} {base : Heap}
def Blt.len {mg : Str → Option Value} (T : Blt mg) : mg "len" = none := T.all _ (by decide)
def Blt.max {mg : Str → Option Value} (T : Blt mg) : mg "max" = none := T.all _ (by decide)
def Blt.int {mg : Str → Option Value} (T : Blt mg) : mg "int" = none := T.all _ (by decide)
def Blt.min {mg : Str → Option Value} (T : Blt mg) : mg "min" = none := T.all _ (by decide)
def Blt.range {mg : Str → Option Value} (T : Blt mg) : mg "range" = none := T.all _ (by decide)
def Blt.repr {mg : Str → Option Value} (T : Blt mg) : mg "repr" = none := T.all _ (by decide)
def Blt.tuple {mg : Str → Option Value} (T : Blt mg) : mg "tuple" = none := T.all _ (by decide)
def Blt.list {mg : Str → Option Value} (T : Blt mg) : mg "list" = none := T.all _ (by decide)
def Blt.str {mg : Str → Option Value} (T : Blt mg) : mg "str" = none := T.all _ (by decide)
def Blt.bool {mg : Str → Option Value} (T : Blt mg) : mg "bool" = none := T.all _ (by decide)
def Blt.isin {mg : Str → Option Value} (T : Blt mg) : mg "isinstance" = none := T.all _ (by decide)
def Blt.enum {mg : Str → Option Value} (T : Blt mg) : mg "enumerate" = none := T.all _ (by decide)
theorem scWhole : FnScope ["value"] ["value"] (defScope sWhole) := ⟨rfl, rfl, rfl, by decide +kernel, rfl, by decide +kernel, by decide +kernel⟩
theorem ok_whole {f : Addr} {fd : FuncData} (F : Fun K "is_whole" "is_whole" sWhole f fd) (T : Blt mg) : FnOk P w K mg base CX0 1 f fd ["value"] (spJudge K isWhole) := by
  refine F.ok scWhole (fun vs H Q E h => ?_) (fun cdv A outer s H vs Q E hr h => ?_)
  · obtain ⟨x, d, rfl, _⟩ := h
    rfl
  · obtain ⟨x, d, rfl, hd, z⟩ := h
    refine ⟨_, pss_one (ps_ret (pe_and (pe_callB call_isi (by rfl) T.isin (by decide +kernel) (pa_cons (pv 0) (pa_cons (pe_bltn (v := .ty "int") (u := .type "int") (by rfl) T.int (by decide +kernel) rfl) pa_nil))) (pe_one (pe_not (pe_callB call_isi (by rfl) T.isin (by decide +kernel) (pa_cons (pv 0) (pa_cons (pe_bltn (v := .ty "bool") (u := .type "bool") (by rfl) T.bool (by decide +kernel) rfl) pa_nil))))))), ?_⟩
    refine ⟨_, rfl, x, _, _, _, _, rfl, .ty "int", hd.ty, kit_ty (kit_int d), _, rfl, ?_⟩
    have zz := z H (fun _ _ e => e)
    cases d <;> first
      | exact iteF zz
      | exact iteT ⟨_, rfl, x, _, _, _, _, rfl, .ty "bool", hd.ty, kit_ty (kit_bool _), _, rfl, zz⟩
theorem scLNum : FnScope ["_law_value"] ["_law_value"] (defScope sLNum) := ⟨rfl, rfl, rfl, by decide +kernel, rfl, by decide +kernel, by decide +kernel⟩
theorem ok_lnum {f : Addr} {fd : FuncData} (F : Fun K "_law_is_number" "_law_is_number" sLNum f fd) (T : Blt mg) : FnOk P w K mg base CX0 1 f fd ["_law_value"] (spJudge K isWhole) := by
  refine F.ok scLNum (fun vs H Q E h => ?_) (fun cdv A outer s H vs Q E hr h => ?_)
  · obtain ⟨x, d, rfl, _⟩ := h
    rfl
  · obtain ⟨x, d, rfl, hd, z⟩ := h
    refine ⟨_, pss_one (ps_ret (pe_and (pe_callB call_isi (by rfl) T.isin (by decide +kernel) (pa_cons (pv 0) (pa_cons (pe_bltn (v := .ty "int") (u := .type "int") (by rfl) T.int (by decide +kernel) rfl) pa_nil))) (pe_one (pe_not (pe_callB call_isi (by rfl) T.isin (by decide +kernel) (pa_cons (pv 0) (pa_cons (pe_bltn (v := .ty "bool") (u := .type "bool") (by rfl) T.bool (by decide +kernel) rfl) pa_nil))))))), ?_⟩
    refine ⟨_, rfl, x, _, _, _, _, rfl, .ty "int", hd.ty, kit_ty (kit_int d), _, rfl, ?_⟩
    have zz := z H (fun _ _ e => e)
    cases d <;> first
      | exact iteF zz
      | exact iteT ⟨_, rfl, x, _, _, _, _, rfl, .ty "bool", hd.ty, kit_ty (kit_bool _), _, rfl, zz⟩
theorem scLine : FnScope ["value"] ["value"] (defScope sLine) := ⟨rfl, rfl, rfl, by decide +kernel, rfl, by decide +kernel, by decide +kernel⟩
theorem ok_line {f : Addr} {fd : FuncData} (F : Fun K "is_line" "is_line" sLine f fd) (T : Blt mg) : FnOk P w K mg base CX0 1 f fd ["value"] (spJudge K isLine) := by
  refine F.ok scLine (fun vs H Q E h => ?_) (fun cdv A outer s H vs Q E hr h => ?_)
  · obtain ⟨x, d, rfl, _⟩ := h
    rfl
  · obtain ⟨x, d, rfl, hd, z⟩ := h
    refine ⟨_, pss_one (ps_ret (pe_and (pe_callB call_isi (by rfl) T.isin (by decide +kernel) (pa_cons (pv 0) (pa_cons (pe_bltn (v := .ty "str") (u := .type "str") (by rfl) T.str (by decide +kernel) rfl) pa_nil))) (pe_one (pe_cmpR op_notIn_sign pe_str (pv 0) (by rfl))))), ?_⟩
    refine ⟨_, rfl, x, _, _, _, _, rfl, .ty "str", hd.ty, kit_ty (kit_str d), _, rfl, ?_⟩
    have zz := z H (fun _ _ e => e)
    cases d <;> first
      | exact iteF zz
      | skip
    cases hd
    exact iteT ⟨_, rfl, _, _, rfl, rfl, zz⟩
theorem scLLine : FnScope ["_law_value"] ["_law_value"] (defScope sLLine) := ⟨rfl, rfl, rfl, by decide +kernel, rfl, by decide +kernel, by decide +kernel⟩
theorem ok_lline {f : Addr} {fd : FuncData} (F : Fun K "_law_is_line" "_law_is_line" sLLine f fd) (T : Blt mg) : FnOk P w K mg base CX0 1 f fd ["_law_value"] (spJudge K isLine) := by
  refine F.ok scLLine (fun vs H Q E h => ?_) (fun cdv A outer s H vs Q E hr h => ?_)
  · obtain ⟨x, d, rfl, _⟩ := h
    rfl
  · obtain ⟨x, d, rfl, hd, z⟩ := h
    refine ⟨_, pss_one (ps_ret (pe_and (pe_callB call_isi (by rfl) T.isin (by decide +kernel) (pa_cons (pv 0) (pa_cons (pe_bltn (v := .ty "str") (u := .type "str") (by rfl) T.str (by decide +kernel) rfl) pa_nil))) (pe_one (pe_cmpR op_notIn_sign pe_str (pv 0) (by rfl))))), ?_⟩
    refine ⟨_, rfl, x, _, _, _, _, rfl, .ty "str", hd.ty, kit_ty (kit_str d), _, rfl, ?_⟩
    have zz := z H (fun _ _ e => e)
    cases d <;> first
      | exact iteF zz
      | skip
    cases hd
    exact iteT ⟨_, rfl, _, _, rfl, rfl, zz⟩
theorem scTup : FnScope ["value", "many"] ["value", "many"] (defScope sIsTuple) := ⟨rfl, rfl, rfl, by decide +kernel, rfl, by decide +kernel, by decide +kernel⟩
theorem ok_tup {f : Addr} {fd : FuncData} (F : Fun K "is_tuple" "is_tuple" sIsTuple f fd) (T : Blt mg) : FnOk P w K mg base CX0 1 f fd ["value", "many"] (spTup K) := by
  refine F.ok scTup (fun vs H Q E h => ?_) (fun cdv A outer s H vs Q E hr h => ?_)
  · obtain ⟨x, d, n, rfl, _⟩ := h
    rfl
  · obtain ⟨x, d, n, rfl, hd, z⟩ := h
    refine ⟨_, pss_one (ps_ret (pe_and (pe_callB call_isi (by rfl) T.isin (by decide +kernel) (pa_cons (pv 0) (pa_cons (pe_bltn (v := .ty "tuple") (u := .type "tuple") (by rfl) T.tuple (by decide +kernel) rfl) pa_nil)))
      (pe_one (pe_cmpR op_eq (pe_callB call_len_seq (by rfl) T.len PySem.boot_len (pa_cons (pv 0) pa_nil)) (pv 1) (nomark _))))), ?_⟩
    refine ⟨_, rfl, x, _, _, _, _, rfl, .ty "tuple", hd.ty, kit_ty (kit_tuple d), _, rfl, ?_⟩
    have zz := z H (fun _ _ e => e)
    cases hd with
    | @tup a xs ds h1 h2 =>
      refine iteT ⟨_, rfl, a, xs, rfl, .inr h1, _, rfl, rfl, ?_⟩
      have e : decide (V.int ((xs.length : Nat) : Int) = V.int n) = isTup n (.tuple ds) := by
        show _ = decide ((ds.length : Int) = n)
        rw [h2.length]
        simp
      rw [e]
      exact zz
    | _ => exact iteF zz
theorem scIsClash : FnScope ["token"] ["token"] (defScope sIsClash) := ⟨rfl, rfl, rfl, by decide +kernel, rfl, by decide +kernel, by decide +kernel⟩
theorem ok_isClash {f : Addr} {fd : FuncData} (F : Fun K "is_clash" "is_clash" sIsClash f fd) (T : Blt mg) : FnOk P w K mg base CX0 1 f fd ["token"] (spJudge K tupB) := by
  refine F.ok scIsClash (fun vs H Q E h => ?_) (fun cdv A outer s H vs Q E hr h => ?_)
  · obtain ⟨x, d, rfl, _⟩ := h
    rfl
  · obtain ⟨x, d, rfl, hd, z⟩ := h
    refine ⟨_, pss_one (ps_ret (pe_callB call_isi (by rfl) T.isin (by decide +kernel) (pa_cons (pv 0) (pa_cons (pe_bltn (v := .ty "tuple") (u := .type "tuple") (by rfl) T.tuple (by decide +kernel) rfl) pa_nil)))), ?_⟩
    refine ⟨_, rfl, x, _, _, _, _, rfl, .ty "tuple", hd.ty, kit_ty (kit_tuple d), ?_⟩
    have zz := z H (fun _ _ e => e)
    cases d <;> exact zz
theorem scLines : FnScope ["value", "line"] ["value"] (defScope sLines) := ⟨rfl, rfl, rfl, by decide +kernel, rfl, by decide +kernel, by decide +kernel⟩
theorem ok_lines {f fI : Addr} {fd fdI : FuncData} {tm : Nat} (F : Fun K "is_tuple_of_lines" "is_tuple_of_lines" sLines f fd) (T : Blt mg) (mM : mg "MOST" = some (.int 60 tm))
    (FI : Fun K "is_line" "is_line" sLine fI fdI) (bI : Binds K fdI ["value"] []) (mI : mg "is_line" = some (.ref fI)) : FnOk P w K mg base CX0 2 f fd ["value"] (spJudge K linesB) := by
  have GI := ok_line (P := P) (w := w) (base := base) FI T
  refine F.ok scLines (fun vs H Q E h => ?_) (fun cdv A outer s H vs Q E hr h => ?_)
  · obtain ⟨x, d, rfl, _⟩ := h
    rfl
  · obtain ⟨x, d, rfl, hd, z⟩ := h
    refine ⟨_, pss_one (ps_ret (pe_and (pe_callB call_isi (by rfl) T.isin (by decide +kernel) (pa_cons (pv 0) (pa_cons (pe_bltn (v := .ty "tuple") (u := .type "tuple") (by rfl) T.tuple (by decide +kernel) rfl) pa_nil))) (pe_and (pe_cmpR op_le (pe_callB call_len_seq (by rfl) T.len PySem.boot_len (pa_cons (pv 0) pa_nil)) (pe_glob (v := .int 60) (by rfl) mM ⟨_, rfl⟩) (nomark _))
        (pe_one (pe_callB (cr_all rfl) (by rfl) (T.all "all" (by decide)) (by decide +kernel) (pa_cons (pe_lc (own := [("line", 1)]) (g := gName 1) (tt := tYes) (te := tCall (spJudge K isLine) [] E0 (tCons (tVar 1) tNil)) rfl scLines.nd (pi_tup (pv 0))
          (blkOk_by (own := [("line", 1)]) (N := ["value", "line"]) (sc := defScope sLines) (by decide +kernel)) (fun _ _ _ _ _ => pg_name (i := 1) scLines.nd rfl (Or.inl rfl)) (fun _ _ _ _ _ => pts_nil)
          (fun _ _ _ _ _ => pe_call GI hr rfl mI FI.kp bI .nil pass0 (pa_cons (pv 1) pa_nil))) pa_nil)))))), ?_⟩
    refine ⟨_, rfl, x, _, _, _, _, rfl, .ty "tuple", hd.ty, kit_ty (kit_tuple d), _, rfl, ?_⟩
    have zz := z H (fun _ _ e => e)
    cases hd with
    | @tup a xs ds h1 h2 =>
      refine iteT ⟨_, rfl, a, xs, rfl, .inr h1, _, _, rfl, rfl, _, rfl, ?_⟩
      have hlen := h2.length
      refine ite2 (fun c1 => ?_) (fun c1 => ?_)
      · have c2 : xs.length ≤ 60 := by have := of_decide_eq_true c1; omega
        refine ⟨_, rfl, a, rfl, ⟨_, h1⟩, fun D nD => ?_⟩
        have sD := same_upd (o := .lst []) nD
        refine lc_tup (K := K) (a := a) (xs := xs) (fun i H' => Same H H' ∧ H' D = some (.lst (((ds.take i).map isLine).map V.bl))) ⟨sD, upd_same⟩ (fun i H' _ hh => XR.Same.tup hh.1 h1) ?_ ?_
        · rintro i x H' hx ⟨sm, hD⟩
          obtain ⟨d, hd1, hd2⟩ := h2.get hx
          refine ⟨rfl, ?_⟩
          unfold tYes
          dsimp only
          rw [if_pos rfl]
          have fin : ∀ H2, Same H' H2 → (∃ l, H2 D = some (.lst l) ∧ l.length < sizeLine ∧ (∀ b o, H b = some o → upd H2 D (.lst (l ++ [V.bl (isLine d)])) b = some o) ∧ upd H2 D (.lst (l ++ [V.bl (isLine d)])) D = some (.lst (((ds.take (i + 1)).map isLine).map V.bl))) := by
            intro H2 s2
            refine ⟨_, s2 _ _ hD, ?_, fun b o h => ?_, ?_⟩
            · rw [List.length_map, List.length_map]
              have c3 : (ds.take i).length ≤ 60 := by rw [List.length_take]; omega
              exact Nat.lt_of_le_of_lt c3 (by decide)
            · rw [upd_ne (ne_of_none h nD)]
              exact s2 _ _ (sm _ _ h)
            · rw [upd_same, List.take_add_one, hd1, List.map_append, List.map_append]
              rfl
          exact ⟨_, rfl, x, d, rfl, hd2.same sm, fun H2 s2 => fin H2 s2⟩
        · rintro H' ⟨sm, hD⟩
          refine ⟨D, ds.map isLine, rfl, SqL.of (by rw [hD, hlen, List.take_length]), ?_⟩
          have e : (ds.map isLine).all id = linesB (.tuple ds) := by
            rw [linesB_tup]
            rw [List.all_map, decide_eq_true (show ds.length ≤ 60 by omega)]
            rfl
          rw [e]
          exact z _ sm
      · have e : linesB (.tuple ds) = false := by
          have c2 : ¬ ds.length ≤ 60 := fun h => c1 (decide_eq_true (by omega))
          rw [linesB_tup]
          rw [decide_eq_false c2]
          rfl
        rw [e] at zz
        exact zz
    | _ => exact iteF zz
theorem scLLines : FnScope ["_law_value", "_law_one"] ["_law_value"] (defScope sLLines) := ⟨rfl, rfl, rfl, by decide +kernel, rfl, by decide +kernel, by decide +kernel⟩
theorem ok_llines {f fI : Addr} {fd fdI : FuncData} {tm : Nat} (F : Fun K "_law_is_lines" "_law_is_lines" sLLines f fd) (T : Blt mg) 
    (FI : Fun K "_law_is_line" "_law_is_line" sLLine fI fdI) (bI : Binds K fdI ["_law_value"] []) (mI : mg "_law_is_line" = some (.ref fI)) : FnOk P w K mg base CX0 2 f fd ["_law_value"] (spJudge K linesB) := by
  have GI := ok_lline (P := P) (w := w) (base := base) FI T
  refine F.ok scLLines (fun vs H Q E h => ?_) (fun cdv A outer s H vs Q E hr h => ?_)
  · obtain ⟨x, d, rfl, _⟩ := h
    rfl
  · obtain ⟨x, d, rfl, hd, z⟩ := h
    refine ⟨_, pss_one (ps_ret (pe_and (pe_callB call_isi (by rfl) T.isin (by decide +kernel) (pa_cons (pv 0) (pa_cons (pe_bltn (v := .ty "tuple") (u := .type "tuple") (by rfl) T.tuple (by decide +kernel) rfl) pa_nil))) (pe_and (pe_cmpR op_lt (pe_callB call_len_seq (by rfl) T.len PySem.boot_len (pa_cons (pv 0) pa_nil)) pe_int (nomark _))
        (pe_one (pe_callB (cr_all rfl) (by rfl) (T.all "all" (by decide)) (by decide +kernel) (pa_cons (pe_lc (own := [("_law_one", 1)]) (g := gName 1) (tt := tYes) (te := tCall (spJudge K isLine) [] E0 (tCons (tVar 1) tNil)) rfl scLLines.nd (pi_tup (pv 0))
          (blkOk_by (own := [("_law_one", 1)]) (N := ["_law_value", "_law_one"]) (sc := defScope sLLines) (by decide +kernel)) (fun _ _ _ _ _ => pg_name (i := 1) scLLines.nd rfl (Or.inl rfl)) (fun _ _ _ _ _ => pts_nil)
          (fun _ _ _ _ _ => pe_call GI hr rfl mI FI.kp bI .nil pass0 (pa_cons (pv 1) pa_nil))) pa_nil)))))), ?_⟩
    refine ⟨_, rfl, x, _, _, _, _, rfl, .ty "tuple", hd.ty, kit_ty (kit_tuple d), _, rfl, ?_⟩
    have zz := z H (fun _ _ e => e)
    cases hd with
    | @tup a xs ds h1 h2 =>
      refine iteT ⟨_, rfl, a, xs, rfl, .inr h1, _, _, rfl, rfl, _, rfl, ?_⟩
      have hlen := h2.length
      refine ite2 (fun c1 => ?_) (fun c1 => ?_)
      · have c2 : xs.length ≤ 60 := by have := of_decide_eq_true c1; omega
        refine ⟨_, rfl, a, rfl, ⟨_, h1⟩, fun D nD => ?_⟩
        have sD := same_upd (o := .lst []) nD
        refine lc_tup (K := K) (a := a) (xs := xs) (fun i H' => Same H H' ∧ H' D = some (.lst (((ds.take i).map isLine).map V.bl))) ⟨sD, upd_same⟩ (fun i H' _ hh => XR.Same.tup hh.1 h1) ?_ ?_
        · rintro i x H' hx ⟨sm, hD⟩
          obtain ⟨d, hd1, hd2⟩ := h2.get hx
          refine ⟨rfl, ?_⟩
          unfold tYes
          dsimp only
          rw [if_pos rfl]
          have fin : ∀ H2, Same H' H2 → (∃ l, H2 D = some (.lst l) ∧ l.length < sizeLine ∧ (∀ b o, H b = some o → upd H2 D (.lst (l ++ [V.bl (isLine d)])) b = some o) ∧ upd H2 D (.lst (l ++ [V.bl (isLine d)])) D = some (.lst (((ds.take (i + 1)).map isLine).map V.bl))) := by
            intro H2 s2
            refine ⟨_, s2 _ _ hD, ?_, fun b o h => ?_, ?_⟩
            · rw [List.length_map, List.length_map]
              have c3 : (ds.take i).length ≤ 60 := by rw [List.length_take]; omega
              exact Nat.lt_of_le_of_lt c3 (by decide)
            · rw [upd_ne (ne_of_none h nD)]
              exact s2 _ _ (sm _ _ h)
            · rw [upd_same, List.take_add_one, hd1, List.map_append, List.map_append]
              rfl
          exact ⟨_, rfl, x, d, rfl, hd2.same sm, fun H2 s2 => fin H2 s2⟩
        · rintro H' ⟨sm, hD⟩
          refine ⟨D, ds.map isLine, rfl, SqL.of (by rw [hD, hlen, List.take_length]), ?_⟩
          have e : (ds.map isLine).all id = linesB (.tuple ds) := by
            rw [linesB_tup]
            rw [List.all_map, decide_eq_true (show ds.length ≤ 60 by omega)]
            rfl
          rw [e]
          exact z _ sm
      · have e : linesB (.tuple ds) = false := by
          have c2 : ¬ ds.length ≤ 60 := fun h => c1 (decide_eq_true (by omega))
          rw [linesB_tup]
          rw [decide_eq_false c2]
          rfl
        rw [e] at zz
        exact zz
    | _ => exact iteF zz
end
end K64
namespace K64
open PySem L2 XR
section
variable {P : Program} {w : World} {K : PySem.W.Frag} {mg : Str → Option Value} {base : Heap}
theorem scClashL : FnScope ["value", "_", "a", "b", "ones", "twos"] ["value"] (defScope sClashL) := ⟨rfl, rfl, rfl, by decide +kernel, rfl, by decide +kernel, by decide +kernel⟩
theorem ok_clashL {f fT fW fL : Addr} {fd fdT fdW fdL : FuncData} {tm : Nat} (F : Fun K "is_clash_of_lines" "is_clash_of_lines" sClashL f fd) (T : Blt mg) (mM : mg "MOST" = some (.int 60 tm))
    (FT : Fun K "is_tuple" "is_tuple" sIsTuple fT fdT) (bT : Binds K fdT ["value", "many"] []) (mT : mg "is_tuple" = some (.ref fT))
    (FW : Fun K "is_whole" "is_whole" sWhole fW fdW) (bW : Binds K fdW ["value"] []) (mW : mg "is_whole" = some (.ref fW))
    (FL : Fun K "is_tuple_of_lines" "is_tuple_of_lines" sLines fL fdL) (GL : FnOk P w K mg base CX0 2 fL fdL ["value"] (spJudge K linesB)) (bL : Binds K fdL ["value"] []) (mL : mg "is_tuple_of_lines" = some (.ref fL)) : FnOk P w K mg base CX0 3 f fd ["value"] (spJudge K clashB) := by
  have GT := ok_tup (P := P) (w := w) (base := base) FT T
  have GW := ok_whole (P := P) (w := w) (base := base) FW T
  refine F.ok scClashL (fun vs H Q E h => ?_) (fun cdv A outer s H vs Q E hr h => ?_)
  · obtain ⟨x, d, rfl, _⟩ := h
    rfl
  · obtain ⟨x, d, rfl, hd, z⟩ := h
    have hr1 := hr.mono (show 1 ≤ 2 by decide)
    refine ⟨_, pss_cons (ps_if (PW.pt (pw_or (pt_not (pt_val (pe_call GT hr1 rfl mT FT.kp bT .nil pass0 (pa_cons (pv 0) (pa_cons pe_int pa_nil)))))
        (pw_or (pt_not (pt_val (pe_callB call_isi (by rfl) T.isin (by decide +kernel) (pa_cons (pe_ix ix_tup (pv 0) pe_int (fun _ _ => rfl)) (pa_cons (pe_bltn (v := .ty "str") (u := .type "str") (by rfl) T.str (by decide +kernel) rfl) pa_nil))))) (pw_or1 (pt_cmpR op_ne (pe_ix ix_tup (pv 0) pe_int (fun _ _ => rfl)) pe_str (nomark _)))))) (pss_one (ps_ret pe_bl)) pss_nil)
      (pss_cons (ps_asg (pv 0) (pg_tup rfl (pgs_cons (pg_name (i := 1) scClashL.nd rfl (.inl rfl)) (pgs_cons (pg_name (i := 2) scClashL.nd rfl (.inl rfl)) (pgs_cons (pg_name (i := 3) scClashL.nd rfl (.inl rfl)) (pgs_cons (pg_name (i := 4) scClashL.nd rfl (.inl rfl)) (pgs_cons (pg_name (i := 5) scClashL.nd rfl (.inl rfl)) pgs_nil)))))))
      (pss_cons (ps_if (PW.pt (pw_or (pt_not (pt_val (pe_call GW hr1 rfl mW FW.kp bW .nil pass0 (pa_cons (pv 2) pa_nil)))) (pw_or (pt_not (pt_val (pe_call GW hr1 rfl mW FW.kp bW .nil pass0 (pa_cons (pv 3) pa_nil)))) (pw_or1 (pt_not (pt_chain3 op_le op_le op_le pe_int (pv 2) (pv 3) (pe_glob (v := .int 60) (by rfl) mM ⟨_, rfl⟩))))))) (pss_one (ps_ret pe_bl)) pss_nil)
      (pss_one (ps_ret (pe_and (pe_call GL hr rfl mL FL.kp bL .nil pass0 (pa_cons (pv 4) pa_nil)) (pe_one (pe_call GL hr rfl mL FL.kp bL .nil pass0 (pa_cons (pv 5) pa_nil)))))))), ?_⟩
    refine ⟨_, rfl, x, d, 5, rfl, hd, fun H1 s1 => ⟨_, rfl, ?_⟩⟩
    have zz := z H1 s1
    cases e5 : isTup 5 d with
    | false =>
      refine iteT (iteT ?_)
      have e : clashB d = false := by
        cases d with
        | tuple ds =>
          refine not5 fun h => ?_
          have : isTup 5 (.tuple ds) = true := decide_eq_true (by omega)
          rw [this] at e5
          cases e5
        | _ => rfl
      rw [e] at zz
      exact zz
    | true =>
      refine iteF ?_
      cases hd with
      | @tup a xs ds h1 h2 =>
        have hl : ds.length = 5 := by have := of_decide_eq_true e5; omega
        obtain ⟨d0, d1, d2, d3, d4, x0, x1, x2, x3, x4, rfl, rfl, a0, a1, a2, a3, a4⟩ := five_of h2 hl
        have ht := XR.Same.tup s1 h1
        refine ⟨_, rfl, a, _, _, _, rfl, rfl, ht, atI_nat (xs := [x0, x1, x2, x3, x4]) (j := 0) rfl, x0, _, _, _, _, rfl, .ty "str", (a0.same s1).ty, kit_ty (kit_str d0), _, rfl, ?_⟩
        cases d0 with
        | str s0 =>
          cases a0
          refine iteF ⟨_, rfl, a, _, _, _, rfl, rfl, ht, atI_nat (xs := [V.str s0, x1, x2, x3, x4]) (j := 0) rfl, rfl, _, rfl, ?_⟩
          have ez : clashB (.tuple [.str s0, d1, d2, d3, d4]) = (decide (s0 = ("clash" : Str)) && (rngB d1 d2 && (linesB d3 && linesB d4))) := rfl
          rw [ez] at zz
          refine ite2 (fun c0 => ?_) (fun c0 => ?_)
          · have q0 : s0 ≠ ("clash" : Str) := fun h => by rw [h] at c0; simp at c0
            rw [decide_eq_false q0] at zz
            exact zz
          · have q0 : s0 = ("clash" : Str) := by
              by_cases h : s0 = ("clash" : Str)
              · exact h
              · exact absurd (by simp [h]) c0
            rw [decide_eq_true q0] at zz
            refine ⟨_, rfl, a, _, rfl, ht, rfl, _, _, rfl, _, _, rfl, _, _, rfl, _, _, rfl, _, _, rfl, rfl, ?_⟩
            refine ⟨_, rfl, x1, d1, rfl, a1.same s1, fun H2 s2 => ⟨_, rfl, ?_⟩⟩
            have z2 := z H2 (s1.trans s2)
            rw [ez, decide_eq_true q0] at z2
            cases d1 with
            | int i =>
              cases a1
              refine iteF ⟨_, rfl, x2, d2, rfl, (a2.same s1).same s2, fun H3 s3 => ⟨_, rfl, ?_⟩⟩
              have z3 := z H3 ((s1.trans s2).trans s3)
              rw [ez, decide_eq_true q0] at z3
              cases d2 with
              | int j =>
                cases a2
                have er : rngB (.int i) (.int j) = (decide (0 ≤ i) && (decide (i ≤ j) && decide (j ≤ 60))) := rfl
                rw [er] at z3
                refine iteF ⟨_, rfl, _, _, rfl, rfl, _, rfl, ?_⟩
                by_cases c1 : (0 : Int) ≤ i
                · rw [decide_eq_true c1] at z3 ⊢
                  refine iteT ⟨_, rfl, _, _, rfl, rfl, _, rfl, ?_⟩
                  by_cases c2 : i ≤ j
                  · rw [decide_eq_true c2] at z3 ⊢
                    refine iteT ⟨_, _, rfl, rfl, _, rfl, ?_⟩
                    by_cases c3 : j ≤ 60
                    · rw [decide_eq_true c3] at z3 ⊢
                      refine iteF ⟨_, rfl, x3, d3, rfl, ((a3.same s1).same s2).same s3, fun H4 s4 => ⟨_, rfl, ?_⟩⟩
                      have z4 := z H4 (((s1.trans s2).trans s3).trans s4)
                      rw [ez, decide_eq_true q0, er, decide_eq_true c1, decide_eq_true c2, decide_eq_true c3] at z4
                      cases e3 : linesB d3 with
                      | false =>
                        rw [e3] at z4
                        exact iteF z4
                      | true =>
                        refine iteT ⟨_, rfl, x4, d4, rfl, (((a4.same s1).same s2).same s3).same s4, fun H5 s5 => ?_⟩
                        have z5 := z H5 ((((s1.trans s2).trans s3).trans s4).trans s5)
                        rw [ez, decide_eq_true q0, er, decide_eq_true c1, decide_eq_true c2, decide_eq_true c3, e3] at z5
                        exact z5
                    · rw [decide_eq_false c3] at z3 ⊢
                      exact iteT z3
                  · rw [decide_eq_false c2] at z3 ⊢
                    exact iteF ⟨_, rfl, iteT z3⟩
                · rw [decide_eq_false c1] at z3 ⊢
                  exact iteF ⟨_, rfl, iteT z3⟩
              | _ => exact iteT z3
            | _ => exact iteT (iteT z2)
        | _ => exact iteT (iteT zz)
      | _ => cases e5
theorem scIsRow : FnScope ["value", "token"] ["value"] (defScope sIsRow) := ⟨rfl, rfl, rfl, by decide +kernel, rfl, by decide +kernel, by decide +kernel⟩
theorem ok_isRow {f fI fC : Addr} {fd fdI fdC : FuncData} {tm : Nat} (F : Fun K "is_row" "is_row" sIsRow f fd) (T : Blt mg) (mM : mg "MOST_TOKENS" = some (.int 180 tm))
    (FI : Fun K "is_line" "is_line" sLine fI fdI) (bI : Binds K fdI ["value"] []) (mI : mg "is_line" = some (.ref fI))
    (FC : Fun K "is_clash_of_lines" "is_clash_of_lines" sClashL fC fdC) (GC : FnOk P w K mg base CX0 3 fC fdC ["value"] (spJudge K clashB)) (bC : Binds K fdC ["value"] []) (mC : mg "is_clash_of_lines" = some (.ref fC)) : FnOk P w K mg base CX0 4 f fd ["value"] (spJudge K rowB) := by
  have GI := ok_line (P := P) (w := w) (base := base) FI T
  refine F.ok scIsRow (fun vs H Q E h => ?_) (fun cdv A outer s H vs Q E hr h => ?_)
  · obtain ⟨x, d, rfl, _⟩ := h
    rfl
  · obtain ⟨x, d, rfl, hd, z⟩ := h
    have hr1 := hr.mono (show 1 ≤ 3 by decide)
    refine ⟨_, pss_cons (ps_if (PW.pt (pw_or (pt_not (pt_val (pe_callB call_isi (by rfl) T.isin (by decide +kernel) (pa_cons (pv 0) (pa_cons (pe_bltn (v := .ty "tuple") (u := .type "tuple") (by rfl) T.tuple (by decide +kernel) rfl) pa_nil))))) (pw_or1 (pt_cmpR op_gt (pe_callB call_len_seq (by rfl) T.len PySem.boot_len (pa_cons (pv 0) pa_nil)) (pe_glob (v := .int 180) (by rfl) mM ⟨_, rfl⟩) (nomark _))))) (pss_one (ps_ret pe_bl)) pss_nil)
      (pss_one (ps_ret (pe_callB (cr_all rfl) (by rfl) (T.all "all" (by decide)) (by decide +kernel) (pa_cons (pe_lc (own := [("token", 1)]) (g := gName 1) (tt := tYes) (te := tOrV (tCall (spJudge K isLine) [] E0 (tCons (tVar 1) tNil)) (tCall (spJudge K clashB) [] E0 (tCons (tVar 1) tNil))) rfl scIsRow.nd (pi_tup (pv 0))
          (blkOk_by (own := [("token", 1)]) (N := ["value", "token"]) (sc := defScope sIsRow) (by decide +kernel)) (fun _ _ _ _ _ => pg_name (i := 1) scIsRow.nd rfl (Or.inl rfl)) (fun _ _ _ _ _ => pts_nil)
          (fun _ _ _ _ _ => pe_or (pe_call GI hr1 rfl mI FI.kp bI .nil pass0 (pa_cons (pv 1) pa_nil)) (pe_one (pe_call GC hr rfl mC FC.kp bC .nil pass0 (pa_cons (pv 1) pa_nil))))) pa_nil)))), ?_⟩
    refine ⟨_, rfl, x, _, _, _, _, rfl, .ty "tuple", hd.ty, kit_ty (kit_tuple d), _, rfl, ?_⟩
    have zz := z H (fun _ _ e => e)
    cases hd with
    | @tup a xs ds h1 h2 =>
      refine iteF ⟨_, rfl, a, xs, rfl, .inr h1, _, _, rfl, rfl, _, rfl, ?_⟩
      have hlen := h2.length
      refine ite2 (fun c1 => ?_) (fun c1 => ?_)
      · have e : rowB (.tuple ds) = false := by
          have c2 := of_decide_eq_true c1
          rw [rowB_tup, decide_eq_false (by omega)]
          rfl
        rw [e] at zz
        exact zz
      · have c2 : xs.length ≤ 180 := by
          have c3 : ¬ ((xs.length : Int) > 180) := fun h => c1 (decide_eq_true h)
          omega
        refine ⟨_, rfl, a, rfl, ⟨_, h1⟩, fun D nD => ?_⟩
        have sD := same_upd (o := .lst []) nD
        refine lc_tup (K := K) (a := a) (xs := xs) (fun i H' => Same H H' ∧ H' D = some (.lst (((ds.take i).map tokB).map V.bl))) ⟨sD, upd_same⟩ (fun i H' _ hh => XR.Same.tup hh.1 h1) ?_ ?_
        · rintro i x H' hx ⟨sm, hD⟩
          obtain ⟨d, hd1, hd2⟩ := h2.get hx
          refine ⟨rfl, ?_⟩
          unfold tYes
          dsimp only
          rw [if_pos rfl]
          have fin : ∀ H2, Same H' H2 → (∃ l, H2 D = some (.lst l) ∧ l.length < sizeLine ∧ (∀ b o, H b = some o → upd H2 D (.lst (l ++ [V.bl (tokB d)])) b = some o) ∧ upd H2 D (.lst (l ++ [V.bl (tokB d)])) D = some (.lst (((ds.take (i + 1)).map tokB).map V.bl))) := by
            intro H2 s2
            refine ⟨_, s2 _ _ hD, ?_, fun b o h => ?_, ?_⟩
            · rw [List.length_map, List.length_map]
              have c3 : (ds.take i).length ≤ 180 := by rw [List.length_take]; omega
              exact Nat.lt_of_le_of_lt c3 (by decide)
            · rw [upd_ne (ne_of_none h nD)]
              exact s2 _ _ (sm _ _ h)
            · rw [upd_same, List.take_add_one, hd1, List.map_append, List.map_append]
              rfl
          have ez : ∀ b : Bool, isLine d = b → tokB d = (b || clashB d) := fun b h => by unfold tokB; rw [h]
          refine ⟨_, rfl, x, d, rfl, hd2.same sm, fun H2 s2 => ⟨_, rfl, ?_⟩⟩
          cases el : isLine d with
          | true =>
            have f2 := fin H2 s2
            rw [ez _ el] at f2
            exact iteT f2
          | false =>
            refine iteF ⟨_, rfl, x, d, rfl, (hd2.same sm).same s2, fun H3 s3 => ?_⟩
            have f3 := fin H3 (s2.trans s3)
            rw [ez _ el] at f3
            exact f3
        · rintro H' ⟨sm, hD⟩
          refine ⟨D, ds.map tokB, rfl, SqL.of (by rw [hD, hlen, List.take_length]), ?_⟩
          have e : (ds.map tokB).all id = rowB (.tuple ds) := by
            rw [rowB_tup, List.all_map, decide_eq_true (show ds.length ≤ 180 by omega)]
            rfl
          rw [e]
          exact z _ sm
    | _ => exact iteT (iteT zz)
theorem scLTok : FnScope ["_law_value"] ["_law_value"] (defScope sLTok) := ⟨rfl, rfl, rfl, by decide +kernel, rfl, by decide +kernel, by decide +kernel⟩
theorem ok_ltok {f fT fW fL : Addr} {fd fdT fdW fdL : FuncData} (F : Fun K "_law_is_token" "_law_is_token" sLTok f fd) (T : Blt mg)
    (FT : Fun K "_law_is_line" "_law_is_line" sLLine fT fdT) (bT : Binds K fdT ["_law_value"] []) (mT : mg "_law_is_line" = some (.ref fT))
    (FW : Fun K "_law_is_number" "_law_is_number" sLNum fW fdW) (bW : Binds K fdW ["_law_value"] []) (mW : mg "_law_is_number" = some (.ref fW))
    (FL : Fun K "_law_is_lines" "_law_is_lines" sLLines fL fdL) (GL : FnOk P w K mg base CX0 2 fL fdL ["_law_value"] (spJudge K linesB)) (bL : Binds K fdL ["_law_value"] []) (mL : mg "_law_is_lines" = some (.ref fL)) : FnOk P w K mg base CX0 3 f fd ["_law_value"] (spJudge K tokB) := by
  have GT := ok_lline (P := P) (w := w) (base := base) FT T
  have GW := ok_lnum (P := P) (w := w) (base := base) FW T
  refine F.ok scLTok (fun vs H Q E h => ?_) (fun cdv A outer s H vs Q E hr h => ?_)
  · obtain ⟨x, d, rfl, _⟩ := h
    rfl
  · obtain ⟨x, d, rfl, hd, z⟩ := h
    have hr1 := hr.mono (show 1 ≤ 2 by decide)
    refine ⟨_, pss_cons (ps_if (pt_not (pt_val (pe_callB call_isi (by rfl) T.isin (by decide +kernel) (pa_cons (pv 0) (pa_cons (pe_bltn (v := .ty "tuple") (u := .type "tuple") (by rfl) T.tuple (by decide +kernel) rfl) pa_nil))))) (pss_one (ps_ret (pe_call GT hr1 rfl mT FT.kp bT .nil pass0 (pa_cons (pv 0) pa_nil)))) pss_nil)
      (pss_cons (ps_if (PW.pt (pw_or (pt_cmpR op_ne (pe_callB call_len_seq (by rfl) T.len PySem.boot_len (pa_cons (pv 0) pa_nil)) pe_int (nomark _))
        (pw_or (pt_not (pt_val (pe_callB call_isi (by rfl) T.isin (by decide +kernel) (pa_cons (pe_ix ix_tup (pv 0) pe_int (fun _ _ => rfl)) (pa_cons (pe_bltn (v := .ty "str") (u := .type "str") (by rfl) T.str (by decide +kernel) rfl) pa_nil))))) (pw_or1 (pt_cmpR op_ne (pe_ix ix_tup (pv 0) pe_int (fun _ _ => rfl)) pe_str (nomark _)))))) (pss_one (ps_ret pe_bl)) pss_nil)
      (pss_cons (ps_if (PW.pt (pw_or (pt_not (pt_val (pe_call GW hr1 rfl mW FW.kp bW .nil pass0 (pa_cons (pe_ix ix_tup (pv 0) pe_int (fun _ _ => rfl)) pa_nil)))) (pw_or (pt_not (pt_val (pe_call GW hr1 rfl mW FW.kp bW .nil pass0 (pa_cons (pe_ix ix_tup (pv 0) pe_int (fun _ _ => rfl)) pa_nil)))) (pw_or1 (pt_not (pt_chain3 op_le op_le op_le pe_int (pe_ix ix_tup (pv 0) pe_int (fun _ _ => rfl)) (pe_ix ix_tup (pv 0) pe_int (fun _ _ => rfl)) pe_int)))))) (pss_one (ps_ret pe_bl)) pss_nil)
      (pss_one (ps_ret (pe_and (pe_call GL hr rfl mL FL.kp bL .nil pass0 (pa_cons (pe_ix ix_tup (pv 0) pe_int (fun _ _ => rfl)) pa_nil)) (pe_one (pe_call GL hr rfl mL FL.kp bL .nil pass0 (pa_cons (pe_ix ix_tup (pv 0) pe_int (fun _ _ => rfl)) pa_nil)))))))), ?_⟩
    refine ⟨_, rfl, x, _, _, _, _, rfl, .ty "tuple", hd.ty, kit_ty (kit_tuple d), _, rfl, ?_⟩
    have zz := z H (fun _ _ e => e)
    have hd0 := id hd
    cases hd with
    | @tup a xs ds h1 h2 =>
      refine iteF ⟨_, rfl, a, xs, rfl, .inr h1, rfl, _, rfl, ?_⟩
      have hlen := h2.length
      refine ite2 (fun c1 => ?_) (fun c1 => ?_)
      · have hl : ds.length ≠ 5 := fun h => by rw [hlen, h] at c1; simp at c1
        have e : tokB (.tuple ds) = false := not5 hl
        rw [e] at zz
        exact zz
      · have hl : ds.length = 5 := by
          by_cases h : ds.length = 5
          · exact h
          · exact absurd (by rw [hlen]; simp; omega) c1
        obtain ⟨d0, d1, d2, d3, d4, x0, x1, x2, x3, x4, rfl, rfl, a0, a1, a2, a3, a4⟩ := five_of h2 hl
        refine ⟨_, rfl, a, _, _, _, rfl, rfl, h1, atI_nat (xs := [x0, x1, x2, x3, x4]) (j := 0) rfl, x0, _, _, _, _, rfl, .ty "str", a0.ty, kit_ty (kit_str d0), _, rfl, ?_⟩
        cases d0 with
        | str s0 =>
          cases a0
          refine iteF ⟨_, rfl, a, _, _, _, rfl, rfl, h1, atI_nat (xs := [V.str s0, x1, x2, x3, x4]) (j := 0) rfl, rfl, _, rfl, ?_⟩
          have ez : tokB (.tuple [.str s0, d1, d2, d3, d4]) = (decide (s0 = ("clash" : Str)) && (rngB d1 d2 && (linesB d3 && linesB d4))) := rfl
          rw [ez] at zz
          refine ite2 (fun c0 => ?_) (fun c0 => ?_)
          · have q0 : s0 ≠ ("clash" : Str) := fun h => by rw [h] at c0; simp at c0
            rw [decide_eq_false q0] at zz
            exact zz
          · have q0 : s0 = ("clash" : Str) := by
              by_cases h : s0 = ("clash" : Str)
              · exact h
              · exact absurd (by simp [h]) c0
            rw [decide_eq_true q0] at zz
            refine ⟨_, rfl, a, _, _, _, rfl, rfl, h1, atI_nat (xs := [V.str s0, x1, x2, x3, x4]) (j := 1) rfl, x1, d1, rfl, a1, fun H2 s2 => ⟨_, rfl, ?_⟩⟩
            have z2 := z H2 s2
            rw [ez, decide_eq_true q0] at z2
            have t2 := XR.Same.tup s2 h1
            cases d1 with
            | int i =>
              cases a1
              refine iteF ⟨_, rfl, a, _, _, _, rfl, rfl, t2, atI_nat (xs := [V.str s0, V.int i, x2, x3, x4]) (j := 2) rfl, x2, d2, rfl, a2.same s2, fun H3 s3 => ⟨_, rfl, ?_⟩⟩
              have z3 := z H3 (s2.trans s3)
              rw [ez, decide_eq_true q0] at z3
              have t3 := XR.Same.tup s3 t2
              cases d2 with
              | int j =>
                cases a2
                have er : rngB (.int i) (.int j) = (decide (0 ≤ i) && (decide (i ≤ j) && decide (j ≤ 60))) := rfl
                rw [er] at z3
                refine iteF ⟨_, rfl, a, _, _, _, rfl, rfl, t3, atI_nat (xs := [V.str s0, V.int i, V.int j, x3, x4]) (j := 1) rfl, _, _, rfl, rfl, _, rfl, ?_⟩
                by_cases c1 : (0 : Int) ≤ i
                · rw [decide_eq_true c1] at z3 ⊢
                  refine iteT ⟨_, rfl, a, _, _, _, rfl, rfl, t3, atI_nat (xs := [V.str s0, V.int i, V.int j, x3, x4]) (j := 2) rfl, _, _, rfl, rfl, _, rfl, ?_⟩
                  by_cases c2 : i ≤ j
                  · rw [decide_eq_true c2] at z3 ⊢
                    refine iteT ⟨_, _, rfl, rfl, _, rfl, ?_⟩
                    by_cases c3 : j ≤ 60
                    · rw [decide_eq_true c3] at z3 ⊢
                      refine iteF ⟨_, rfl, a, _, _, _, rfl, rfl, t3, atI_nat (xs := [V.str s0, V.int i, V.int j, x3, x4]) (j := 3) rfl, x3, d3, rfl, (a3.same s2).same s3, fun H4 s4 => ⟨_, rfl, ?_⟩⟩
                      have z4 := z H4 ((s2.trans s3).trans s4)
                      rw [ez, decide_eq_true q0, er, decide_eq_true c1, decide_eq_true c2, decide_eq_true c3] at z4
                      cases e3 : linesB d3 with
                      | false =>
                        rw [e3] at z4
                        exact iteF z4
                      | true =>
                        refine iteT ⟨_, rfl, a, _, _, _, rfl, rfl, (XR.Same.tup s4 t3), atI_nat (xs := [V.str s0, V.int i, V.int j, x3, x4]) (j := 4) rfl, x4, d4, rfl, ((a4.same s2).same s3).same s4, fun H5 s5 => ?_⟩
                        have z5 := z H5 (((s2.trans s3).trans s4).trans s5)
                        rw [ez, decide_eq_true q0, er, decide_eq_true c1, decide_eq_true c2, decide_eq_true c3, e3] at z5
                        exact z5
                    · rw [decide_eq_false c3] at z3 ⊢
                      exact iteT z3
                  · rw [decide_eq_false c2] at z3 ⊢
                    exact iteF ⟨_, rfl, iteT z3⟩
                · rw [decide_eq_false c1] at z3 ⊢
                  exact iteF ⟨_, rfl, iteT z3⟩
              | _ => exact iteT z3
            | _ => exact iteT (iteT z2)
        | _ => exact iteT (iteT zz)
    | _ =>
      refine iteT ⟨_, rfl, _, _, rfl, hd0, fun H' s' => ?_⟩
      have e := z H' s'
      unfold tokB at e
      rw [show clashB _ = false from rfl, Bool.or_false] at e
      exact e
theorem scLToks : FnScope ["_law_value", "_law_one"] ["_law_value"] (defScope sLToks) := ⟨rfl, rfl, rfl, by decide +kernel, rfl, by decide +kernel, by decide +kernel⟩
theorem ok_ltoks {f fI : Addr} {fd fdI : FuncData} (F : Fun K "_law_is_tokens" "_law_is_tokens" sLToks f fd) (T : Blt mg)
    (FI : Fun K "_law_is_token" "_law_is_token" sLTok fI fdI) (GI : FnOk P w K mg base CX0 3 fI fdI ["_law_value"] (spJudge K tokB)) (bI : Binds K fdI ["_law_value"] []) (mI : mg "_law_is_token" = some (.ref fI)) : FnOk P w K mg base CX0 4 f fd ["_law_value"] (spJudge K rowB) := by
  refine F.ok scLToks (fun vs H Q E h => ?_) (fun cdv A outer s H vs Q E hr h => ?_)
  · obtain ⟨x, d, rfl, _⟩ := h
    rfl
  · obtain ⟨x, d, rfl, hd, z⟩ := h
    refine ⟨_, pss_one (ps_ret (pe_and (pe_callB call_isi (by rfl) T.isin (by decide +kernel) (pa_cons (pv 0) (pa_cons (pe_bltn (v := .ty "tuple") (u := .type "tuple") (by rfl) T.tuple (by decide +kernel) rfl) pa_nil))) (pe_and (pe_cmpR op_lt (pe_callB call_len_seq (by rfl) T.len PySem.boot_len (pa_cons (pv 0) pa_nil)) pe_int (nomark _))
        (pe_one (pe_callB (cr_all rfl) (by rfl) (T.all "all" (by decide)) (by decide +kernel) (pa_cons (pe_lc (own := [("_law_one", 1)]) (g := gName 1) (tt := tYes) (te := tCall (spJudge K tokB) [] E0 (tCons (tVar 1) tNil)) rfl scLToks.nd (pi_tup (pv 0))
          (blkOk_by (own := [("_law_one", 1)]) (N := ["_law_value", "_law_one"]) (sc := defScope sLToks) (by decide +kernel)) (fun _ _ _ _ _ => pg_name (i := 1) scLToks.nd rfl (Or.inl rfl)) (fun _ _ _ _ _ => pts_nil)
          (fun _ _ _ _ _ => pe_call GI hr rfl mI FI.kp bI .nil pass0 (pa_cons (pv 1) pa_nil))) pa_nil)))))), ?_⟩
    refine ⟨_, rfl, x, _, _, _, _, rfl, .ty "tuple", hd.ty, kit_ty (kit_tuple d), _, rfl, ?_⟩
    have zz := z H (fun _ _ e => e)
    cases hd with
    | @tup a xs ds h1 h2 =>
      refine iteT ⟨_, rfl, a, xs, rfl, .inr h1, _, _, rfl, rfl, _, rfl, ?_⟩
      have hlen := h2.length
      refine ite2 (fun c1 => ?_) (fun c1 => ?_)
      · have c2 : xs.length ≤ 180 := by have := of_decide_eq_true c1; omega
        refine ⟨_, rfl, a, rfl, ⟨_, h1⟩, fun D nD => ?_⟩
        have sD := same_upd (o := .lst []) nD
        refine lc_tup (K := K) (a := a) (xs := xs) (fun i H' => Same H H' ∧ H' D = some (.lst (((ds.take i).map tokB).map V.bl))) ⟨sD, upd_same⟩ (fun i H' _ hh => XR.Same.tup hh.1 h1) ?_ ?_
        · rintro i x H' hx ⟨sm, hD⟩
          obtain ⟨d, hd1, hd2⟩ := h2.get hx
          refine ⟨rfl, ?_⟩
          unfold tYes
          dsimp only
          rw [if_pos rfl]
          have fin : ∀ H2, Same H' H2 → (∃ l, H2 D = some (.lst l) ∧ l.length < sizeLine ∧ (∀ b o, H b = some o → upd H2 D (.lst (l ++ [V.bl (tokB d)])) b = some o) ∧ upd H2 D (.lst (l ++ [V.bl (tokB d)])) D = some (.lst (((ds.take (i + 1)).map tokB).map V.bl))) := by
            intro H2 s2
            refine ⟨_, s2 _ _ hD, ?_, fun b o h => ?_, ?_⟩
            · rw [List.length_map, List.length_map]
              have c3 : (ds.take i).length ≤ 180 := by rw [List.length_take]; omega
              exact Nat.lt_of_le_of_lt c3 (by decide)
            · rw [upd_ne (ne_of_none h nD)]
              exact s2 _ _ (sm _ _ h)
            · rw [upd_same, List.take_add_one, hd1, List.map_append, List.map_append]
              rfl
          exact ⟨_, rfl, x, d, rfl, hd2.same sm, fun H2 s2 => fin H2 s2⟩
        · rintro H' ⟨sm, hD⟩
          refine ⟨D, ds.map tokB, rfl, SqL.of (by rw [hD, hlen, List.take_length]), ?_⟩
          have e : (ds.map tokB).all id = rowB (.tuple ds) := by
            rw [rowB_tup, List.all_map, decide_eq_true (show ds.length ≤ 180 by omega)]
            rfl
          rw [e]
          exact z _ sm
      · have e : rowB (.tuple ds) = false := by
          have c2 : ¬ ds.length ≤ 180 := fun h => c1 (decide_eq_true (by omega))
          rw [rowB_tup, decide_eq_false c2]
          rfl
        rw [e] at zz
        exact zz
    | _ => exact iteF zz
end
end K64
namespace K64
open PySem L2 XR
abbrev sPot : Stmt := top 22
abbrev sDraw : Stmt := top 23
abbrev sPick : Stmt := top 24
def Blt.abs {mg : Str → Option Value} (T : Blt mg) : mg "abs" = none := T.all _ (by decide)
def Blt.divmod {mg : Str → Option Value} (T : Blt mg) : mg "divmod" = none := T.all _ (by decide)
section
variable {P : Program} {w : World} {K : PySem.W.Frag} {mg : Str → Option Value} {base : Heap}
theorem scPot : FnScope ["_law_script", "_law_index", "_law_cell"] ["_law_script", "_law_index"] (defScope sPot) := ⟨rfl, rfl, rfl, by decide +kernel, rfl, by decide +kernel, by decide +kernel⟩
theorem ok_pot {f : Addr} {fd : FuncData} (F : Fun K "_law_pot" "_law_pot" sPot f fd) (T : Blt mg) : FnOk P w K mg base CX0 1 f fd ["_law_script", "_law_index"] (spPot K) := by
  refine F.ok scPot (fun vs H Q E h => ?_) (fun cdv A outer s H vs Q E hr h => ?_)
  · obtain ⟨a, ns, k, rfl, _⟩ := h
    rfl
  · obtain ⟨a, ns, k, rfl, hS, hn, hk, q⟩ := h
    refine ⟨_, pss_cons (ps_set (i := 2) scPot.nd rfl (.inl rfl) (pe_ifExp (pt_cmpR op_lt (pv 1) (pe_callB call_len_seq (by rfl) T.len PySem.boot_len (pa_cons (pv 0) pa_nil)) (nomark _))
        (pe_callB call_abs (by rfl) T.abs (by decide +kernel) (pa_cons (pe_ix ix_list (pv 0) (pv 1) (fun _ _ => rfl)) pa_nil))
        (pe_op op_add (pe_op op_mul pe_int (pv 1)) pe_int)))
      (pss_one (ps_ret (pe_lst (pa_cons (pe_callB (call_max2 rfl) (by rfl) T.max (by decide +kernel) (pa_cons pe_int (pa_cons (pe_op op_sub (pv 2) (pe_op op_pow pe_int pe_int)) pa_nil)))
        (pa_cons (pe_op op_mod (pe_callTy call_int1 (by rfl) T.int (by decide +kernel) (pa_cons (pe_op op_add (pe_op op_add (pe_op op_mul (pe_op op_mod (pe_callTy call_int1 (by rfl) T.int (by decide +kernel) (pa_cons (pv 2) pa_nil)) pe_int) pe_int) (pe_op op_mul pe_int (pv 1))) pe_int) pa_nil)) pe_int) pa_nil))))), ?_⟩
    refine ⟨_, rfl, _, rfl, a, _, rfl, .inl hS, _, _, rfl, rfl, _, rfl, ?_⟩
    refine ite2 (fun h1 => ?_) (fun h1 => ?_)
    · have h2 : k < ns.length := by
        have h3 := of_decide_eq_true h1
        rw [List.length_map] at h3
        omega
      refine ⟨_, rfl, _, rfl, a, _, _, _, rfl, rfl, hS, atI_nat (int_of_map h2), _, rfl, ?_⟩
      have hc : (0 : Int) ≤ (if ns.getD k 0 < 0 then -(ns.getD k 0) else ns.getD k 0) := by split <;> omega
      revert hc
      generalize (if ns.getD k 0 < 0 then -(ns.getD k 0) else ns.getD k 0) = c
      intro hc
      refine ⟨_, rfl, _, _, rfl, rfl, ⟨by decide, by decide, by decide⟩, _, _, rfl, rfl, _, _, rfl, _, rfl, .inl ⟨_, rfl, _, _, rfl, rfl, by show (0 : Int) < 2147483563; decide, _, _, rfl, rfl, .inr ⟨by decide, by decide⟩, _, rfl, _, _, rfl, rfl, .inl ⟨by decide, by decide⟩, _, _, rfl, rfl, _, _, rfl, rfl,
        .inl ⟨_, rfl, _, _, rfl, rfl, by show (0 : Int) < 2147483629; decide, by show 2 ≤ sizeLine; decide, fun p hp => ?_⟩⟩⟩
      refine q p _ (same_upd hp) hp ⟨_, _, upd_same, ?_, Int.emod_nonneg _ (by decide), Int.lt_of_lt_of_le (Int.emod_lt_of_pos _ (show (0 : Int) < 2147483629 by decide)) (by decide)⟩

      split <;> omega
    · refine ⟨_, rfl, _, _, rfl, rfl, .inl ⟨by decide, by decide⟩, _, _, rfl, rfl, ?_⟩
      refine ⟨_, rfl, _, _, rfl, rfl, ⟨by decide, by decide, by decide⟩, _, _, rfl, rfl, _, _, rfl, _, rfl, .inl ⟨_, rfl, _, _, rfl, rfl, by show (0 : Int) < 2147483563; decide, _, _, rfl, rfl, .inr ⟨by decide, by decide⟩, _, rfl, _, _, rfl, rfl, .inl ⟨by decide, by decide⟩, _, _, rfl, rfl, _, _, rfl, rfl,
        .inl ⟨_, rfl, _, _, rfl, rfl, by show (0 : Int) < 2147483629; decide, by show 2 ≤ sizeLine; decide, fun p hp => ?_⟩⟩⟩
      refine q p _ (same_upd hp) hp ⟨_, _, upd_same, ?_, Int.emod_nonneg _ (by decide), Int.lt_of_lt_of_le (Int.emod_lt_of_pos _ (show (0 : Int) < 2147483629 by decide)) (by decide)⟩

      split <;> omega
theorem scDraw : FnScope ["_law_pot_here", "_law_many", "_law_digit"] ["_law_pot_here", "_law_many"] (defScope sDraw) := ⟨rfl, rfl, rfl, by decide +kernel, rfl, by decide +kernel, by decide +kernel⟩
theorem ok_draw {f : Addr} {fd : FuncData} (F : Fun K "_law_draw" "_law_draw" sDraw f fd) (T : Blt mg) : FnOk P w K mg base CX0 1 f fd ["_law_pot_here", "_law_many"] spDraw := by
  refine F.ok scDraw (fun vs H Q E h => ?_) (fun cdv A outer s H vs Q E hr h => ?_)
  · obtain ⟨a, m, rfl, _⟩ := h
    rfl
  · obtain ⟨a, m, rfl, ⟨p, q, ha, hp, hq, hq2⟩, hm, hm2, z⟩ := h
    refine ⟨_, pss_cons (ps_if (pt_cmpR op_gt (pe_ix ix_list (pv 0) pe_int (fun _ _ => rfl)) pe_int (nomark _))
        (pss_cons (ps_asg (pe_callB call_divmod (by rfl) T.divmod (by decide +kernel) (pa_cons (pe_ix ix_list (pv 0) pe_int (fun _ _ => rfl)) (pa_cons (pv 1) pa_nil)))
            (pg_tup rfl (pgs_cons (pg_sub (pv 0) pe_int set_list) (pgs_cons (pg_name (i := 2) scDraw.nd rfl (.inl rfl)) pgs_nil))))
          (pss_one (ps_ret (pv 2))))
        pss_nil)
      (pss_cons (ps_asg (pe_op op_mod (pe_callTy call_int1 (by rfl) T.int (by decide +kernel) (pa_cons (pe_op op_add (pe_op op_mul (pe_ix ix_list (pv 0) pe_int (fun _ _ => rfl)) pe_int) pe_int) pa_nil)) pe_int) (pg_sub (pv 0) pe_int set_list))
      (pss_one (ps_ret (pe_op op_mod (pe_callTy call_int1 (by rfl) T.int (by decide +kernel) (pa_cons (pe_op op_fdiv (pe_op op_mod (pe_callTy call_int1 (by rfl) T.int (by decide +kernel) (pa_cons (pe_op op_mul (pe_ix ix_list (pv 0) pe_int (fun _ _ => rfl)) (pe_ix ix_list (pv 0) pe_int (fun _ _ => rfl))) pa_nil)) pe_int) pe_int) pa_nil)) (pv 1))))), ?_⟩
    refine ⟨_, rfl, a, _, _, _, rfl, rfl, .inl (.inl ha), atI_nat (j := 0) rfl, _, _, rfl, rfl, _, rfl, ?_⟩
    refine ite2 (fun h1 => ?_) (fun h1 => ?_)
    · refine ⟨_, rfl, a, _, _, _, rfl, rfl, .inl (.inl ha), atI_nat (j := 0) rfl, _, rfl, _, _, rfl, ⟨hm, by omega⟩, fun t ht => ?_⟩
      refine ⟨t, _, rfl, .inl (.inl upd_same), rfl, ?_⟩
      have hat : a ≠ t := ne_of_none ha ht
      refine ⟨_, _, rfl, _, rfl, a, _, _, 0, rfl, rfl, (by rw [upd_ne hat]; exact ha), rfl, ?_⟩
      refine ⟨_, _, rfl, rfl, _, rfl, ?_⟩
      have hp1 : (0 : Int) < p := of_decide_eq_true h1
      refine z (p % m) _ (Int.emod_nonneg _ (by omega)) (Int.emod_lt_of_pos _ hm) ⟨p / m, q, upd_same, Int.ediv_nonneg hp (by omega), hq, hq2⟩ fun b o hb hn => ?_
      rw [upd_ne hn, upd_ne (ne_of_none hb ht)]
      exact hb
    · have m1 : (0 : Int) < 2147483629 := by decide
      have m2 : (0 : Int) < 2147483587 := by decide
      refine ⟨_, rfl, a, _, _, _, rfl, rfl, .inl (.inl ha), atI_nat (j := 1) rfl, _, _, rfl, rfl, .inr ⟨by decide, by decide⟩, _, _, rfl, rfl, .inl ⟨_, rfl, _, _, rfl, rfl, m1, _, rfl, a, _, _, 1, rfl, rfl, ha, rfl, ?_⟩⟩
      have q0 : 0 ≤ (q * 48271 + 11) % 2147483629 := Int.emod_nonneg _ (by decide)
      have q1 : (q * 48271 + 11) % 2147483629 < 2147483629 := Int.emod_lt_of_pos _ (by decide)
      refine ⟨_, rfl, a, _, _, _, rfl, rfl, .inl (.inl upd_same), atI_nat (j := 1) rfl, _, rfl, a, _, _, _, rfl, rfl, .inl (.inl upd_same), atI_nat (j := 1) rfl, _, _, rfl, rfl, .inl ⟨by omega, by omega⟩, .inl ⟨_, rfl, _, _, rfl, rfl, m2, _, _, rfl, rfl, ⟨by decide, by decide⟩, .inl ⟨_, rfl, _, rfl, _, _, rfl, rfl, hm, ?_⟩⟩⟩
      refine z _ _ (Int.emod_nonneg _ (by omega)) (Int.emod_lt_of_pos _ hm) ⟨p, (q * 48271 + 11) % 2147483629, upd_same, hp, q0, by omega⟩ fun b o hb hn => ?_
      rw [upd_ne hn]
      exact hb
theorem scPick : FnScope ["_law_pot_here", "_law_some"] ["_law_pot_here", "_law_some"] (defScope sPick) := ⟨rfl, rfl, rfl, by decide +kernel, rfl, by decide +kernel, by decide +kernel⟩
theorem ok_pick {f fD : Addr} {fd fdD : FuncData} (F : Fun K "_law_pick" "_law_pick" sPick f fd) (T : Blt mg) (FD : Fun K "_law_draw" "_law_draw" sDraw fD fdD) (bD : Binds K fdD ["_law_pot_here", "_law_many"] []) (mD : mg "_law_draw" = some (.ref fD)) : FnOk P w K mg base CX0 2 f fd ["_law_pot_here", "_law_some"] spPick := by
  have GD : FnOk P w K mg base CX0 1 fD fdD ["_law_pot_here", "_law_many"] spDraw := ok_draw FD T
  refine F.ok scPick (fun vs H Q E h => ?_) (fun cdv A outer s H vs Q E hr h => ?_)
  · obtain ⟨a, b, xs, rfl, _⟩ := h
    rfl
  · obtain ⟨a, b, xs, rfl, hpot, hb, hab, h0, h1, z⟩ := h
    refine ⟨_, pss_one (ps_ret (pe_ix ix_list (pv 1) (pe_call GD hr rfl mD FD.kp bD .nil pass0 (pa_cons (pv 0) (pa_cons (pe_callB call_len_seq (by rfl) T.len PySem.boot_len (pa_cons (pv 1) pa_nil)) pa_nil))) (fun _ _ => rfl))), ?_⟩
    refine ⟨_, rfl, _, rfl, _, rfl, b, xs, rfl, .inl (.inl (.inl hb)), a, _, rfl, hpot, by omega, by omega, fun r H' r0 r1 hp' but => ?_⟩
    have hlt : r.toNat < xs.length := by omega
    have er : ((r.toNat : Nat) : Int) = r := by omega
    have ea : atI xs ((r.toNat : Nat) : Int) = some xs[r.toNat] := atI_nat (List.getElem?_eq_getElem hlt)
    rw [er] at ea
    exact ⟨b, xs, r, xs[r.toNat], rfl, rfl, .inl (.inl (but b _ hb (Ne.symm hab))), ea, z _ H' (List.getElem_mem hlt) hp' but⟩
structure Draws (P : Program) (w : World) (K : PySem.W.Frag) (mg : Str → Option Value) (base : Heap) (fD fP : Addr) (fdD fdP : FuncData) : Prop where
  FD : Fun K "_law_draw" "_law_draw" sDraw fD fdD
  GD : FnOk P w K mg base CX0 1 fD fdD ["_law_pot_here", "_law_many"] spDraw
  bD : Binds K fdD ["_law_pot_here", "_law_many"] []
  mD : mg "_law_draw" = some (.ref fD)
  FP : Fun K "_law_pick" "_law_pick" sPick fP fdP
  GP : FnOk P w K mg base CX0 2 fP fdP ["_law_pot_here", "_law_some"] spPick
  bP : Binds K fdP ["_law_pot_here", "_law_some"] []
  mP : mg "_law_pick" = some (.ref fP)
end
end K64
namespace XR
open PySem L2
def placesTo (ds : List PyData) (n : Nat) : List Nat := (List.range n).filter fun i => tupB (ds.getD i .none)
def places (ds : List PyData) : List Nat := placesTo ds ds.length
def plV (l : List Nat) : List V := l.map fun i : Nat => V.int (i : Int)
theorem placesTo_succ {ds : List PyData} {n : Nat} {d : PyData} (h : ds[n]? = some d) : placesTo ds (n + 1) = if tupB d = true then placesTo ds n ++ [n] else placesTo ds n := by
  unfold placesTo
  rw [List.range_succ, List.filter_append]
  have e : ds.getD n .none = d := by rw [List.getD_eq_getElem?_getD, h]; rfl
  cases q : tupB d with
  | true => simp [List.filter_cons, e, h, q]
  | false => simp [List.filter_cons, e, h, q]
theorem placesTo_len (ds : List PyData) (n : Nat) : (placesTo ds n).length ≤ n := by
  have := List.length_filter_le (fun i => tupB (ds.getD i .none)) (List.range n)
  rw [List.length_range] at this
  exact this
def swapD : PyData → PyData
  | .tuple [c, a, b, o, t] => .tuple [c, a, b, t, o]
  | d => d
theorem row_of {K : PySem.W.Frag} {H : Hp} {x : V} {d : PyData} (h : Dq K H x d) (e : rowB d = true) : ∃ a xs ds, x = .ref a ∧ d = .tuple ds ∧ SqT K H a xs ∧ DqAll K H xs ds ∧ ds.length ≤ 180 ∧ ds.all tokB = true := by
  cases h with
  | @tup a xs ds h1 h2 =>
    rw [rowB_tup, Bool.and_eq_true] at e
    exact ⟨a, xs, ds, rfl, rfl, h1, h2, of_decide_eq_true e.1, e.2⟩
  | _ => cases e
def spChkRow (K : PySem.W.Frag) (C : Addr) : Sp := fun vs H Q E => ∃ (x : V) (d : PyData), vs = [x] ∧ Dq K H x d ∧ (rowB d = true → ∀ H', Same H H' → Q .non H') ∧
  (rowB d = false → ∀ (H' : Hp) (dd : Addr), Same H H' → H dd = none → H' dd = some (.xd [("value", x)]) → E (.ref C) (some dd) H')
def spClashes (K : PySem.W.Frag) (C : Addr) : Sp := fun vs H Q E => ∃ (x : V) (d : PyData), vs = [x] ∧ Dq K H x d ∧
  (∀ ds, d = .tuple ds → rowB d = true → ∀ l H', Same H H' → H l = none → H' l = some (.lst (plV (places ds))) → Q (.ref l) H') ∧
  (rowB d = false → ∀ (H' : Hp) (dd : Addr), Same H H' → H dd = none → H' dd = some (.xd [("value", x)]) → E (.ref C) (some dd) H')
def spTextOf (K : PySem.W.Frag) (C CC : Addr) : Sp := fun vs H Q E => ∃ (x : V) (d : PyData), vs = [x] ∧ Dq K H x d ∧
  (∀ a xs ds, x = .ref a → d = .tuple ds → SqT K H a xs → DqAll K H xs ds → rowB d = true → (places ds = [] → ∀ l H', Same H H' → H l = none → H' l = some (.lst xs) → Q (.ref l) H') ∧
    (places ds ≠ [] → ∀ (H' : Hp) (dd t : Addr), Same H H' → H dd = none → H' dd = some (.xd [("positions", .ref t)]) → H' t = some (.tup (plV (places ds))) → E (.ref CC) (some dd) H')) ∧
  (rowB d = false → ∀ (H' : Hp) (dd : Addr), Same H H' → H dd = none → H' dd = some (.xd [("value", x)]) → E (.ref C) (some dd) H')
def spSwapped (K : PySem.W.Frag) (C : Addr) : Sp := fun vs H Q E => ∃ (x : V) (d : PyData), vs = [x] ∧ Dq K H x d ∧
  (∀ ds, d = .tuple ds → rowB d = true → ∀ t H', Same H H' → H t = none → Dq K H' (.ref t) (.tuple (ds.map swapD)) → Q (.ref t) H') ∧
  (rowB d = false → ∀ (H' : Hp) (dd : Addr), Same H H' → H dd = none → H' dd = some (.xd [("value", x)]) → E (.ref C) (some dd) H')
theorem same_to_del {H H' : Hp} {D : Addr} (s : Same H H') (n : H D = none) : Same H (L2.del H' D) := fun b o h => by
  rw [del_ne (ne_of_none h n)]
  exact s _ _ h
theorem del_upd {H : Hp} {D : Addr} {o : HO} : L2.del (upd H D o) D = L2.del H D := by
  funext b
  by_cases e : b = D
  · rw [e, del_same, del_same]
  · rw [del_ne e, del_ne e, upd_ne e]
theorem DqAll.snoc {K : PySem.W.Frag} {H : Hp} {y : V} {e : PyData} : ∀ {xs : List V} {ds : List PyData}, DqAll K H xs ds → Dq K H y e → DqAll K H (xs ++ [y]) (ds ++ [e])
  | _, _, .nil, h => .cons h .nil
  | _, _, .cons a b, h => .cons a (b.snoc h)
theorem tok_line {d : PyData} (e : tupB d = false) : swapD d = d := by
  cases d with
  | tuple ds => cases e
  | _ => rfl
theorem tok_clash {K : PySem.W.Frag} {H : Hp} {x : V} {d : PyData} (h : Dq K H x d) (e : tupB d = true) (t : tokB d = true) : ∃ q d0 d1 d2 d3 d4 x0 x1 x2 x3 x4, x = .ref q ∧ d = .tuple [d0, d1, d2, d3, d4] ∧ SqT K H q [x0, x1, x2, x3, x4] ∧ Dq K H x0 d0 ∧ Dq K H x1 d1 ∧ Dq K H x2 d2 ∧ Dq K H x3 d3 ∧ Dq K H x4 d4 := by
  cases h with
  | @tup a xs ds h1 h2 =>
    have hl : ds.length = 5 := by
      by_cases h : ds.length = 5
      · exact h
      · have t' : clashB (.tuple ds) = true := t
        rw [not5 h] at t'
        cases t'
    obtain ⟨d0, d1, d2, d3, d4, x0, x1, x2, x3, x4, rfl, rfl, a0, a1, a2, a3, a4⟩ := five_of h2 hl
    exact ⟨a, d0, d1, d2, d3, d4, x0, x1, x2, x3, x4, rfl, rfl, h1, a0, a1, a2, a3, a4⟩
  | _ => cases e
theorem none_back {H H1 : Hp} {d : Addr} (s : Same H H1) (n : H1 d = none) : H d = none := by
  cases q : H d with
  | none => rfl
  | some o => rw [s _ _ q] at n; cases n
end XR
namespace K64
open PySem L2 XR
abbrev sChkRow : Stmt := top 17
abbrev sClashes : Stmt := top 18
abbrev sTextOf : Stmt := top 19
abbrev sSwapped : Stmt := top 20
section
variable {P : Program} {w : World} {K : PySem.W.Frag} {mg : Str → Option Value} {base : Heap}
theorem scChkRow : FnScope ["row"] ["row"] (defScope sChkRow) := ⟨rfl, rfl, rfl, by decide +kernel, rfl, by decide +kernel, by decide +kernel⟩
theorem ok_chkRow {f fI C : Addr} {fd fdI : FuncData} (F : Fun K "check_row" "check_row" sChkRow f fd) (hsup : mg "super" = none) (XD : XOk P K mg "InvalidRow" C 1 (fvOne "value"))
    (FI : Fun K "is_row" "is_row" sIsRow fI fdI) (GI : FnOk P w K mg base CX0 4 fI fdI ["value"] (spJudge K rowB)) (bI : Binds K fdI ["value"] []) (mI : mg "is_row" = some (.ref fI)) : FnOk P w K mg base (L2.CX P w) 5 f fd ["row"] (spChkRow K C) := by
  refine F.okX scChkRow (fun vs H Q E h => ?_) (fun cdv A outer s H vs Q E hr h => ?_)
  · obtain ⟨x, d, rfl, _⟩ := h
    rfl
  · obtain ⟨x, d, rfl, hd, z, zx⟩ := h
    refine ⟨_, pss_one (ps_if (pt_not (pt_val (pe_call GI hr rfl mI FI.kp bI .nil pass0 (pa_cons (pv 0) pa_nil))))
      (pss_one (ps_raiseX rfl (takes_of rfl rfl rfl rfl) XD.mx XD.ne XD.kp (hr.mono (by decide)) hsup XD.bP XD.tP rfl XD.g (pa_cons (pv 0) pa_nil))) pss_nil), ?_⟩
    refine ⟨_, rfl, x, d, rfl, hd, fun H1 s1 => ⟨_, rfl, ?_⟩⟩
    cases e3 : rowB d with
    | true => exact iteF (z e3 H1 s1)
    | false =>
      refine iteT ⟨_, rfl, rfl, fun dd ndd => ?_⟩
      exact zx e3 _ dd (s1.trans (same_upd ndd)) (none_back s1 ndd) upd_same
theorem scClashes : FnScope ["row", "at", "token"] ["row"] (defScope sClashes) := ⟨rfl, rfl, rfl, by decide +kernel, rfl, by decide +kernel, by decide +kernel⟩
theorem ok_clashes {f fC fT C : Addr} {fd fdC fdT : FuncData} (F : Fun K "clashes" "clashes" sClashes f fd) (T : Blt mg)
    (FC : Fun K "check_row" "check_row" sChkRow fC fdC) (GC : FnOk P w K mg base (L2.CX P w) 5 fC fdC ["row"] (spChkRow K C)) (bC : Binds K fdC ["row"] []) (mC : mg "check_row" = some (.ref fC))
    (FT : Fun K "is_clash" "is_clash" sIsClash fT fdT) (bT : Binds K fdT ["token"] []) (mT : mg "is_clash" = some (.ref fT)) : FnOk P w K mg base (L2.CX P w) 6 f fd ["row"] (spClashes K C) := by
  have GT := ok_isClash (P := P) (w := w) (base := base) FT T
  refine F.okX scClashes (fun vs H Q E h => ?_) (fun cdv A outer s H vs Q E hr h => ?_)
  · obtain ⟨x, d, rfl, _⟩ := h
    rfl
  · obtain ⟨x, d, rfl, hd, z, zx⟩ := h
    have hr1 := hr.mono (show 1 ≤ 5 by decide)
    refine ⟨_, pss_cons (ps_expr (pe_callS GC hr rfl mC FC.kp bC (fun σ => passAt (takes_of rfl rfl rfl rfl) σ) (pa_cons (pv 0) pa_nil)))
      (pss_one (ps_ret (pe_lc (own := [("at", 1), ("token", 2)]) (g := gTup K 2 (gCons (gName 1) (gCons (gName 2) gNil))) (tt := tB (tCall (spJudge K tupB) [] E0 (tCons (tVar 2) tNil))) (te := tVar 1) rfl scClashes.nd (pi_enumT (by rfl) T.enum (pa_cons (pv 0) pa_nil))
        (blkOk_by (own := [("at", 1), ("token", 2)]) (N := ["row", "at", "token"]) (sc := defScope sClashes) (by decide +kernel))
        (fun _ _ _ _ _ => pg_tup rfl (pgs_cons (pg_name (i := 1) scClashes.nd rfl (.inl rfl)) (pgs_cons (pg_name (i := 2) scClashes.nd rfl (.inl rfl)) pgs_nil))) (fun _ _ _ _ _ => pts_one (pt_val (pe_call GT hr1 rfl mT FT.kp bT .nil pass0 (pa_cons (pv 2) pa_nil))))
        (fun _ _ _ _ _ => pv 1)))), ?_⟩
    refine ⟨_, rfl, ?_⟩
    dsimp only [tNil]
    refine ⟨x, d, rfl, hd, fun er H1 s1 => ?_, zx⟩
    obtain ⟨a, xs, ds, rfl, rfl, h1, h2, hl, hall⟩ := row_of hd er
    have hlen := h2.length
    have h1' := XR.Same.tup s1 h1
    refine ⟨_, rfl, a, xs, rfl, h1', fun D nD => ?_⟩
    have sD := same_upd (o := .lst []) nD
    refine lc_it walk_enumT (fun i H' => Same H1 H' ∧ H' D = some (.lst (plV (placesTo ds i)))) ⟨sD, upd_same⟩ (fun i H' _ hh => XR.Same.tup hh.1 h1') ?_ ?_
    · rintro i x Ha Hb hi ⟨sm, hD⟩ ⟨T0, y1, y2, rfl, nT, rfl, e1, e2⟩
      obtain rfl := Option.some.inj e1
      obtain ⟨d, hd1, hd2⟩ := h2.get e2
      have sT := same_upd (o := .tup [V.int (i : Nat), y2]) nT
      refine ⟨T0, _, rfl, .inl (.inl upd_same), rfl, _, _, rfl, _, _, rfl, rfl, rfl, ?_⟩
      refine ⟨_, rfl, y2, d, rfl, ((hd2.same s1).same sm).same sT, fun H2 s2 => ⟨_, rfl, ?_⟩⟩
      have sm2 := (sm.trans sT).trans s2
      have hD2 := s2 _ _ (sT _ _ hD)
      cases e : tupB d with
      | true =>
        refine iteT ⟨_, rfl, _, hD2, ?_, fun b o h => ?_, ?_⟩
        · unfold plV
          rw [List.length_map]
          have := placesTo_len ds i
          exact Nat.lt_of_le_of_lt (show _ ≤ 180 by omega) (by decide)
        · rw [upd_ne (ne_of_none h nD)]
          exact sm2 _ _ h
        · rw [upd_same, placesTo_succ hd1, if_pos e]
          unfold plV
          rw [List.map_append]
          rfl
      | false =>
        refine iteF ⟨sm2, ?_⟩
        rw [placesTo_succ hd1, e, if_neg (by decide)]
        exact hD2
    · rintro H' ⟨sm, hD⟩
      rw [hlen] at hD
      exact z ds rfl er D H' (s1.trans sm) (none_back s1 nD) hD
theorem scTextOf : FnScope ["row", "positions"] ["row"] (defScope sTextOf) := ⟨rfl, rfl, rfl, by decide +kernel, rfl, by decide +kernel, by decide +kernel⟩
theorem ok_textOf {f fC C CC : Addr} {fd fdC : FuncData} (F : Fun K "text_of" "text_of" sTextOf f fd) (T : Blt mg) (hsup : mg "super" = none) (XD : XOk P K mg "Clashes" CC 1 (fvOne "positions"))
    (FC : Fun K "clashes" "clashes" sClashes fC fdC) (GC : FnOk P w K mg base (L2.CX P w) 6 fC fdC ["row"] (spClashes K C)) (bC : Binds K fdC ["row"] []) (mC : mg "clashes" = some (.ref fC)) : FnOk P w K mg base (L2.CX P w) 7 f fd ["row"] (spTextOf K C CC) := by
  refine F.okX scTextOf (fun vs H Q E h => ?_) (fun cdv A outer s H vs Q E hr h => ?_)
  · obtain ⟨x, d, rfl, _⟩ := h
    rfl
  · obtain ⟨x, d, rfl, hd, z, zx⟩ := h
    refine ⟨_, pss_cons (ps_set (i := 1) scTextOf.nd rfl (.inl rfl) (pe_callS GC hr rfl mC FC.kp bC (fun σ => passAt (takes_of rfl rfl rfl rfl) σ) (pa_cons (pv 0) pa_nil)))
      (pss_cons (ps_if (pt_truth (pv 1) (by intro _; rfl)) (pss_one (ps_raiseX rfl (takes_of rfl rfl rfl rfl) XD.mx XD.ne XD.kp (hr.mono (by decide)) hsup XD.bP XD.tP rfl XD.g (pa_cons (pe_callTy call_tuple_of (by rfl) T.tuple (by decide +kernel) (pa_cons (pv 1) pa_nil)) pa_nil))) pss_nil)
      (pss_one (ps_ret (pe_callTy call_list_of (by rfl) T.list (by decide +kernel) (pa_cons (pv 0) pa_nil))))), ?_⟩
    refine ⟨_, rfl, x, d, rfl, hd, fun ds ed er l H1 s1 nl hl => ?_, zx⟩
    obtain ⟨a, xs, ds', rfl, rfl, h1, h2, _, _⟩ := row_of hd er
    cases ed
    obtain ⟨z1, z2⟩ := z a xs ds rfl rfl h1 h2 er
    refine ⟨_, rfl, _, .inl ⟨_, SqL.of hl, rfl⟩, ?_⟩
    cases ep : places ds with
    | nil =>
      rw [ep] at hl
      refine iteF ⟨_, rfl, a, xs, rfl, .inr (XR.Same.tup s1 h1), fun l2 n2 => ?_⟩
      exact z1 ep l2 _ (s1.trans (same_upd n2)) (none_back s1 n2) upd_same
    | cons p ps =>
      rw [ep] at hl
      refine iteT ⟨_, rfl, l, _, rfl, .inl ⟨SqL.of hl, fun t nt => ⟨rfl, fun dd ndd => ?_⟩⟩⟩
      have st := same_upd (o := .tup (plV (p :: ps))) nt
      have e1 : H dd = none := none_back (s1.trans st) ndd
      refine z2 (by rw [ep]; exact List.cons_ne_nil _ _) _ dd t ((s1.trans st).trans (same_upd ndd)) e1 upd_same ?_
      rw [ep, upd_ne (ne_of_none upd_same ndd)]
      exact upd_same
theorem scSwapped : FnScope ["row", "token"] ["row"] (defScope sSwapped) := ⟨rfl, rfl, rfl, by decide +kernel, rfl, by decide +kernel, by decide +kernel⟩
theorem ok_swapped {f fC fT C : Addr} {fd fdC fdT : FuncData} (F : Fun K "swapped" "swapped" sSwapped f fd) (T : Blt mg)
    (FC : Fun K "check_row" "check_row" sChkRow fC fdC) (GC : FnOk P w K mg base (L2.CX P w) 5 fC fdC ["row"] (spChkRow K C)) (bC : Binds K fdC ["row"] []) (mC : mg "check_row" = some (.ref fC))
    (FT : Fun K "is_clash" "is_clash" sIsClash fT fdT) (bT : Binds K fdT ["token"] []) (mT : mg "is_clash" = some (.ref fT)) : FnOk P w K mg base (L2.CX P w) 6 f fd ["row"] (spSwapped K C) := by
  have GT := ok_isClash (P := P) (w := w) (base := base) FT T
  refine F.okX scSwapped (fun vs H Q E h => ?_) (fun cdv A outer s H vs Q E hr h => ?_)
  · obtain ⟨x, d, rfl, _⟩ := h
    rfl
  · obtain ⟨x, d, rfl, hd, z, zx⟩ := h
    have hr1 := hr.mono (show 1 ≤ 5 by decide)
    refine ⟨_, pss_cons (ps_expr (pe_callS GC hr rfl mC FC.kp bC (fun σ => passAt (takes_of rfl rfl rfl rfl) σ) (pa_cons (pv 0) pa_nil)))
      (pss_one (ps_ret (pe_callTy call_tuple_of (by rfl) T.tuple (by decide +kernel) (pa_cons (pe_lc (own := [("token", 1)]) (g := gName 1) (tt := tYes)
          (te := tIf (tB (tCall (spJudge K tupB) [] E0 (tCons (tVar 1) tNil))) (tTup (StX.tStar K (tSl (rSlA K) (tVar 1) tNoPart (tPart (tC (.int 3)))) (tCons (tOp (rIxT K) (tVar 1) (tC (.int 4))) (tCons (tOp (rIxT K) (tVar 1) (tC (.int 3))) tNil)))) (tVar 1)) rfl scSwapped.nd (pi_tup (pv 0))
        (blkOk_by (own := [("token", 1)]) (N := ["row", "token"]) (sc := defScope sSwapped) (by decide +kernel))
        (fun _ _ _ _ _ => pg_name (i := 1) scSwapped.nd rfl (.inl rfl)) (fun _ _ _ _ _ => pts_nil)
        (fun _ _ _ _ _ => pe_ifExp (pt_val (pe_call GT hr1 rfl mT FT.kp bT .nil pass0 (pa_cons (pv 1) pa_nil)))
          (pe_tup (StX.pa_star (pe_slice sl_tupA (pv 1) po_none (po_some pe_int)) (pa_cons (pe_ix ix_tup (pv 1) pe_int (fun _ _ => rfl)) (pa_cons (pe_ix ix_tup (pv 1) pe_int (fun _ _ => rfl)) pa_nil)))) (pv 1))) pa_nil)))), ?_⟩
    refine ⟨_, rfl, ?_⟩
    dsimp only [tNil]
    refine ⟨x, d, rfl, hd, fun er H1 s1 => ?_, zx⟩
    obtain ⟨a, xs, ds, rfl, rfl, h1, h2, hl, hall⟩ := row_of hd er
    have hlen := h2.length
    have h1' := XR.Same.tup s1 h1
    refine ⟨_, rfl, a, rfl, ⟨_, h1'⟩, fun D nD => ?_⟩
    have sD := same_upd (o := .lst []) nD
    refine lc_tup (K := K) (a := a) (xs := xs) (fun i H' => Same H1 H' ∧ ∃ ys, H' D = some (.lst ys) ∧ DqAll K (L2.del H' D) ys ((ds.take i).map swapD)) ⟨sD, [], upd_same, .nil⟩ (fun i H' _ hh => XR.Same.tup hh.1 h1') ?_ ?_
    · rintro i x H' hx ⟨sm, ys, hD, hy⟩
      obtain ⟨d, hd1, hd2⟩ := h2.get hx
      have hd3 := (hd2.same s1).same sm
      refine ⟨rfl, ?_⟩
      unfold tYes
      dsimp only
      rw [if_pos rfl]
      refine ⟨_, rfl, x, d, rfl, hd3, fun H2 s2 => ⟨_, rfl, ?_⟩⟩
      have hdm : d ∈ ds := List.mem_of_getElem? hd1
      have htok : tokB d = true := List.all_eq_true.mp hall d hdm
      have sm2 := sm.trans s2
      have hz : ((ds.take (i + 1)).map swapD) = (ds.take i).map swapD ++ [swapD d] := by rw [List.take_add_one, hd1, List.map_append]; rfl
      have hi : i < xs.length := (List.getElem?_eq_some_iff.mp hx).1
      have hylen := hy.length
      have small : ys.length < sizeLine := by
        rw [hylen, List.length_map, List.length_take]
        exact Nat.lt_of_le_of_lt (show min i ds.length ≤ 180 by omega) (by decide)
      cases e : tupB d with
      | true =>
        obtain ⟨q, d0, d1, d2, d3, d4, x0, x1, x2, x3, x4, rfl, rfl, hq, a0, a1, a2, a3, a4⟩ := tok_clash (hd2.same s1) e htok
        have hq2 := XR.Same.tup sm2 hq
        refine iteT ⟨_, rfl, 3, rfl, q, _, rfl, hq2, fun hw => absurd hw.2 (by show ¬ (HT.sIx 5 5 (some 3) = 5); decide), fun hn p np => ?_⟩
        have sp := same_upd (o := .tup (cutV [x0, x1, x2, x3, x4] none (some 3))) np
        have hq3 := XR.Same.tup sp hq2
        refine ⟨p, [x0, x1, x2], rfl, .inl (SqT.of upd_same), _, rfl, q, _, _, _, rfl, rfl, hq3, atI_nat (xs := [x0, x1, x2, x3, x4]) (j := 4) rfl, _, rfl, q, _, _, _, rfl, rfl, hq3, atI_nat (xs := [x0, x1, x2, x3, x4]) (j := 3) rfl, ll20 (by show 5 ≤ 20; decide), fun t nt => ?_⟩
        have st := same_upd (o := .tup ([x0, x1, x2] ++ [x4, x3])) nt
        have s4 := s2.trans (sp.trans st)
        refine ⟨_, s4 _ _ hD, small, fun b o h => ?_, ys ++ [.ref t], upd_same, ?_⟩
        · rw [upd_ne (ne_of_none h nD)]
          exact s4 _ _ (sm _ _ h)
        · rw [hz, del_upd]
          have hdl := (Same.but (a := D) s4).del
          have sq := same_to_del (sm.trans s4) nD
          refine DqAll.snoc (hy.same hdl) ?_
          have ntD : D ≠ t := ne_of_none (sp _ _ (s2 _ _ hD)) nt
          exact .tup (SqT.of (del_at upd_same ntD)) (.cons (a0.same sq) (.cons (a1.same sq) (.cons (a2.same sq) (.cons (a4.same sq) (.cons (a3.same sq) .nil)))))
      | false =>
        refine iteF ⟨_, rfl, _, s2 _ _ hD, small, fun b o h => ?_, ys ++ [x], upd_same, ?_⟩
        · rw [upd_ne (ne_of_none h nD)]
          exact s2 _ _ (sm _ _ h)
        · rw [hz, del_upd, tok_line e]
          have hdl := (Same.but (a := D) s2).del
          exact DqAll.snoc (hy.same hdl) ((hd2.same s1).same (same_to_del sm2 nD))
    · rintro H' ⟨sm, ys, hD, hy⟩
      rw [hlen, List.take_length] at hy
      refine ⟨D, ys, rfl, .inl ⟨SqL.of hD, fun t nt => ?_⟩⟩
      have st := same_upd (o := .tup ys) nt
      have sall := s1.trans (sm.trans st)
      exact z ds rfl er t _ sall (none_back (s1.trans sm) nt) (.tup (SqT.of upd_same) ((hy.same del_sub).same st))
end
end K64
/-! Bounds of repr: signs below 128, texts made of reprs. -/
namespace XR
open PySem L2
def Asc (s : Str) : Prop := ∀ c ∈ s.cps.toList, c < 128
instance (s : Str) : Decidable (Asc s) := by unfold Asc; infer_instance
theorem Asc.append {s t : Str} (h : Asc s) (k : Asc t) : Asc (s ++ t) := fun c hc => by
  have e : (s ++ t).cps.toList = s.cps.toList ++ t.cps.toList := by
    show (s.cps ++ t.cps).toList = _
    simp
  rw [e] at hc
  rcases List.mem_append.mp hc with hc | hc
  · exact h c hc
  · exact k c hc
theorem asc_from : ∀ (ts : List Str) (k : Nat) (acc : Str), (∀ t ∈ ts, Asc t) → Asc acc → Asc (textFrom k acc ts)
  | [], _, _, _, a => a
  | t :: r, k, acc, h, a => by
    refine asc_from r (k + 1) _ (fun x hx => h x (List.mem_cons_of_mem _ hx)) ((a.append ?_).append (h t (List.mem_cons_self ..)))
    by_cases hk : k > 0
    · rw [if_pos hk]; decide
    · rw [if_neg hk]; decide
theorem asc_join : ∀ (ts : List Str), (∀ t ∈ ts, Asc t) → Asc (Str.join ", " ts)
  | [], _ => by show Asc Str.empty; decide
  | [x], h => h x (List.mem_cons_self ..)
  | x :: y :: r, h => by
    have ih := asc_join (y :: r) fun t ht => h t (List.mem_cons_of_mem _ ht)
    show Asc (x ++ Str.ofString ", " ++ Str.join ", " (y :: r))
    exact ((h x (List.mem_cons_self ..)).append (by decide)).append ih
structure Shx (n k : Nat) (d : PyData) : Prop where
  sh : Shw n k d
  asc : Asc d.shown
theorem Shx.le {n k n' k' : Nat} {d : PyData} (h : Shx n k d) (a : n ≤ n') (b : k ≤ k') : Shx n' k' d := ⟨h.sh.le a b, h.asc⟩
theorem Shx.list {n k m : Nat} {ds : List PyData} (h : ∀ d ∈ ds, Shx n k d) (l : ds.length ≤ m) : Shx (2 + m * (n + 2)) (k + 1) (.list ds) := by
  refine ⟨Shw.list (fun d hd => (h d hd).sh) l, ?_⟩
  simp only [PyData.shown]
  show Asc (textFrom 0 "[" (PyData.shownAll ds) ++ "]")
  refine Asc.append (asc_from _ _ _ (fun t ht => ?_) (by decide)) (by decide)
  obtain ⟨d, hd, rfl⟩ := shownAll_in ht
  exact (h d hd).asc
theorem Shx.tuple {n k m : Nat} {ds : List PyData} (h : ∀ d ∈ ds, Shx n k d) (l : ds.length ≤ m) : Shx (3 + m * (n + 2)) (k + 1) (.tuple ds) := by
  refine ⟨Shw.tuple (fun d hd => (h d hd).sh) l, ?_⟩
  simp only [PyData.shown]
  unfold tupleText
  refine Asc.append (Asc.append (by decide) (asc_join _ (fun t ht => ?_))) ?_
  · obtain ⟨d, hd, rfl⟩ := shownAll_in ht
    exact (h d hd).asc
  · by_cases hk : ((PyData.shownAll ds).length == 1) = true
    · rw [if_pos hk]; decide
    · rw [if_neg hk]; decide
/-- repr of a repr -/
theorem shw_str {n k : Nat} {d : PyData} (h : Shx n k d) : Shw (10 * n + 2) 1 (.str d.shown) := by
  refine ⟨by simp [PyData.showable], ?_, by simp [PyData.depth]⟩
  simp only [PyData.shown]
  have e := PySem.StrLaws.reprText_len d.shown (fun c hc => Nat.lt_trans (h.asc c hc) (by decide))
  have := h.sh.len
  omega
theorem shw_two {n1 n2 k : Nat} {a b : PyData} (h1 : Shw n1 k a) (h2 : Shw n2 k b) : Shw (n1 + n2 + 4) (k + 1) (.list [a, b]) := by
  refine ⟨?_, ?_, ?_⟩
  · simp only [PyData.showable, PyData.showableAll, h1.ok, h2.ok, Bool.and_self]
  · simp only [PyData.shown, PyData.shownAll]
    show ((("[" : Str) ++ (if 0 > 0 then ", " else "" : String) ++ a.shown) ++ (if 1 > 0 then ", " else "" : String) ++ b.shown ++ "]").length ≤ _
    simp only [strLen_append]
    have := h1.len
    have := h2.len
    have e1 : (Str.ofString "[").length = 1 := by decide
    have e2 : (Str.ofString (if 0 > 0 then ", " else "")).length = 0 := by decide
    have e3 : (Str.ofString (if 1 > 0 then ", " else "")).length = 2 := by decide
    have e4 : (Str.ofString "]").length = 1 := by decide
    omega
  · simp only [PyData.depth, PyData.depthAll]
    have := h1.dep
    have := h2.dep
    omega
theorem shw_three {n1 n2 n3 k : Nat} {a b c : PyData} (h1 : Shw n1 k a) (h2 : Shw n2 k b) (h3 : Shw n3 k c) : Shw (n1 + n2 + n3 + 6) (k + 1) (.list [a, b, c]) := by
  refine ⟨?_, ?_, ?_⟩
  · simp only [PyData.showable, PyData.showableAll, h1.ok, h2.ok, h3.ok, Bool.and_self]
  · simp only [PyData.shown, PyData.shownAll]
    show ((("[" : Str) ++ (if 0 > 0 then ", " else "" : String) ++ a.shown) ++ (if 1 > 0 then ", " else "" : String) ++ b.shown ++ (if 2 > 0 then ", " else "" : String) ++ c.shown ++ "]").length ≤ _
    simp only [strLen_append]
    have := h1.len
    have := h2.len
    have := h3.len
    have e1 : (Str.ofString "[").length = 1 := by decide
    have e2 : (Str.ofString (if 0 > 0 then ", " else "")).length = 0 := by decide
    have e3 : (Str.ofString (if 1 > 0 then ", " else "")).length = 2 := by decide
    have e5 : (Str.ofString (if 2 > 0 then ", " else "")).length = 2 := by decide
    have e4 : (Str.ofString "]").length = 1 := by decide
    omega
  · simp only [PyData.depth, PyData.depthAll]
    have := h1.dep
    have := h2.dep
    have := h3.dep
    omega
end XR
namespace XR
open PySem L2
/-- the heap without Z -/
def cut (Z : List Addr) (H : Hp) : Hp := fun b => if b ∈ Z then none else H b
theorem cut_in {Z : List Addr} {H : Hp} {b : Addr} (h : b ∈ Z) : cut Z H b = none := if_pos h
theorem cut_out {Z : List Addr} {H : Hp} {b : Addr} (h : b ∉ Z) : cut Z H b = H b := if_neg h
theorem cut_some {Z : List Addr} {H : Hp} {b : Addr} {o : HO} (h : cut Z H b = some o) : b ∉ Z ∧ H b = some o := by
  by_cases e : b ∈ Z
  · rw [cut_in e] at h; cases h
  · rw [cut_out e] at h; exact ⟨e, h⟩
theorem cut_sub {Z : List Addr} {H : Hp} : Same (cut Z H) H := fun b o h => (cut_some h).2
theorem cut_but {Z : List Addr} {p : Addr} {H H' : Hp} (m : p ∈ Z) (b : But p H H') : Same (cut Z H) (cut Z H') := fun c o h => by
  obtain ⟨h1, h2⟩ := cut_some h
  rw [cut_out h1]
  exact b _ _ h2 (fun e => h1 (e ▸ m))
theorem cut_same {Z : List Addr} {H H' : Hp} (b : Same H H') : Same (cut Z H) (cut Z H') := fun c o h => by
  obtain ⟨h1, h2⟩ := cut_some h
  rw [cut_out h1]
  exact b _ _ h2
theorem cut_upd {Z : List Addr} {c : Addr} {H : Hp} {o : HO} (m : c ∈ Z) : cut Z (upd H c o) = cut Z H := by
  funext b
  by_cases e : b ∈ Z
  · rw [cut_in e, cut_in e]
  · rw [cut_out e, cut_out e, upd_ne (fun q : b = c => e (by rw [q]; exact m))]
structure PZ (Z : List Addr) (p : Addr) (H : Hp) : Prop where
  pot : PotAt H p
  mem : p ∈ Z
  live : ∀ z ∈ Z, ∃ o, H z = some o
theorem PZ.step {Z : List Addr} {p : Addr} {H H' : Hp} (h : PZ Z p H) (hp : PotAt H' p) (b : But p H H') : PZ Z p H' := ⟨hp, h.mem, fun z hz => by
  by_cases e : z = p
  · obtain ⟨_, _, q, _⟩ := hp
    exact ⟨_, e ▸ q⟩
  · obtain ⟨o, q⟩ := h.live z hz
    exact ⟨o, b _ _ q e⟩⟩
theorem PZ.same {Z : List Addr} {p : Addr} {H H' : Hp} (h : PZ Z p H) (b : Same H H') : PZ Z p H' := h.step (h.pot.same b) (Same.but b)
theorem PZ.notin {Z : List Addr} {p t : Addr} {H : Hp} (h : PZ Z p H) (n : H t = none) : t ∉ Z := fun e => by
  obtain ⟨o, q⟩ := h.live t e
  rw [n] at q; cases q
theorem PZ.more {Z : List Addr} {p c : Addr} {H : Hp} {o : HO} (h : PZ Z p H) (hc : H c = some o) : PZ (c :: Z) p H := ⟨h.pot, List.mem_cons_of_mem _ h.mem, fun z hz => by
  rcases List.mem_cons.mp hz with e | e
  · exact ⟨o, e ▸ hc⟩
  · exact h.live z e⟩
theorem PZ.one {p : Addr} {H : Hp} (h : PotAt H p) : PZ [p] p H := ⟨h, List.mem_singleton.mpr rfl, fun z hz => by
  obtain ⟨_, _, q, _⟩ := h
  rw [List.mem_singleton.mp hz]
  exact ⟨_, q⟩⟩
theorem cut_less {Z : List Addr} {c : Addr} {H : Hp} : Same (cut (c :: Z) H) (cut Z H) := fun b o h => by
  obtain ⟨h1, h2⟩ := cut_some h
  rw [cut_out (fun e => h1 (List.mem_cons_of_mem _ e))]
  exact h2
theorem cut_more {Z : List Addr} {c : Addr} {H : Hp} (n : H c = none) : Same (cut Z H) (cut (c :: Z) H) := fun b o h => by
  obtain ⟨h1, h2⟩ := cut_some h
  rw [cut_out (fun e => by
    rcases List.mem_cons.mp e with e | e
    · rw [e, n] at h2; cases h2
    · exact h1 e)]
  exact h2
def Dz (K : PySem.W.Frag) (Z : List Addr) (H : Hp) (x : V) (d : PyData) : Prop := Dq K (cut Z H) x d
def DzAll (K : PySem.W.Frag) (Z : List Addr) (H : Hp) (xs : List V) (ds : List PyData) : Prop := DqAll K (cut Z H) xs ds
theorem Dz.step {K : PySem.W.Frag} {Z : List Addr} {p : Addr} {H H' : Hp} {x : V} {d : PyData} (h : Dz K Z H x d) (z : PZ Z p H) (b : But p H H') : Dz K Z H' x d := Dq.same (cut_but z.mem b) h
theorem DzAll.step {K : PySem.W.Frag} {Z : List Addr} {p : Addr} {H H' : Hp} {x : List V} {d : List PyData} (h : DzAll K Z H x d) (z : PZ Z p H) (b : But p H H') : DzAll K Z H' x d := DqAll.same (cut_but z.mem b) h
theorem Dz.same {K : PySem.W.Frag} {Z : List Addr} {H H' : Hp} {x : V} {d : PyData} (h : Dz K Z H x d) (b : Same H H') : Dz K Z H' x d := Dq.same (cut_same b) h
theorem DzAll.same {K : PySem.W.Frag} {Z : List Addr} {H H' : Hp} {x : List V} {d : List PyData} (h : DzAll K Z H x d) (b : Same H H') : DzAll K Z H' x d := DqAll.same (cut_same b) h
theorem Dz.dq {K : PySem.W.Frag} {Z : List Addr} {H : Hp} {x : V} {d : PyData} (h : Dz K Z H x d) : Dq K H x d := Dq.same cut_sub h
theorem DzAll.dq {K : PySem.W.Frag} {Z : List Addr} {H : Hp} {x : List V} {d : List PyData} (h : DzAll K Z H x d) : DqAll K H x d := DqAll.same cut_sub h
theorem Dz.less {K : PySem.W.Frag} {Z : List Addr} {c : Addr} {H : Hp} {x : V} {d : PyData} (h : Dz K (c :: Z) H x d) : Dz K Z H x d := Dq.same cut_less h
theorem DzAll.less {K : PySem.W.Frag} {Z : List Addr} {c : Addr} {H : Hp} {x : List V} {d : List PyData} (h : DzAll K (c :: Z) H x d) : DzAll K Z H x d := DqAll.same cut_less h
theorem Dz.more {K : PySem.W.Frag} {Z : List Addr} {c : Addr} {H : Hp} {x : V} {d : PyData} (h : Dz K Z H x d) (n : H c = none) : Dz K (c :: Z) H x d := Dq.same (cut_more n) h
theorem DzAll.more {K : PySem.W.Frag} {Z : List Addr} {c : Addr} {H : Hp} {x : List V} {d : List PyData} (h : DzAll K Z H x d) (n : H c = none) : DzAll K (c :: Z) H x d := DqAll.same (cut_more n) h
theorem DzAll.upd {K : PySem.W.Frag} {Z : List Addr} {c : Addr} {H : Hp} {o : HO} {x : List V} {d : List PyData} (h : DzAll K Z H x d) (m : c ∈ Z) : DzAll K Z (L2.upd H c o) x d := by
  unfold DzAll; rw [cut_upd m]; exact h
/-- a new tuple, a new list of data -/
theorem Dz.new_tup {K : PySem.W.Frag} {Z : List Addr} {p t : Addr} {H : Hp} {xs : List V} {ds : List PyData} (h : DzAll K Z H xs ds) (z : PZ Z p H) (n : H t = none) : Dz K Z (upd H t (.tup xs)) (.ref t) (.tuple ds) :=
  .tup (SqT.of (by rw [cut_out (z.notin n)]; exact upd_same)) (h.same (same_upd n))
theorem Dz.new_lst {K : PySem.W.Frag} {Z : List Addr} {p t : Addr} {H : Hp} {xs : List V} {ds : List PyData} (h : DzAll K Z H xs ds) (z : PZ Z p H) (n : H t = none) : Dz K Z (upd H t (.lst xs)) (.ref t) (.list ds) :=
  .lst (SqL.of (by rw [cut_out (z.notin n)]; exact upd_same)) (h.same (same_upd n))
theorem dz_strs {K : PySem.W.Frag} {Z : List Addr} {H : Hp} : ∀ ss : List Str, DzAll K Z H (ss.map V.str) (ss.map PyData.str)
  | [] => .nil
  | s :: ss => .cons (.str s) (dz_strs ss)
def wsL : List Str := ["a", "c", "one", ""]
def wsT : List Str := ["a", "b", "", "clash"]
def lnD (ss : List Str) : PyData := .tuple (ss.map .str)
def Few (ss : List Str) : Prop := ss.length ≤ 3 ∧ ∀ s ∈ ss, s ∈ wsL
def GoodTok (d : PyData) : Prop := (∃ s ∈ wsT, d = .str s) ∨ ∃ (lo hi : Int) (ss ts : List Str), d = .tuple [.str "clash", .int lo, .int hi, lnD ss, lnD ts] ∧ 0 ≤ lo ∧ lo ≤ hi ∧ hi ≤ 60 ∧ Few ss ∧ Few ts
def spLinesL (K : PySem.W.Frag) : Sp := fun vs H Q _ => ∃ p Z, vs = [.ref p] ∧ PZ Z p H ∧ ∀ t ss H', PotAt H' p → But p H H' → Dz K Z H' (.ref t) (lnD ss) → Few ss → Q (.ref t) H'
def spFresh (K : PySem.W.Frag) : Sp := fun vs H Q _ => ∃ p Z, vs = [.ref p] ∧ PZ Z p H ∧ ∀ t d H', PotAt H' p → But p H H' → Dz K Z H' t d → GoodTok d → Q t H'
def spTokens (K : PySem.W.Frag) : Sp := fun vs H Q _ => ∃ (p : Addr) (Z : List Addr) (m : Int), vs = [.ref p, .int m] ∧ PZ Z p H ∧ 0 ≤ m ∧ m ≤ 100 ∧ ∀ t ds H', PotAt H' p → But p H H' → Dz K Z H' (.ref t) (.tuple ds) → (∀ d ∈ ds, GoodTok d) → (ds.length : Int) ≤ m → Q (.ref t) H'
end XR
namespace K64
open PySem L2 XR
abbrev sTokens : Stmt := top 25
abbrev sFresh : Stmt := top 26
abbrev sLinesL : Stmt := top 27
section
variable {P : Program} {w : World} {K : PySem.W.Frag} {mg : Str → Option Value} {base : Heap}
theorem scLinesL : FnScope ["_law_pot_here", "_law_turn"] ["_law_pot_here"] (defScope sLinesL) := ⟨rfl, rfl, rfl, by decide +kernel, rfl, by decide +kernel, by decide +kernel⟩
theorem ok_linesL {f fD fP : Addr} {fd fdD fdP : FuncData} (F : Fun K "_law_lines" "_law_lines" sLinesL f fd) (T : Blt mg) (D : Draws P w K mg base fD fP fdD fdP) : FnOk P w K mg base CX0 3 f fd ["_law_pot_here"] (spLinesL K) := by
  refine F.ok scLinesL (fun vs H Q E h => ?_) (fun cdv A outer s H vs Q E hr h => ?_)
  · obtain ⟨p, Z, rfl, _⟩ := h
    rfl
  · obtain ⟨p, Z, rfl, hz, z⟩ := h
    have hp := hz.pot
    refine ⟨_, pss_one (ps_ret (pe_callTy call_tuple_of (by rfl) T.tuple (by decide +kernel) (pa_cons (pe_lc (own := [("_law_turn", 1)]) (g := gName 1) (tt := tYes) (te := tCall spPick [] E0 (tCons (tVar 0) (tCons (tLst (tCons (tC (.str "a")) (tCons (tC (.str "c")) (tCons (tC (.str "one")) (tCons (tC (.str "")) tNil))))) tNil))) rfl scLinesL.nd
          (pi_range1 rfl T.range (pa_cons (pe_call D.GD (hr.mono (by decide)) rfl D.mD D.FD.kp D.bD .nil pass0 (pa_cons (pv 0) (pa_cons pe_int pa_nil))) pa_nil))
          (blkOk_by (own := [("_law_turn", 1)]) (N := ["_law_pot_here", "_law_turn"]) (sc := defScope sLinesL) (by decide +kernel))
          (fun _ _ _ _ _ => pg_name (i := 1) scLinesL.nd rfl (Or.inl rfl)) (fun _ _ _ _ _ => pts_nil)
          (fun _ _ _ _ _ => pe_call D.GP hr rfl D.mP D.FP.kp D.bP .nil pass0 (pa_cons (pv 0) (pa_cons (pe_lst (pa_cons pe_str (pa_cons pe_str (pa_cons pe_str (pa_cons pe_str pa_nil))))) pa_nil)))) pa_nil))), ?_⟩
    refine ⟨_, rfl, p, 4, rfl, hp, by decide, by decide, fun r H2 r0 r1 hp2 b2 => ?_⟩
    refine ⟨r, rfl, by omega, by omega, fun c nc => ?_⟩
    have hac := hp2.ne nc
    refine lc_range (n := r.toNat) (fun j H' => PotAt H' p ∧ But p H2 H' ∧ ∃ ss : List Str, H' c = some (.lst (ss.map V.str)) ∧ (∀ s ∈ ss, s ∈ wsL) ∧ ss.length = j) ⟨hp2.upd hac, (But.refl p H2).new nc, [], upd_same, (fun s h => by cases h), rfl⟩ ?_ ?_
    · rintro j H' hj ⟨hp', b', ss, hc, hwd', hl⟩
      refine ⟨rfl, ?_⟩
      unfold tYes
      dsimp only
      rw [if_pos rfl]
      refine ⟨_, rfl, ll20 (by show 4 ≤ 20; decide), fun q nq => ?_⟩
      have sq := same_upd (o := .lst [V.str "a", V.str "c", V.str "one", V.str ""]) nq
      refine ⟨p, q, wsL.map V.str, rfl, hp'.same sq, upd_same, hp'.ne nq, by decide, by decide, fun x H3 hx hp3 b3 => ?_⟩
      obtain ⟨s, hs, rfl⟩ := List.mem_map.mp hx
      have hc3 := b3 _ _ (sq _ _ hc) hac.symm
      refine ⟨_, hc3, ?_, hp3.upd hac, ?_, ss ++ [s], ?_, ?_, ?_⟩
      · rw [List.length_map, hl]
        exact Nat.lt_of_lt_of_le hj (Nat.le_trans (show r.toNat ≤ 4 by omega) (by decide))
      · intro b o hb hn
        have hb' := b3 _ _ (sq _ _ (b' _ _ hb hn)) hn
        by_cases e : b = c
        · subst e; rw [nc] at hb; cases hb
        · rw [upd_ne e]; exact hb'
      · rw [upd_same, List.map_append]; rfl
      · intro y hy
        rcases List.mem_append.mp hy with hy | hy
        · exact hwd' y hy
        · rw [List.mem_singleton.mp hy]; exact hs
      · rw [List.length_append, hl]; rfl
    · rintro H' ⟨hp', b', ss, hc, hwd', hl⟩
      refine ⟨c, _, rfl, .inl ⟨SqL.of hc, fun t nt => ?_⟩⟩
      exact z t ss _ (hp'.same (same_upd nt)) (b2.trans (b'.trans ((But.refl p H').new nt))) (Dz.new_tup (dz_strs ss) (hz.step hp' (b2.trans b')) nt) ⟨by omega, hwd'⟩
end
end K64
namespace K64
open PySem L2 XR
section
variable {P : Program} {w : World} {K : PySem.W.Frag} {mg : Str → Option Value} {base : Heap}
theorem scFresh : FnScope ["_law_pot_here", "_law_low", "_law_high"] ["_law_pot_here"] (defScope sFresh) := ⟨rfl, rfl, rfl, by decide +kernel, rfl, by decide +kernel, by decide +kernel⟩
theorem ok_fresh {f fD fP fL : Addr} {fd fdD fdP fdL : FuncData} (F : Fun K "_law_fresh_clash" "_law_fresh_clash" sFresh f fd) (T : Blt mg) (D : Draws P w K mg base fD fP fdD fdP)
    (FL : Fun K "_law_lines" "_law_lines" sLinesL fL fdL) (GL : FnOk P w K mg base CX0 3 fL fdL ["_law_pot_here"] (spLinesL K)) (bL : Binds K fdL ["_law_pot_here"] []) (mL : mg "_law_lines" = some (.ref fL)) : FnOk P w K mg base CX0 4 f fd ["_law_pot_here"] (spFresh K) := by
  refine F.ok scFresh (fun vs H Q E h => ?_) (fun cdv A outer s H vs Q E hr h => ?_)
  · obtain ⟨p, Z, rfl, _⟩ := h
    rfl
  · obtain ⟨p, Z, rfl, hz, z⟩ := h
    have hp := hz.pot
    have hr1 := hr.mono (show 1 ≤ 3 by decide)
    have hr2 := hr.mono (show 2 ≤ 3 by decide)
    refine ⟨_, pss_cons (ps_set (i := 1) scFresh.nd rfl (.inl rfl) (pe_call D.GP hr2 rfl D.mP D.FP.kp D.bP .nil pass0 (pa_cons (pv 0) (pa_cons (pe_lst (pa_cons pe_int (pa_cons pe_int (pa_cons (pe_call D.GD hr1 rfl D.mD D.FD.kp D.bD .nil pass0 (pa_cons (pv 0) (pa_cons pe_int pa_nil))) pa_nil)))) pa_nil))))
      (pss_cons (ps_set (i := 2) scFresh.nd rfl (.inl rfl) (pe_op op_add (pv 1) (pe_call D.GP hr2 rfl D.mP D.FP.kp D.bP .nil pass0 (pa_cons (pv 0) (pa_cons (pe_lst (pa_cons pe_int (pa_cons (pe_callB (call_min2 rfl) (by rfl) T.min (by decide +kernel) (pa_cons (pe_op op_sub pe_int (pv 1)) (pa_cons pe_int pa_nil))) (pa_cons (pe_call D.GD hr1 rfl D.mD D.FD.kp D.bD .nil pass0 (pa_cons (pv 0) (pa_cons (pe_op op_sub pe_int (pv 1)) pa_nil))) pa_nil)))) pa_nil)))))
      (pss_one (ps_ret (pe_tup (pa_cons pe_str (pa_cons (pv 1) (pa_cons (pv 2) (pa_cons (pe_call GL hr rfl mL FL.kp bL .nil pass0 (pa_cons (pv 0) pa_nil)) (pa_cons (pe_call GL hr rfl mL FL.kp bL .nil pass0 (pa_cons (pv 0) pa_nil)) pa_nil))))))))), ?_⟩
    refine ⟨_, rfl, _, rfl, p, 61, rfl, hp, by decide, by decide, fun r H1 r0 r1 hp1 b1 => ⟨ll20 (by show 3 ≤ 20; decide), fun l nl => ?_⟩⟩
    have sl := same_upd (o := .lst [V.int 0, V.int 1, V.int r]) nl
    have bl : But p H1 (upd H1 l (.lst [V.int 0, V.int 1, V.int r])) := (But.refl p H1).new nl
    refine ⟨p, l, _, rfl, hp1.same sl, upd_same, hp1.ne nl, by show 0 < 3; decide, by show 3 ≤ 1000; decide, fun x H2 hx hp2 b2 => ?_⟩
    obtain ⟨lo, rfl, l0, l1⟩ : ∃ lo : Int, x = .int lo ∧ 0 ≤ lo ∧ lo ≤ 60 := by
      simp only [List.mem_cons, List.not_mem_nil, or_false] at hx
      rcases hx with rfl | rfl | rfl
      · exact ⟨0, rfl, by decide, by decide⟩
      · exact ⟨1, rfl, by decide, by decide⟩
      · exact ⟨r, rfl, r0, by omega⟩
    have hb2 := (b1.trans bl).trans b2
    generalize upd H1 l (.lst [V.int 0, V.int 1, V.int r]) = G at b2 bl sl
    refine ⟨_, rfl, _, rfl, _, rfl, _, _, rfl, rfl, _, _, rfl, _, rfl, _, rfl, _, _, rfl, rfl, p, 61 - lo, rfl, hp2, by omega, by omega, fun r2 H3 r20 r21 hp3 b3 => ⟨ll20 (by show 3 ≤ 20; decide), fun l2 nl2 => ?_⟩⟩
    have sl2 := same_upd (o := .lst [V.int 0, V.int (if (1 : Int) < 60 - lo then 1 else 60 - lo), V.int r2]) nl2
    have bl2 : But p H3 (upd H3 l2 (.lst [V.int 0, V.int (if (1 : Int) < 60 - lo then 1 else 60 - lo), V.int r2])) := (But.refl p H3).new nl2
    refine ⟨p, l2, _, rfl, hp3.same sl2, upd_same, hp3.ne nl2, by show 0 < 3; decide, by show 3 ≤ 1000; decide, fun x H4 hx hp4 b4 => ?_⟩
    obtain ⟨st, rfl, t0, t1⟩ : ∃ st : Int, x = .int st ∧ 0 ≤ st ∧ lo + st ≤ 60 := by
      simp only [List.mem_cons, List.not_mem_nil, or_false] at hx
      rcases hx with rfl | rfl | rfl
      · exact ⟨0, rfl, by decide, by omega⟩
      · exact ⟨_, rfl, by split <;> omega, by split <;> omega⟩
      · exact ⟨r2, rfl, r20, by omega⟩
    have hb4 := ((hb2.trans b3).trans bl2).trans b4
    generalize upd H3 l2 (.lst [V.int 0, V.int (if (1 : Int) < 60 - lo then 1 else 60 - lo), V.int r2]) = G2 at b4 bl2 sl2
    refine ⟨_, _, rfl, rfl, ?_⟩
    have hz4 := hz.step hp4 hb4
    refine ⟨_, rfl, _, rfl, _, rfl, p, Z, rfl, hz4, fun ta ss1 H5 hp5 b5 k1 f1 => ⟨_, rfl, p, Z, rfl, hz4.step hp5 b5, fun tb ss2 H6 hp6 b6 k2 f2 => ⟨ll20 (by show 5 ≤ 20; decide), fun t nt => ?_⟩⟩⟩
    refine z (.ref t) (.tuple [.str "clash", .int lo, .int (lo + st), lnD ss1, lnD ss2]) _ (hp6.same (same_upd nt)) (((hb4.trans b5).trans b6).trans ((But.refl p H6).new nt)) (Dz.new_tup (.cons (.str _) (.cons (.int _) (.cons (.int _) (.cons (k1.step (hz4.step hp5 b5) b6) (.cons k2 .nil))))) ((hz4.step hp5 b5).step hp6 b6) nt) ?_
    exact .inr ⟨lo, lo + st, ss1, ss2, rfl, l0, by omega, t1, f1, f2⟩
theorem scTokens : FnScope ["_law_pot_here", "_law_most", "_law_found", "_law_turn"] ["_law_pot_here", "_law_most"] (defScope sTokens) := ⟨rfl, rfl, rfl, by decide +kernel, rfl, by decide +kernel, by decide +kernel⟩
theorem ok_tokens {f fD fP fL : Addr} {fd fdD fdP fdL : FuncData} (F : Fun K "_law_tokens" "_law_tokens" sTokens f fd) (T : Blt mg) (D : Draws P w K mg base fD fP fdD fdP)
    (FL : Fun K "_law_fresh_clash" "_law_fresh_clash" sFresh fL fdL) (GL : FnOk P w K mg base CX0 4 fL fdL ["_law_pot_here"] (spFresh K)) (bL : Binds K fdL ["_law_pot_here"] []) (mL : mg "_law_fresh_clash" = some (.ref fL)) : FnOk P w K mg base CX0 5 f fd ["_law_pot_here", "_law_most"] (spTokens K) := by
  refine F.ok scTokens (fun vs H Q E h => ?_) (fun cdv A outer s H vs Q E hr h => ?_)
  · obtain ⟨p, Z, m, rfl, _⟩ := h
    rfl
  · obtain ⟨p, Z, m, rfl, hz, m0, m1, z⟩ := h
    have hp := hz.pot
    have hr1 := hr.mono (show 1 ≤ 4 by decide)
    have hr2 := hr.mono (show 2 ≤ 4 by decide)
    refine ⟨_, pss_cons (ps_set (i := 2) scTokens.nd rfl (.inl rfl) (pe_lst pa_nil))
      (pss_cons (ps_for PassesOwn.never rfl (pi_range1 rfl T.range (pa_cons (pe_call D.GD hr1 rfl D.mD D.FD.kp D.bD .nil pass0 (pa_cons (pv 0) (pa_cons (pe_op op_add (pv 1) pe_int) pa_nil))) pa_nil)) (pg_name (i := 3) scTokens.nd rfl (.inl rfl))
        (pss_one (ps_expr (pe_bm PySem.F.plainAttrs_list PySem.F.slot_list_append PySem.F.type_list_append mt_append (pv 2) (pa_cons (pe_ifExp (pt_cmpR op_gt (pe_call D.GD hr1 rfl D.mD D.FD.kp D.bD .nil pass0 (pa_cons (pv 0) (pa_cons pe_int pa_nil))) pe_int (nomark _))
          (pe_call D.GP hr2 rfl D.mP D.FP.kp D.bP .nil pass0 (pa_cons (pv 0) (pa_cons (pe_lst (pa_cons pe_str (pa_cons pe_str (pa_cons pe_str (pa_cons pe_str pa_nil))))) pa_nil))) (pe_call GL hr rfl mL FL.kp bL .nil pass0 (pa_cons (pv 0) pa_nil))) pa_nil)))))
      (pss_one (ps_ret (pe_callTy call_tuple_of (by rfl) T.tuple (by decide +kernel) (pa_cons (pv 2) pa_nil))))), ?_⟩
    refine ⟨ll20 (by decide), fun c nc => ?_⟩
    have b0 : But p H (upd H c (.lst [])) := (But.refl p H).new nc
    have hp0 := hp.upd (o := .lst []) (hp.ne nc)
    have hc0 := upd_same (H := H) (a := c) (o := .lst [])
    have apc := hp.ne nc
    generalize upd H c (.lst []) = H0 at b0 hp0 hc0
    refine ⟨_, rfl, _, rfl, _, _, rfl, rfl, p, m + 1, rfl, hp0, by omega, by omega, fun r H1 r0 r1 hp1 b1 => ?_⟩
    have hc1 := b1 _ _ hc0 apc.symm
    have bH1 := b0.trans b1
    have hz1 := (hz.step hp1 bH1).more hc1
    refine ⟨r, rfl, by omega, by omega, for_range (n := r.toNat) (fun i σ H' => PotAt H' p ∧ But p H H' ∧ PZ (c :: Z) p H' ∧ ∃ (xs : List V) (ds : List PyData) (x3 : Option V), σ = [some (V.ref p), some (V.int m), some (V.ref c), x3] ∧ H' c = some (.lst xs) ∧ DzAll K (c :: Z) H' xs ds ∧ (∀ d ∈ ds, GoodTok d) ∧ ds.length = i)
      ⟨hp1, bH1, hz1, [], [], _, rfl, hc1, .nil, (fun d h => nomatch h), rfl⟩ ?_ ?_⟩
    · rintro i σ Ha hi ⟨hp', hb', hz', xs, ds, x3, rfl, hc, hx, hg, hl⟩
      have key : ∀ (y : V) (d : PyData) (H3 : Hp), PotAt H3 p → But p Ha H3 → Dz K (c :: Z) H3 y d → GoodTok d →
          ∃ l zs v, V.ref c = V.ref l ∧ [y] = [v] ∧ H3 l = some (.lst zs) ∧ zs.length < sizeLine ∧ (PotAt (upd H3 l (.lst (zs ++ [v]))) p ∧ But p H (upd H3 l (.lst (zs ++ [v]))) ∧ PZ (c :: Z) p (upd H3 l (.lst (zs ++ [v]))) ∧
            ∃ (xs' : List V) (ds' : List PyData) (x3' : Option V), [some (V.ref p), some (V.int m), some (V.ref c), some (V.int (0 + (i : Int)))] = [some (V.ref p), some (V.int m), some (V.ref c), x3'] ∧ (upd H3 l (.lst (zs ++ [v]))) c = some (.lst xs') ∧ DzAll K (c :: Z) (upd H3 l (.lst (zs ++ [v]))) xs' ds' ∧ (∀ d ∈ ds', GoodTok d) ∧ ds'.length = i + 1) := by
        intro y d H3 hp3 b3 hd gd
        have hc3 := b3 _ _ hc apc.symm
        have hz3 := hz'.step hp3 b3
        have hxl := DqAll.length hx
        have hpu := hp3.upd (o := .lst (xs ++ [y])) apc
        have bu : But p H (upd H3 c (.lst (xs ++ [y]))) := fun b o hb hn => by
          have hb2 := b3 _ _ (hb' _ _ hb hn) hn
          rw [upd_ne (ne_of_none hb nc)]
          exact hb2
        refine ⟨c, xs, y, rfl, rfl, hc3, Nat.lt_of_le_of_lt (show xs.length ≤ 101 by omega) (by decide), hpu, bu, ⟨hpu, hz3.mem, fun u hu => ?_⟩, xs ++ [y], ds ++ [d], _, rfl, upd_same, ?_, fun e he => ?_, ?_⟩
        · by_cases q : u = c
          · exact ⟨_, by rw [q]; exact upd_same⟩
          · obtain ⟨o, ho⟩ := hz3.live u hu
            exact ⟨o, by rw [upd_ne q]; exact ho⟩
        · exact DzAll.upd (DqAll.snoc (hx.step hz' b3) hd) (List.mem_cons_self ..)
        · rcases List.mem_append.mp he with he | he
          · exact hg e he
          · rw [List.mem_singleton.mp he]; exact gd
        · rw [List.length_append, hl]; rfl
      refine ⟨_, rfl, .inl ⟨rfl, _, SqL.of hc⟩, _, rfl, p, 3, rfl, hp', by decide, by decide, fun q H2 q0 q1 hp2 b2 => ⟨_, _, rfl, rfl, _, rfl, ?_⟩⟩
      have hz2 := hz'.step hp2 b2
      refine ite2 (fun _ => ?_) (fun _ => ?_)
      · refine ⟨_, rfl, ll20 (by show 4 ≤ 20; decide), fun k nk => ?_⟩
        have sk := same_upd (o := .lst [V.str "a", V.str "b", V.str "", V.str "clash"]) nk
        refine ⟨p, k, wsT.map V.str, rfl, hp2.same sk, upd_same, hp2.ne nk, by decide, by decide, fun x H3 hx3 hp3 b3 => ?_⟩
        obtain ⟨s, hs, rfl⟩ := List.mem_map.mp hx3
        exact key (.str s) (.str s) H3 hp3 ((b2.trans ((But.refl p H2).new nk)).trans b3) (.str s) (.inl ⟨s, hs, rfl⟩)
      · exact ⟨_, rfl, p, c :: Z, rfl, hz2, fun t d H3 hp3 b3 hd gd => key t d H3 hp3 (b2.trans b3) hd gd⟩
    · rintro σ Ha ⟨hp', hb', hz', xs, ds, x3, rfl, hc, hx, hg, hl⟩
      refine ⟨_, rfl, c, _, rfl, .inl ⟨SqL.of hc, fun t nt => ?_⟩⟩
      have hzz := hz.step hp' hb'
      exact z t ds _ (hp'.same (same_upd nt)) (hb'.trans ((But.refl p Ha).new nt)) (Dz.new_tup (DzAll.less hx) hzz nt) hg (by omega)
end
end K64
namespace XR
open PySem L2
def oddL : List PyData := [PyData.none, PyData.int 0, PyData.int 1, PyData.bool true, PyData.str "a\n", (PyData.list [PyData.str "a"]), (PyData.tuple []), (PyData.list []), (PyData.dict []), (PyData.tuple [PyData.str "clash"]), (PyData.tuple [PyData.str "clash", PyData.int 0, PyData.int 0, (PyData.tuple []), (PyData.tuple [])]), PyData.int (-1), PyData.int 61, (PyData.tuple [PyData.str "a"]), PyData.str "one", (PyData.tuple [PyData.str "a\n"]), (PyData.tuple (List.replicate 60 (PyData.str "a"))), (PyData.tuple (List.replicate 61 (PyData.str "a"))), (PyData.tuple [PyData.int 1]), (PyData.tuple [PyData.str "x", PyData.int 0, PyData.int 0, (PyData.tuple []), (PyData.tuple [])]), PyData.bool false]
def spOdd (K : PySem.W.Frag) : Sp := fun vs H Q _ => ∃ p Z, vs = [.ref p] ∧ PZ Z p H ∧ ∀ x d H', PotAt H' p → But p H H' → Dz K Z H' x d → d ∈ oddL → Q x H'
end XR
namespace K64
open PySem L2 XR
abbrev sOdd : Stmt := top 33
section
variable {P : Program} {w : World} {K : PySem.W.Frag} {mg : Str → Option Value} {base : Heap}
theorem scOdd : FnScope ["_law_pot_here", "_law_some"] ["_law_pot_here"] (defScope sOdd) := ⟨rfl, rfl, rfl, by decide +kernel, rfl, by decide +kernel, by decide +kernel⟩
theorem ok_odd {f fD fP : Addr} {fd fdD fdP : FuncData} (F : Fun K "_law_odd" "_law_odd" sOdd f fd) (D : Draws P w K mg base fD fP fdD fdP) : FnOk P w K mg base CX0 3 f fd ["_law_pot_here"] (spOdd K) := by
  refine F.ok scOdd (fun vs H Q E h => ?_) (fun cdv A outer s H vs Q E hr h => ?_)
  · obtain ⟨p, Z, rfl, _⟩ := h
    rfl
  · obtain ⟨p, Z, rfl, hz, z⟩ := h
    have hp := hz.pot
    have sm : Same H H := fun _ _ e => e
    refine ⟨_, pss_cons (ps_set (i := 1) scOdd.nd rfl (.inl rfl) (pe_lst (pa_cons pe_non (pa_cons pe_int (pa_cons pe_int (pa_cons pe_bl (pa_cons pe_str (pa_cons (pe_lst (pa_cons pe_str pa_nil)) (pa_cons (pe_tup pa_nil) (pa_cons (pe_lst pa_nil) (pa_cons pe_dnewK (pa_cons (pe_tup (pa_cons pe_str pa_nil)) (pa_cons (pe_tup (pa_cons pe_str (pa_cons pe_int (pa_cons pe_int (pa_cons (pe_tup pa_nil) (pa_cons (pe_tup pa_nil) pa_nil)))))) (pa_cons (pe_un un_neg pe_int) (pa_cons pe_int pa_nil)))))))))))))))
      (pss_cons (ps_set (i := 1) scOdd.nd rfl (.inl rfl) (pe_op op_cat (pv 1) (pe_lst (pa_cons (pe_tup (pa_cons pe_str pa_nil)) (pa_cons pe_str (pa_cons (pe_tup (pa_cons pe_str pa_nil)) (pa_cons (pe_op op_repT (pe_tup (pa_cons pe_str pa_nil)) pe_int) (pa_cons (pe_op op_repT (pe_tup (pa_cons pe_str pa_nil)) pe_int) (pa_cons (pe_tup (pa_cons pe_int pa_nil)) (pa_cons (pe_tup (pa_cons pe_str (pa_cons pe_int (pa_cons pe_int (pa_cons (pe_tup pa_nil) (pa_cons (pe_tup pa_nil) pa_nil)))))) (pa_cons pe_bl pa_nil)))))))))))
      (pss_one (ps_ret (pe_call D.GP hr rfl D.mP D.FP.kp D.bP .nil pass0 (pa_cons (pv 0) (pa_cons (pv 1) pa_nil)))))), ?_⟩
    refine ⟨ll20 (by show 1 ≤ 20; decide), fun a1 n_a1 => ?_⟩
    obtain ⟨G1, hG1⟩ : ∃ G, G = upd H a1 (.lst [V.str "a"]) := ⟨_, rfl⟩
    rw [← hG1]
    have sG1 : Same H G1 := by rw [hG1]; exact same_upd n_a1
    have e_a1 : Dz K Z G1 (.ref a1) (PyData.list [PyData.str "a"]) := by rw [hG1]; exact Dz.new_lst (.cons (.str _) .nil) hz n_a1
    have g_a1 : G1 a1 = some (.lst [V.str "a"]) := by rw [hG1]; exact upd_same
    replace hz := hz.same sG1
    replace sm := sm.trans sG1
    clear hG1 sG1 n_a1
    refine ⟨ll20 (by show 0 ≤ 20; decide), fun a2 n_a2 => ?_⟩
    obtain ⟨G2, hG2⟩ : ∃ G, G = upd G1 a2 (.tup []) := ⟨_, rfl⟩
    rw [← hG2]
    have sG2 : Same G1 G2 := by rw [hG2]; exact same_upd n_a2
    have e_a2 : Dz K Z G2 (.ref a2) (PyData.tuple []) := by rw [hG2]; exact Dz.new_tup .nil hz n_a2
    have g_a2 : G2 a2 = some (.tup []) := by rw [hG2]; exact upd_same
    replace hz := hz.same sG2
    replace sm := sm.trans sG2
    replace e_a1 := e_a1.same sG2
    replace g_a1 := sG2 _ _ g_a1
    clear hG2 sG2 n_a2
    refine ⟨ll20 (by show 0 ≤ 20; decide), fun a3 n_a3 => ?_⟩
    obtain ⟨G3, hG3⟩ : ∃ G, G = upd G2 a3 (.lst []) := ⟨_, rfl⟩
    rw [← hG3]
    have sG3 : Same G2 G3 := by rw [hG3]; exact same_upd n_a3
    have e_a3 : Dz K Z G3 (.ref a3) (PyData.list []) := by rw [hG3]; exact Dz.new_lst .nil hz n_a3
    have g_a3 : G3 a3 = some (.lst []) := by rw [hG3]; exact upd_same
    replace hz := hz.same sG3
    replace sm := sm.trans sG3
    replace e_a1 := e_a1.same sG3
    replace e_a2 := e_a2.same sG3
    replace g_a1 := sG3 _ _ g_a1
    replace g_a2 := sG3 _ _ g_a2
    clear hG3 sG3 n_a3
    intro a4 n_a4
    obtain ⟨G4, hG4⟩ : ∃ G, G = upd G3 a4 (.dK []) := ⟨_, rfl⟩
    rw [← hG4]
    have sG4 : Same G3 G4 := by rw [hG4]; exact same_upd n_a4
    have e_a4 : Dz K Z G4 (.ref a4) (PyData.dict []) := by rw [hG4]; exact Dq.dct (by rw [cut_out (hz.notin n_a4)]; exact upd_same) .nil .nil
    have g_a4 : G4 a4 = some (.dK []) := by rw [hG4]; exact upd_same
    replace hz := hz.same sG4
    replace sm := sm.trans sG4
    replace e_a1 := e_a1.same sG4
    replace e_a2 := e_a2.same sG4
    replace e_a3 := e_a3.same sG4
    replace g_a1 := sG4 _ _ g_a1
    replace g_a2 := sG4 _ _ g_a2
    replace g_a3 := sG4 _ _ g_a3
    clear hG4 sG4 n_a4
    refine ⟨ll20 (by show 1 ≤ 20; decide), fun a5 n_a5 => ?_⟩
    obtain ⟨G5, hG5⟩ : ∃ G, G = upd G4 a5 (.tup [V.str "clash"]) := ⟨_, rfl⟩
    rw [← hG5]
    have sG5 : Same G4 G5 := by rw [hG5]; exact same_upd n_a5
    have e_a5 : Dz K Z G5 (.ref a5) (PyData.tuple [PyData.str "clash"]) := by rw [hG5]; exact Dz.new_tup (.cons (.str _) .nil) hz n_a5
    have g_a5 : G5 a5 = some (.tup [V.str "clash"]) := by rw [hG5]; exact upd_same
    replace hz := hz.same sG5
    replace sm := sm.trans sG5
    replace e_a1 := e_a1.same sG5
    replace e_a2 := e_a2.same sG5
    replace e_a3 := e_a3.same sG5
    replace e_a4 := e_a4.same sG5
    replace g_a1 := sG5 _ _ g_a1
    replace g_a2 := sG5 _ _ g_a2
    replace g_a3 := sG5 _ _ g_a3
    replace g_a4 := sG5 _ _ g_a4
    clear hG5 sG5 n_a5
    refine ⟨ll20 (by show 0 ≤ 20; decide), fun a6 n_a6 => ?_⟩
    obtain ⟨G6, hG6⟩ : ∃ G, G = upd G5 a6 (.tup []) := ⟨_, rfl⟩
    rw [← hG6]
    have sG6 : Same G5 G6 := by rw [hG6]; exact same_upd n_a6
    have e_a6 : Dz K Z G6 (.ref a6) (PyData.tuple []) := by rw [hG6]; exact Dz.new_tup .nil hz n_a6
    have g_a6 : G6 a6 = some (.tup []) := by rw [hG6]; exact upd_same
    replace hz := hz.same sG6
    replace sm := sm.trans sG6
    replace e_a1 := e_a1.same sG6
    replace e_a2 := e_a2.same sG6
    replace e_a3 := e_a3.same sG6
    replace e_a4 := e_a4.same sG6
    replace e_a5 := e_a5.same sG6
    replace g_a1 := sG6 _ _ g_a1
    replace g_a2 := sG6 _ _ g_a2
    replace g_a3 := sG6 _ _ g_a3
    replace g_a4 := sG6 _ _ g_a4
    replace g_a5 := sG6 _ _ g_a5
    clear hG6 sG6 n_a6
    refine ⟨ll20 (by show 0 ≤ 20; decide), fun a7 n_a7 => ?_⟩
    obtain ⟨G7, hG7⟩ : ∃ G, G = upd G6 a7 (.tup []) := ⟨_, rfl⟩
    rw [← hG7]
    have sG7 : Same G6 G7 := by rw [hG7]; exact same_upd n_a7
    have e_a7 : Dz K Z G7 (.ref a7) (PyData.tuple []) := by rw [hG7]; exact Dz.new_tup .nil hz n_a7
    have g_a7 : G7 a7 = some (.tup []) := by rw [hG7]; exact upd_same
    replace hz := hz.same sG7
    replace sm := sm.trans sG7
    replace e_a1 := e_a1.same sG7
    replace e_a2 := e_a2.same sG7
    replace e_a3 := e_a3.same sG7
    replace e_a4 := e_a4.same sG7
    replace e_a5 := e_a5.same sG7
    replace e_a6 := e_a6.same sG7
    replace g_a1 := sG7 _ _ g_a1
    replace g_a2 := sG7 _ _ g_a2
    replace g_a3 := sG7 _ _ g_a3
    replace g_a4 := sG7 _ _ g_a4
    replace g_a5 := sG7 _ _ g_a5
    replace g_a6 := sG7 _ _ g_a6
    clear hG7 sG7 n_a7
    refine ⟨ll20 (by show 5 ≤ 20; decide), fun a8 n_a8 => ?_⟩
    obtain ⟨G8, hG8⟩ : ∃ G, G = upd G7 a8 (.tup [V.str "clash", V.int 0, V.int 0, V.ref a6, V.ref a7]) := ⟨_, rfl⟩
    rw [← hG8]
    have sG8 : Same G7 G8 := by rw [hG8]; exact same_upd n_a8
    have e_a8 : Dz K Z G8 (.ref a8) (PyData.tuple [PyData.str "clash", PyData.int 0, PyData.int 0, (PyData.tuple []), (PyData.tuple [])]) := by rw [hG8]; exact Dz.new_tup (.cons (.str _) (.cons (.int _) (.cons (.int _) (.cons e_a6 (.cons e_a7 .nil))))) hz n_a8
    have g_a8 : G8 a8 = some (.tup [V.str "clash", V.int 0, V.int 0, V.ref a6, V.ref a7]) := by rw [hG8]; exact upd_same
    replace hz := hz.same sG8
    replace sm := sm.trans sG8
    replace e_a1 := e_a1.same sG8
    replace e_a2 := e_a2.same sG8
    replace e_a3 := e_a3.same sG8
    replace e_a4 := e_a4.same sG8
    replace e_a5 := e_a5.same sG8
    replace e_a6 := e_a6.same sG8
    replace e_a7 := e_a7.same sG8
    replace g_a1 := sG8 _ _ g_a1
    replace g_a2 := sG8 _ _ g_a2
    replace g_a3 := sG8 _ _ g_a3
    replace g_a4 := sG8 _ _ g_a4
    replace g_a5 := sG8 _ _ g_a5
    replace g_a6 := sG8 _ _ g_a6
    replace g_a7 := sG8 _ _ g_a7
    clear hG8 sG8 n_a8
    refine ⟨_, rfl, ll20 (by show 13 ≤ 20; decide), fun a9 n_a9 => ?_⟩
    obtain ⟨G9, hG9⟩ : ∃ G, G = upd G8 a9 (.lst [V.non, V.int 0, V.int 1, V.bl true, V.str "a\n", V.ref a1, V.ref a2, V.ref a3, V.ref a4, V.ref a5, V.ref a8, V.int (-1), V.int 61]) := ⟨_, rfl⟩
    rw [← hG9]
    have sG9 : Same G8 G9 := by rw [hG9]; exact same_upd n_a9
    have e_a9 : Dz K Z G9 (.ref a9) (PyData.list [PyData.none, PyData.int 0, PyData.int 1, PyData.bool true, PyData.str "a\n", (PyData.list [PyData.str "a"]), (PyData.tuple []), (PyData.list []), (PyData.dict []), (PyData.tuple [PyData.str "clash"]), (PyData.tuple [PyData.str "clash", PyData.int 0, PyData.int 0, (PyData.tuple []), (PyData.tuple [])]), PyData.int (-1), PyData.int 61]) := by rw [hG9]; exact Dz.new_lst (.cons .non (.cons (.int _) (.cons (.int _) (.cons (.bl _) (.cons (.str _) (.cons e_a1 (.cons e_a2 (.cons e_a3 (.cons e_a4 (.cons e_a5 (.cons e_a8 (.cons (.int _) (.cons (.int _) .nil))))))))))))) hz n_a9
    have g_a9 : G9 a9 = some (.lst [V.non, V.int 0, V.int 1, V.bl true, V.str "a\n", V.ref a1, V.ref a2, V.ref a3, V.ref a4, V.ref a5, V.ref a8, V.int (-1), V.int 61]) := by rw [hG9]; exact upd_same
    replace hz := hz.same sG9
    replace sm := sm.trans sG9
    replace e_a1 := e_a1.same sG9
    replace e_a2 := e_a2.same sG9
    replace e_a3 := e_a3.same sG9
    replace e_a4 := e_a4.same sG9
    replace e_a5 := e_a5.same sG9
    replace e_a6 := e_a6.same sG9
    replace e_a7 := e_a7.same sG9
    replace e_a8 := e_a8.same sG9
    replace g_a1 := sG9 _ _ g_a1
    replace g_a2 := sG9 _ _ g_a2
    replace g_a3 := sG9 _ _ g_a3
    replace g_a4 := sG9 _ _ g_a4
    replace g_a5 := sG9 _ _ g_a5
    replace g_a6 := sG9 _ _ g_a6
    replace g_a7 := sG9 _ _ g_a7
    replace g_a8 := sG9 _ _ g_a8
    clear hG9 sG9 n_a9
    refine ⟨_, rfl, ll20 (by show 1 ≤ 20; decide), fun a10 n_a10 => ?_⟩
    obtain ⟨G10, hG10⟩ : ∃ G, G = upd G9 a10 (.tup [V.str "a"]) := ⟨_, rfl⟩
    rw [← hG10]
    have sG10 : Same G9 G10 := by rw [hG10]; exact same_upd n_a10
    have e_a10 : Dz K Z G10 (.ref a10) (PyData.tuple [PyData.str "a"]) := by rw [hG10]; exact Dz.new_tup (.cons (.str _) .nil) hz n_a10
    have g_a10 : G10 a10 = some (.tup [V.str "a"]) := by rw [hG10]; exact upd_same
    replace hz := hz.same sG10
    replace sm := sm.trans sG10
    replace e_a1 := e_a1.same sG10
    replace e_a2 := e_a2.same sG10
    replace e_a3 := e_a3.same sG10
    replace e_a4 := e_a4.same sG10
    replace e_a5 := e_a5.same sG10
    replace e_a6 := e_a6.same sG10
    replace e_a7 := e_a7.same sG10
    replace e_a8 := e_a8.same sG10
    replace e_a9 := e_a9.same sG10
    replace g_a1 := sG10 _ _ g_a1
    replace g_a2 := sG10 _ _ g_a2
    replace g_a3 := sG10 _ _ g_a3
    replace g_a4 := sG10 _ _ g_a4
    replace g_a5 := sG10 _ _ g_a5
    replace g_a6 := sG10 _ _ g_a6
    replace g_a7 := sG10 _ _ g_a7
    replace g_a8 := sG10 _ _ g_a8
    replace g_a9 := sG10 _ _ g_a9
    clear hG10 sG10 n_a10
    refine ⟨ll20 (by show 1 ≤ 20; decide), fun a11 n_a11 => ?_⟩
    obtain ⟨G11, hG11⟩ : ∃ G, G = upd G10 a11 (.tup [V.str "a\n"]) := ⟨_, rfl⟩
    rw [← hG11]
    have sG11 : Same G10 G11 := by rw [hG11]; exact same_upd n_a11
    have e_a11 : Dz K Z G11 (.ref a11) (PyData.tuple [PyData.str "a\n"]) := by rw [hG11]; exact Dz.new_tup (.cons (.str _) .nil) hz n_a11
    have g_a11 : G11 a11 = some (.tup [V.str "a\n"]) := by rw [hG11]; exact upd_same
    replace hz := hz.same sG11
    replace sm := sm.trans sG11
    replace e_a1 := e_a1.same sG11
    replace e_a2 := e_a2.same sG11
    replace e_a3 := e_a3.same sG11
    replace e_a4 := e_a4.same sG11
    replace e_a5 := e_a5.same sG11
    replace e_a6 := e_a6.same sG11
    replace e_a7 := e_a7.same sG11
    replace e_a8 := e_a8.same sG11
    replace e_a9 := e_a9.same sG11
    replace e_a10 := e_a10.same sG11
    replace g_a1 := sG11 _ _ g_a1
    replace g_a2 := sG11 _ _ g_a2
    replace g_a3 := sG11 _ _ g_a3
    replace g_a4 := sG11 _ _ g_a4
    replace g_a5 := sG11 _ _ g_a5
    replace g_a6 := sG11 _ _ g_a6
    replace g_a7 := sG11 _ _ g_a7
    replace g_a8 := sG11 _ _ g_a8
    replace g_a9 := sG11 _ _ g_a9
    replace g_a10 := sG11 _ _ g_a10
    clear hG11 sG11 n_a11
    refine ⟨ll20 (by show 1 ≤ 20; decide), fun a12 n_a12 => ?_⟩
    obtain ⟨G12, hG12⟩ : ∃ G, G = upd G11 a12 (.tup [V.str "a"]) := ⟨_, rfl⟩
    rw [← hG12]
    have sG12 : Same G11 G12 := by rw [hG12]; exact same_upd n_a12
    have e_a12 : Dz K Z G12 (.ref a12) (PyData.tuple [PyData.str "a"]) := by rw [hG12]; exact Dz.new_tup (.cons (.str _) .nil) hz n_a12
    have g_a12 : G12 a12 = some (.tup [V.str "a"]) := by rw [hG12]; exact upd_same
    replace hz := hz.same sG12
    replace sm := sm.trans sG12
    replace e_a1 := e_a1.same sG12
    replace e_a2 := e_a2.same sG12
    replace e_a3 := e_a3.same sG12
    replace e_a4 := e_a4.same sG12
    replace e_a5 := e_a5.same sG12
    replace e_a6 := e_a6.same sG12
    replace e_a7 := e_a7.same sG12
    replace e_a8 := e_a8.same sG12
    replace e_a9 := e_a9.same sG12
    replace e_a10 := e_a10.same sG12
    replace e_a11 := e_a11.same sG12
    replace g_a1 := sG12 _ _ g_a1
    replace g_a2 := sG12 _ _ g_a2
    replace g_a3 := sG12 _ _ g_a3
    replace g_a4 := sG12 _ _ g_a4
    replace g_a5 := sG12 _ _ g_a5
    replace g_a6 := sG12 _ _ g_a6
    replace g_a7 := sG12 _ _ g_a7
    replace g_a8 := sG12 _ _ g_a8
    replace g_a9 := sG12 _ _ g_a9
    replace g_a10 := sG12 _ _ g_a10
    replace g_a11 := sG12 _ _ g_a11
    clear hG12 sG12 n_a12
    refine ⟨_, _, _, rfl, rfl, SqT.of g_a12, by decide, by decide, by decide, by decide, fun a13 n_a13 => ?_⟩
    rw [show (List.replicate (60 : Int).toNat [V.str "a"]).flatten = List.replicate 60 (V.str "a") from rfl]
    obtain ⟨G13, hG13⟩ : ∃ G, G = upd G12 a13 (.tup (List.replicate 60 (V.str "a"))) := ⟨_, rfl⟩
    rw [← hG13]
    have sG13 : Same G12 G13 := by rw [hG13]; exact same_upd n_a13
    have e_a13 : Dz K Z G13 (.ref a13) (PyData.tuple (List.replicate 60 (PyData.str "a"))) := by rw [hG13]; exact Dz.new_tup (DqAll.rep (.str _) _) hz n_a13
    have g_a13 : G13 a13 = some (.tup (List.replicate 60 (V.str "a"))) := by rw [hG13]; exact upd_same
    replace hz := hz.same sG13
    replace sm := sm.trans sG13
    replace e_a1 := e_a1.same sG13
    replace e_a2 := e_a2.same sG13
    replace e_a3 := e_a3.same sG13
    replace e_a4 := e_a4.same sG13
    replace e_a5 := e_a5.same sG13
    replace e_a6 := e_a6.same sG13
    replace e_a7 := e_a7.same sG13
    replace e_a8 := e_a8.same sG13
    replace e_a9 := e_a9.same sG13
    replace e_a10 := e_a10.same sG13
    replace e_a11 := e_a11.same sG13
    replace e_a12 := e_a12.same sG13
    replace g_a1 := sG13 _ _ g_a1
    replace g_a2 := sG13 _ _ g_a2
    replace g_a3 := sG13 _ _ g_a3
    replace g_a4 := sG13 _ _ g_a4
    replace g_a5 := sG13 _ _ g_a5
    replace g_a6 := sG13 _ _ g_a6
    replace g_a7 := sG13 _ _ g_a7
    replace g_a8 := sG13 _ _ g_a8
    replace g_a9 := sG13 _ _ g_a9
    replace g_a10 := sG13 _ _ g_a10
    replace g_a11 := sG13 _ _ g_a11
    replace g_a12 := sG13 _ _ g_a12
    clear hG13 sG13 n_a13
    refine ⟨ll20 (by show 1 ≤ 20; decide), fun a14 n_a14 => ?_⟩
    obtain ⟨G14, hG14⟩ : ∃ G, G = upd G13 a14 (.tup [V.str "a"]) := ⟨_, rfl⟩
    rw [← hG14]
    have sG14 : Same G13 G14 := by rw [hG14]; exact same_upd n_a14
    have e_a14 : Dz K Z G14 (.ref a14) (PyData.tuple [PyData.str "a"]) := by rw [hG14]; exact Dz.new_tup (.cons (.str _) .nil) hz n_a14
    have g_a14 : G14 a14 = some (.tup [V.str "a"]) := by rw [hG14]; exact upd_same
    replace hz := hz.same sG14
    replace sm := sm.trans sG14
    replace e_a1 := e_a1.same sG14
    replace e_a2 := e_a2.same sG14
    replace e_a3 := e_a3.same sG14
    replace e_a4 := e_a4.same sG14
    replace e_a5 := e_a5.same sG14
    replace e_a6 := e_a6.same sG14
    replace e_a7 := e_a7.same sG14
    replace e_a8 := e_a8.same sG14
    replace e_a9 := e_a9.same sG14
    replace e_a10 := e_a10.same sG14
    replace e_a11 := e_a11.same sG14
    replace e_a12 := e_a12.same sG14
    replace e_a13 := e_a13.same sG14
    replace g_a1 := sG14 _ _ g_a1
    replace g_a2 := sG14 _ _ g_a2
    replace g_a3 := sG14 _ _ g_a3
    replace g_a4 := sG14 _ _ g_a4
    replace g_a5 := sG14 _ _ g_a5
    replace g_a6 := sG14 _ _ g_a6
    replace g_a7 := sG14 _ _ g_a7
    replace g_a8 := sG14 _ _ g_a8
    replace g_a9 := sG14 _ _ g_a9
    replace g_a10 := sG14 _ _ g_a10
    replace g_a11 := sG14 _ _ g_a11
    replace g_a12 := sG14 _ _ g_a12
    replace g_a13 := sG14 _ _ g_a13
    clear hG14 sG14 n_a14
    refine ⟨_, _, _, rfl, rfl, SqT.of g_a14, by decide, by decide, by decide, by decide, fun a15 n_a15 => ?_⟩
    rw [show (List.replicate (61 : Int).toNat [V.str "a"]).flatten = List.replicate 61 (V.str "a") from rfl]
    obtain ⟨G15, hG15⟩ : ∃ G, G = upd G14 a15 (.tup (List.replicate 61 (V.str "a"))) := ⟨_, rfl⟩
    rw [← hG15]
    have sG15 : Same G14 G15 := by rw [hG15]; exact same_upd n_a15
    have e_a15 : Dz K Z G15 (.ref a15) (PyData.tuple (List.replicate 61 (PyData.str "a"))) := by rw [hG15]; exact Dz.new_tup (DqAll.rep (.str _) _) hz n_a15
    have g_a15 : G15 a15 = some (.tup (List.replicate 61 (V.str "a"))) := by rw [hG15]; exact upd_same
    replace hz := hz.same sG15
    replace sm := sm.trans sG15
    replace e_a1 := e_a1.same sG15
    replace e_a2 := e_a2.same sG15
    replace e_a3 := e_a3.same sG15
    replace e_a4 := e_a4.same sG15
    replace e_a5 := e_a5.same sG15
    replace e_a6 := e_a6.same sG15
    replace e_a7 := e_a7.same sG15
    replace e_a8 := e_a8.same sG15
    replace e_a9 := e_a9.same sG15
    replace e_a10 := e_a10.same sG15
    replace e_a11 := e_a11.same sG15
    replace e_a12 := e_a12.same sG15
    replace e_a13 := e_a13.same sG15
    replace e_a14 := e_a14.same sG15
    replace g_a1 := sG15 _ _ g_a1
    replace g_a2 := sG15 _ _ g_a2
    replace g_a3 := sG15 _ _ g_a3
    replace g_a4 := sG15 _ _ g_a4
    replace g_a5 := sG15 _ _ g_a5
    replace g_a6 := sG15 _ _ g_a6
    replace g_a7 := sG15 _ _ g_a7
    replace g_a8 := sG15 _ _ g_a8
    replace g_a9 := sG15 _ _ g_a9
    replace g_a10 := sG15 _ _ g_a10
    replace g_a11 := sG15 _ _ g_a11
    replace g_a12 := sG15 _ _ g_a12
    replace g_a13 := sG15 _ _ g_a13
    replace g_a14 := sG15 _ _ g_a14
    clear hG15 sG15 n_a15
    refine ⟨ll20 (by show 1 ≤ 20; decide), fun a16 n_a16 => ?_⟩
    obtain ⟨G16, hG16⟩ : ∃ G, G = upd G15 a16 (.tup [V.int 1]) := ⟨_, rfl⟩
    rw [← hG16]
    have sG16 : Same G15 G16 := by rw [hG16]; exact same_upd n_a16
    have e_a16 : Dz K Z G16 (.ref a16) (PyData.tuple [PyData.int 1]) := by rw [hG16]; exact Dz.new_tup (.cons (.int _) .nil) hz n_a16
    have g_a16 : G16 a16 = some (.tup [V.int 1]) := by rw [hG16]; exact upd_same
    replace hz := hz.same sG16
    replace sm := sm.trans sG16
    replace e_a1 := e_a1.same sG16
    replace e_a2 := e_a2.same sG16
    replace e_a3 := e_a3.same sG16
    replace e_a4 := e_a4.same sG16
    replace e_a5 := e_a5.same sG16
    replace e_a6 := e_a6.same sG16
    replace e_a7 := e_a7.same sG16
    replace e_a8 := e_a8.same sG16
    replace e_a9 := e_a9.same sG16
    replace e_a10 := e_a10.same sG16
    replace e_a11 := e_a11.same sG16
    replace e_a12 := e_a12.same sG16
    replace e_a13 := e_a13.same sG16
    replace e_a14 := e_a14.same sG16
    replace e_a15 := e_a15.same sG16
    replace g_a1 := sG16 _ _ g_a1
    replace g_a2 := sG16 _ _ g_a2
    replace g_a3 := sG16 _ _ g_a3
    replace g_a4 := sG16 _ _ g_a4
    replace g_a5 := sG16 _ _ g_a5
    replace g_a6 := sG16 _ _ g_a6
    replace g_a7 := sG16 _ _ g_a7
    replace g_a8 := sG16 _ _ g_a8
    replace g_a9 := sG16 _ _ g_a9
    replace g_a10 := sG16 _ _ g_a10
    replace g_a11 := sG16 _ _ g_a11
    replace g_a12 := sG16 _ _ g_a12
    replace g_a13 := sG16 _ _ g_a13
    replace g_a14 := sG16 _ _ g_a14
    replace g_a15 := sG16 _ _ g_a15
    clear hG16 sG16 n_a16
    refine ⟨ll20 (by show 0 ≤ 20; decide), fun a17 n_a17 => ?_⟩
    obtain ⟨G17, hG17⟩ : ∃ G, G = upd G16 a17 (.tup []) := ⟨_, rfl⟩
    rw [← hG17]
    have sG17 : Same G16 G17 := by rw [hG17]; exact same_upd n_a17
    have e_a17 : Dz K Z G17 (.ref a17) (PyData.tuple []) := by rw [hG17]; exact Dz.new_tup .nil hz n_a17
    have g_a17 : G17 a17 = some (.tup []) := by rw [hG17]; exact upd_same
    replace hz := hz.same sG17
    replace sm := sm.trans sG17
    replace e_a1 := e_a1.same sG17
    replace e_a2 := e_a2.same sG17
    replace e_a3 := e_a3.same sG17
    replace e_a4 := e_a4.same sG17
    replace e_a5 := e_a5.same sG17
    replace e_a6 := e_a6.same sG17
    replace e_a7 := e_a7.same sG17
    replace e_a8 := e_a8.same sG17
    replace e_a9 := e_a9.same sG17
    replace e_a10 := e_a10.same sG17
    replace e_a11 := e_a11.same sG17
    replace e_a12 := e_a12.same sG17
    replace e_a13 := e_a13.same sG17
    replace e_a14 := e_a14.same sG17
    replace e_a15 := e_a15.same sG17
    replace e_a16 := e_a16.same sG17
    replace g_a1 := sG17 _ _ g_a1
    replace g_a2 := sG17 _ _ g_a2
    replace g_a3 := sG17 _ _ g_a3
    replace g_a4 := sG17 _ _ g_a4
    replace g_a5 := sG17 _ _ g_a5
    replace g_a6 := sG17 _ _ g_a6
    replace g_a7 := sG17 _ _ g_a7
    replace g_a8 := sG17 _ _ g_a8
    replace g_a9 := sG17 _ _ g_a9
    replace g_a10 := sG17 _ _ g_a10
    replace g_a11 := sG17 _ _ g_a11
    replace g_a12 := sG17 _ _ g_a12
    replace g_a13 := sG17 _ _ g_a13
    replace g_a14 := sG17 _ _ g_a14
    replace g_a15 := sG17 _ _ g_a15
    replace g_a16 := sG17 _ _ g_a16
    clear hG17 sG17 n_a17
    refine ⟨ll20 (by show 0 ≤ 20; decide), fun a18 n_a18 => ?_⟩
    obtain ⟨G18, hG18⟩ : ∃ G, G = upd G17 a18 (.tup []) := ⟨_, rfl⟩
    rw [← hG18]
    have sG18 : Same G17 G18 := by rw [hG18]; exact same_upd n_a18
    have e_a18 : Dz K Z G18 (.ref a18) (PyData.tuple []) := by rw [hG18]; exact Dz.new_tup .nil hz n_a18
    have g_a18 : G18 a18 = some (.tup []) := by rw [hG18]; exact upd_same
    replace hz := hz.same sG18
    replace sm := sm.trans sG18
    replace e_a1 := e_a1.same sG18
    replace e_a2 := e_a2.same sG18
    replace e_a3 := e_a3.same sG18
    replace e_a4 := e_a4.same sG18
    replace e_a5 := e_a5.same sG18
    replace e_a6 := e_a6.same sG18
    replace e_a7 := e_a7.same sG18
    replace e_a8 := e_a8.same sG18
    replace e_a9 := e_a9.same sG18
    replace e_a10 := e_a10.same sG18
    replace e_a11 := e_a11.same sG18
    replace e_a12 := e_a12.same sG18
    replace e_a13 := e_a13.same sG18
    replace e_a14 := e_a14.same sG18
    replace e_a15 := e_a15.same sG18
    replace e_a16 := e_a16.same sG18
    replace e_a17 := e_a17.same sG18
    replace g_a1 := sG18 _ _ g_a1
    replace g_a2 := sG18 _ _ g_a2
    replace g_a3 := sG18 _ _ g_a3
    replace g_a4 := sG18 _ _ g_a4
    replace g_a5 := sG18 _ _ g_a5
    replace g_a6 := sG18 _ _ g_a6
    replace g_a7 := sG18 _ _ g_a7
    replace g_a8 := sG18 _ _ g_a8
    replace g_a9 := sG18 _ _ g_a9
    replace g_a10 := sG18 _ _ g_a10
    replace g_a11 := sG18 _ _ g_a11
    replace g_a12 := sG18 _ _ g_a12
    replace g_a13 := sG18 _ _ g_a13
    replace g_a14 := sG18 _ _ g_a14
    replace g_a15 := sG18 _ _ g_a15
    replace g_a16 := sG18 _ _ g_a16
    replace g_a17 := sG18 _ _ g_a17
    clear hG18 sG18 n_a18
    refine ⟨ll20 (by show 5 ≤ 20; decide), fun a19 n_a19 => ?_⟩
    obtain ⟨G19, hG19⟩ : ∃ G, G = upd G18 a19 (.tup [V.str "x", V.int 0, V.int 0, V.ref a17, V.ref a18]) := ⟨_, rfl⟩
    rw [← hG19]
    have sG19 : Same G18 G19 := by rw [hG19]; exact same_upd n_a19
    have e_a19 : Dz K Z G19 (.ref a19) (PyData.tuple [PyData.str "x", PyData.int 0, PyData.int 0, (PyData.tuple []), (PyData.tuple [])]) := by rw [hG19]; exact Dz.new_tup (.cons (.str _) (.cons (.int _) (.cons (.int _) (.cons e_a17 (.cons e_a18 .nil))))) hz n_a19
    have g_a19 : G19 a19 = some (.tup [V.str "x", V.int 0, V.int 0, V.ref a17, V.ref a18]) := by rw [hG19]; exact upd_same
    replace hz := hz.same sG19
    replace sm := sm.trans sG19
    replace e_a1 := e_a1.same sG19
    replace e_a2 := e_a2.same sG19
    replace e_a3 := e_a3.same sG19
    replace e_a4 := e_a4.same sG19
    replace e_a5 := e_a5.same sG19
    replace e_a6 := e_a6.same sG19
    replace e_a7 := e_a7.same sG19
    replace e_a8 := e_a8.same sG19
    replace e_a9 := e_a9.same sG19
    replace e_a10 := e_a10.same sG19
    replace e_a11 := e_a11.same sG19
    replace e_a12 := e_a12.same sG19
    replace e_a13 := e_a13.same sG19
    replace e_a14 := e_a14.same sG19
    replace e_a15 := e_a15.same sG19
    replace e_a16 := e_a16.same sG19
    replace e_a17 := e_a17.same sG19
    replace e_a18 := e_a18.same sG19
    replace g_a1 := sG19 _ _ g_a1
    replace g_a2 := sG19 _ _ g_a2
    replace g_a3 := sG19 _ _ g_a3
    replace g_a4 := sG19 _ _ g_a4
    replace g_a5 := sG19 _ _ g_a5
    replace g_a6 := sG19 _ _ g_a6
    replace g_a7 := sG19 _ _ g_a7
    replace g_a8 := sG19 _ _ g_a8
    replace g_a9 := sG19 _ _ g_a9
    replace g_a10 := sG19 _ _ g_a10
    replace g_a11 := sG19 _ _ g_a11
    replace g_a12 := sG19 _ _ g_a12
    replace g_a13 := sG19 _ _ g_a13
    replace g_a14 := sG19 _ _ g_a14
    replace g_a15 := sG19 _ _ g_a15
    replace g_a16 := sG19 _ _ g_a16
    replace g_a17 := sG19 _ _ g_a17
    replace g_a18 := sG19 _ _ g_a18
    clear hG19 sG19 n_a19
    refine ⟨ll20 (by show 8 ≤ 20; decide), fun a20 n_a20 => ?_⟩
    obtain ⟨G20, hG20⟩ : ∃ G, G = upd G19 a20 (.lst [V.ref a10, V.str "one", V.ref a11, V.ref a13, V.ref a15, V.ref a16, V.ref a19, V.bl false]) := ⟨_, rfl⟩
    rw [← hG20]
    have sG20 : Same G19 G20 := by rw [hG20]; exact same_upd n_a20
    have e_a20 : Dz K Z G20 (.ref a20) (PyData.list [(PyData.tuple [PyData.str "a"]), PyData.str "one", (PyData.tuple [PyData.str "a\n"]), (PyData.tuple (List.replicate 60 (PyData.str "a"))), (PyData.tuple (List.replicate 61 (PyData.str "a"))), (PyData.tuple [PyData.int 1]), (PyData.tuple [PyData.str "x", PyData.int 0, PyData.int 0, (PyData.tuple []), (PyData.tuple [])]), PyData.bool false]) := by rw [hG20]; exact Dz.new_lst (.cons e_a10 (.cons (.str _) (.cons e_a11 (.cons e_a13 (.cons e_a15 (.cons e_a16 (.cons e_a19 (.cons (.bl _) .nil)))))))) hz n_a20
    have g_a20 : G20 a20 = some (.lst [V.ref a10, V.str "one", V.ref a11, V.ref a13, V.ref a15, V.ref a16, V.ref a19, V.bl false]) := by rw [hG20]; exact upd_same
    replace hz := hz.same sG20
    replace sm := sm.trans sG20
    replace e_a1 := e_a1.same sG20
    replace e_a2 := e_a2.same sG20
    replace e_a3 := e_a3.same sG20
    replace e_a4 := e_a4.same sG20
    replace e_a5 := e_a5.same sG20
    replace e_a6 := e_a6.same sG20
    replace e_a7 := e_a7.same sG20
    replace e_a8 := e_a8.same sG20
    replace e_a9 := e_a9.same sG20
    replace e_a10 := e_a10.same sG20
    replace e_a11 := e_a11.same sG20
    replace e_a12 := e_a12.same sG20
    replace e_a13 := e_a13.same sG20
    replace e_a14 := e_a14.same sG20
    replace e_a15 := e_a15.same sG20
    replace e_a16 := e_a16.same sG20
    replace e_a17 := e_a17.same sG20
    replace e_a18 := e_a18.same sG20
    replace e_a19 := e_a19.same sG20
    replace g_a1 := sG20 _ _ g_a1
    replace g_a2 := sG20 _ _ g_a2
    replace g_a3 := sG20 _ _ g_a3
    replace g_a4 := sG20 _ _ g_a4
    replace g_a5 := sG20 _ _ g_a5
    replace g_a6 := sG20 _ _ g_a6
    replace g_a7 := sG20 _ _ g_a7
    replace g_a8 := sG20 _ _ g_a8
    replace g_a9 := sG20 _ _ g_a9
    replace g_a10 := sG20 _ _ g_a10
    replace g_a11 := sG20 _ _ g_a11
    replace g_a12 := sG20 _ _ g_a12
    replace g_a13 := sG20 _ _ g_a13
    replace g_a14 := sG20 _ _ g_a14
    replace g_a15 := sG20 _ _ g_a15
    replace g_a16 := sG20 _ _ g_a16
    replace g_a17 := sG20 _ _ g_a17
    replace g_a18 := sG20 _ _ g_a18
    replace g_a19 := sG20 _ _ g_a19
    clear hG20 sG20 n_a20
    refine ⟨_, _, _, _, rfl, rfl, g_a9, g_a20, by show 13 + 8 ≤ sizeLine; decide, fun ll n_ll => ?_⟩
    refine ⟨_, rfl, _, rfl, p, ll, _, rfl, hz.pot.same (same_upd n_ll), upd_same, hz.pot.ne n_ll, by show 0 < 21; decide, by show 21 ≤ 1000; decide, fun x H1 hx hp1 b1 => ?_⟩
    have sl := sm.trans (same_upd (o := .lst ([V.non, V.int 0, V.int 1, V.bl true, V.str "a\n", V.ref a1, V.ref a2, V.ref a3, V.ref a4, V.ref a5, V.ref a8, V.int (-1), V.int 61] ++ [V.ref a10, V.str "one", V.ref a11, V.ref a13, V.ref a15, V.ref a16, V.ref a19, V.bl false])) n_ll)
    have bb : But p H H1 := (Same.but sl).trans b1
    have hzl := hz.same (same_upd (o := .lst ([V.non, V.int 0, V.int 1, V.bl true, V.str "a\n", V.ref a1, V.ref a2, V.ref a3, V.ref a4, V.ref a5, V.ref a8, V.int (-1), V.int 61] ++ [V.ref a10, V.str "one", V.ref a11, V.ref a13, V.ref a15, V.ref a16, V.ref a19, V.bl false])) n_ll)
    simp only [List.cons_append, List.nil_append, List.mem_cons, List.not_mem_nil, or_false] at hx
    rcases hx with rfl | rfl | rfl | rfl | rfl | rfl | rfl | rfl | rfl | rfl | rfl | rfl | rfl | rfl | rfl | rfl | rfl | rfl | rfl | rfl | rfl
    · exact z _ PyData.none H1 hp1 bb .non (by simp [oddL])
    · exact z _ (PyData.int 0) H1 hp1 bb (.int _) (by simp [oddL])
    · exact z _ (PyData.int 1) H1 hp1 bb (.int _) (by simp [oddL])
    · exact z _ (PyData.bool true) H1 hp1 bb (.bl _) (by simp [oddL])
    · exact z _ (PyData.str "a\n") H1 hp1 bb (.str _) (by simp [oddL])
    · exact z _ (PyData.list [PyData.str "a"]) H1 hp1 bb (Dz.step (e_a1.same (same_upd n_ll)) hzl b1) (by simp [oddL])
    · exact z _ (PyData.tuple []) H1 hp1 bb (Dz.step (e_a2.same (same_upd n_ll)) hzl b1) (by simp [oddL])
    · exact z _ (PyData.list []) H1 hp1 bb (Dz.step (e_a3.same (same_upd n_ll)) hzl b1) (by simp [oddL])
    · exact z _ (PyData.dict []) H1 hp1 bb (Dz.step (e_a4.same (same_upd n_ll)) hzl b1) (by simp [oddL])
    · exact z _ (PyData.tuple [PyData.str "clash"]) H1 hp1 bb (Dz.step (e_a5.same (same_upd n_ll)) hzl b1) (by simp [oddL])
    · exact z _ (PyData.tuple [PyData.str "clash", PyData.int 0, PyData.int 0, (PyData.tuple []), (PyData.tuple [])]) H1 hp1 bb (Dz.step (e_a8.same (same_upd n_ll)) hzl b1) (by simp [oddL])
    · exact z _ (PyData.int (-1)) H1 hp1 bb (.int _) (by simp [oddL])
    · exact z _ (PyData.int 61) H1 hp1 bb (.int _) (by simp [oddL])
    · exact z _ (PyData.tuple [PyData.str "a"]) H1 hp1 bb (Dz.step (e_a10.same (same_upd n_ll)) hzl b1) (by simp [oddL])
    · exact z _ (PyData.str "one") H1 hp1 bb (.str _) (by simp [oddL])
    · exact z _ (PyData.tuple [PyData.str "a\n"]) H1 hp1 bb (Dz.step (e_a11.same (same_upd n_ll)) hzl b1) (by simp [oddL])
    · exact z _ (PyData.tuple (List.replicate 60 (PyData.str "a"))) H1 hp1 bb (Dz.step (e_a13.same (same_upd n_ll)) hzl b1) (by simp [oddL])
    · exact z _ (PyData.tuple (List.replicate 61 (PyData.str "a"))) H1 hp1 bb (Dz.step (e_a15.same (same_upd n_ll)) hzl b1) (by simp [oddL])
    · exact z _ (PyData.tuple [PyData.int 1]) H1 hp1 bb (Dz.step (e_a16.same (same_upd n_ll)) hzl b1) (by simp [oddL])
    · exact z _ (PyData.tuple [PyData.str "x", PyData.int 0, PyData.int 0, (PyData.tuple []), (PyData.tuple [])]) H1 hp1 bb (Dz.step (e_a19.same (same_upd n_ll)) hzl b1) (by simp [oddL])
    · exact z _ (PyData.bool false) H1 hp1 bb (.bl _) (by simp [oddL])
end
end K64
/-! Slices and sums of tuples of data. -/
namespace XR
open PySem L2
def cutD (ds : List PyData) (lo hi : Option Int) : List PyData := (ds.drop (HT.sIx ds.length 0 lo)).take (HT.sIx ds.length ds.length hi - HT.sIx ds.length 0 lo)
theorem cutD_mem {ds : List PyData} {lo hi : Option Int} {e : PyData} (h : e ∈ cutD ds lo hi) : e ∈ ds := List.mem_of_mem_drop (List.mem_of_mem_take h)
theorem cutD_len (ds : List PyData) (lo hi : Option Int) : (cutD ds lo hi).length ≤ ds.length := by
  unfold cutD
  rw [List.length_take, List.length_drop]
  omega
theorem cutD_to {ds : List PyData} {n : Nat} : cutD ds none (some (n : Int)) = ds.take n := by
  unfold cutD
  rw [sIx_nat', sIx_none', List.drop_zero, Nat.sub_zero]
  rcases Nat.le_total n ds.length with h | h
  · rw [Nat.min_eq_left h]
  · rw [Nat.min_eq_right h, List.take_length, List.take_of_length_le h]
where
  sIx_nat' {n d k : Nat} : HT.sIx n d (some (k : Int)) = min k n := HT.sIx_nat n d k
  sIx_none' {n d : Nat} : HT.sIx n d none = d := rfl
theorem cutD_from {ds : List PyData} {n : Nat} : (cutD ds (some (n : Int)) none).length = ds.length - n := by
  unfold cutD
  rw [HT.sIx_nat, HT.sIx_none, List.length_take, List.length_drop]
  omega
theorem DqAll.take {K : PySem.W.Frag} {H : Hp} : ∀ {xs : List V} {ds : List PyData} (n : Nat), DqAll K H xs ds → DqAll K H (xs.take n) (ds.take n)
  | _, _, 0, _ => by rw [List.take_zero, List.take_zero]; exact .nil
  | _, _, n + 1, .nil => by rw [List.take_nil, List.take_nil]; exact .nil
  | _, _, n + 1, .cons a b => by rw [List.take_succ_cons, List.take_succ_cons]; exact .cons a (b.take n)
theorem DqAll.drop {K : PySem.W.Frag} {H : Hp} : ∀ {xs : List V} {ds : List PyData} (n : Nat), DqAll K H xs ds → DqAll K H (xs.drop n) (ds.drop n)
  | _, _, 0, h => h
  | _, _, n + 1, .nil => by rw [List.drop_nil, List.drop_nil]; exact .nil
  | _, _, n + 1, .cons a b => by rw [List.drop_succ_cons, List.drop_succ_cons]; exact b.drop n
section
variable {K : PySem.W.Frag} {Z : List Addr} {p : Addr} {H : Hp} {Q : VK}
theorem Dz.tup_ref {x : V} {ds : List PyData} (h : Dz K Z H x (.tuple ds)) : ∃ a xs, x = .ref a ∧ SqT K H a xs ∧ DzAll K Z H xs ds := by
  cases h with
  | tup h1 h2 => exact ⟨_, _, rfl, XR.Same.tup cut_sub h1, h2⟩
theorem sl_dz {x : V} {ds : List PyData} {lo hi : Option Int} (hz : PZ Z p H) (h : Dz K Z H x (.tuple ds)) (z : ∀ t H', Same H H' → Dz K Z H' (.ref t) (.tuple (cutD ds lo hi)) → Q (.ref t) H') : rSlA K x lo hi H Q := by
  cases h with
  | @tup a xs ds h1 h2 =>
    have hl := h2.length
    refine ⟨a, xs, rfl, XR.Same.tup cut_sub h1, fun hw => ?_, fun _ t nt => ?_⟩
    · refine z a H (fun _ _ e => e) ?_
      have e : cutD ds lo hi = ds := by
        unfold cutD
        rw [← hl, hw.1, hw.2, List.drop_zero, Nat.sub_zero, hl, List.take_length]
      rw [e]
      exact .tup h1 h2
    · refine z t _ (same_upd nt) (Dz.new_tup ?_ hz nt)
      unfold cutV cutD
      rw [← hl]
      exact DqAll.take _ (DqAll.drop _ h2)
theorem cat_dz {x y : V} {ds es : List PyData} (hz : PZ Z p H) (h : Dz K Z H x (.tuple ds)) (k : Dz K Z H y (.tuple es)) (n : ds.length + es.length ≤ sizeLine) (z : ∀ t H', Same H H' → Dz K Z H' (.ref t) (.tuple (ds ++ es)) → Q (.ref t) H') : rCatA K x y H Q := by
  have h' := h
  have k' := k
  cases h with
  | @tup a xs ds h1 h2 =>
    cases k with
    | @tup b ys es k1 k2 =>
      have hl := h2.length
      have kl := k2.length
      refine ⟨a, b, xs, ys, rfl, rfl, XR.Same.tup cut_sub h1, XR.Same.tup cut_sub k1, by omega, fun e => ?_, fun _ e => ?_, fun _ _ t nt => ?_⟩
      · have e' : ds = [] := List.eq_nil_of_length_eq_zero (by rw [← hl, e]; rfl)
        refine z b H (fun _ _ e => e) ?_
        rw [e', List.nil_append]
        exact k'
      · have e' : es = [] := List.eq_nil_of_length_eq_zero (by rw [← kl, e]; rfl)
        refine z a H (fun _ _ e => e) ?_
        rw [e', List.append_nil]
        exact h'
      · exact z t _ (same_upd nt) (Dz.new_tup (DqAll.append h2 k2) hz nt)
end
/-- t[:a] + (e,) + t[a+1:] -/
def tSplice (K : PySem.W.Frag) (ia : Nat) (te : TE) : TE := tOp (rCatA K) (tOp (rCatA K) (tSl (rSlA K) (tVar 1) tNoPart (tPart (tVar ia))) (tTup (tCons te tNil))) (tSl (rSlA K) (tVar 1) (tPart (tOp rAdd (tVar ia) (tC (.int 1)))) tNoPart)
theorem rd_splice {K : PySem.W.Frag} {Z : List Addr} {p : Addr} {H : Hp} {Q : VK} {te : TE} {σ : St} {x : V} {ds : List PyData} {a ia : Nat} {G : PyData → Prop} (hz : PZ Z p H) (hx : Dz K Z H x (.tuple ds)) (hl : ds.length ≤ 1000) (ha : a < ds.length) (e1 : σ[1]? = some (some x)) (e2 : σ[ia]? = some (some (.int (a : Nat))))
    (hte : ∀ H1 (Q1 : VK), Same H H1 → (∀ y e H2, PotAt H2 p → But p H1 H2 → Dz K Z H2 y e → G e → Q1 y H2) → te σ H1 Q1)
    (z : ∀ t H' es, PotAt H' p → But p H H' → Dz K Z H' (.ref t) (.tuple es) → es.length = ds.length → (∀ e ∈ es, e ∈ ds ∨ G e) → Q (.ref t) H') : tSplice K ia te σ H Q := by
  unfold tSplice
  refine ⟨_, e1, _, e2, _, rfl, ?_⟩
  refine sl_dz hz hx fun t1 H1 s1 h1 => ?_
  refine hte H1 _ s1 fun y e H2 hp2 b2 hy ge => ⟨ll20 (by show 1 ≤ 20; decide), fun u nu => ?_⟩
  have hz1 := hz.same s1
  have hz2 := hz1.step hp2 b2
  have su := same_upd (o := .tup [y]) nu
  have hz3 := hz2.same su
  have hu : Dz K Z (upd H2 u (.tup [y])) (.ref u) (.tuple [e]) := Dz.new_tup (.cons hy .nil) hz2 nu
  have h3 := (h1.step hz1 b2).same su
  have hx3 := ((hx.same s1).step hz1 b2).same su
  have l1 : (cutD ds none (some (a : Int))).length = a := by
    rw [cutD_to, List.length_take]; omega
  refine cat_dz hz3 h3 hu ?_ fun t4 H4 s4 h4 => ?_
  · rw [l1]
    exact Nat.le_trans (show a + 1 ≤ 1000 by omega) (by decide)
  refine ⟨_, e1, _, e2, _, _, rfl, rfl, _, rfl, ?_⟩
  have hz4 := hz3.same s4
  show rSlA K x (some ((a : Int) + 1)) none H4 (fun y H2 => rCatA K (.ref t4) y H2 Q)
  refine sl_dz hz4 (hx3.same s4) fun t5 H5 s5 h5 => ?_
  have hz5 := hz4.same s5
  have l2 : (cutD ds (some ((a : Int) + 1)) none).length = ds.length - (a + 1) := cutD_from (n := a + 1)
  refine cat_dz hz5 (h4.same s5) h5 ?_ fun t6 H6 s6 h6 => ?_
  · rw [List.length_append, l1, l2]
    exact Nat.le_trans (show a + 1 + (ds.length - (a + 1)) ≤ 1000 by omega) (by decide)
  have ss := su.trans (s4.trans (s5.trans s6))
  refine z t6 H6 _ (hp2.same ss) (((Same.but s1).trans b2).trans (Same.but ss)) h6 ?_ fun e' he' => ?_
  · rw [List.length_append, List.length_append, l1, l2]
    show a + 1 + (ds.length - (a + 1)) = ds.length
    omega
  · rcases List.mem_append.mp he' with he' | he'
    · rcases List.mem_append.mp he' with he' | he'
      · exact .inl (cutD_mem he')
      · rw [List.mem_singleton.mp he']; exact .inr ge
    · exact .inl (cutD_mem he')
end XR
/-! Bounds of what is bent. -/
namespace XR
open PySem L2
def shxB (n k : Nat) (d : PyData) : Bool := d.showable && (decide (d.shown.length ≤ n) && (decide (d.depth ≤ k) && decide (Asc d.shown)))
theorem shx_of {n k : Nat} {d : PyData} (h : shxB n k d = true) : Shx n k d := by
  unfold shxB at h
  simp only [Bool.and_eq_true, decide_eq_true_eq] at h
  exact ⟨⟨h.1, h.2.1, h.2.2.1⟩, h.2.2.2⟩
abbrev Lo (d : PyData) : Prop := Shx 8 2 d
def intB (j : Nat) : PyData → Bool
  | .int i => decide (-(1 + (j : Int)) ≤ i) && decide (i ≤ 61 + (j : Int))
  | _ => true
def tupItems : PyData → List PyData
  | .tuple ds => ds
  | _ => []
/-- part of a token -/
structure PartOk (j : Nat) (d : PyData) : Prop where
  sh : Shx 700 4 d
  n : (tupItems d).length ≤ 61 + j
  lo : ∀ f ∈ tupItems d, Lo f
  i : intB j d = true
structure TokOk (j : Nat) (d : PyData) : Prop where
  sh : Shx 5000 6 d
  p : (tupItems d).length = 5 → ∀ e ∈ tupItems d, PartOk j e
structure ValOk (j : Nat) (d : PyData) : Prop where
  sh : Shx 1000000 8 d
  n : (tupItems d).length ≤ 181
  t : ∀ e ∈ tupItems d, TokOk j e
theorem intB_le {j k : Nat} (h : j ≤ k) {d : PyData} (e : intB j d = true) : intB k d = true := by
  cases d with
  | int i =>
    have e' : (decide (-(1 + (j : Int)) ≤ i) && decide (i ≤ 61 + (j : Int))) = true := e
    rw [Bool.and_eq_true, decide_eq_true_eq, decide_eq_true_eq] at e'
    show (decide (-(1 + (k : Int)) ≤ i) && decide (i ≤ 61 + (k : Int))) = true
    rw [decide_eq_true (by omega), decide_eq_true (by omega)]
    rfl
  | _ => rfl
theorem PartOk.le {j k : Nat} (h : j ≤ k) {d : PyData} (e : PartOk j d) : PartOk k d := ⟨e.sh, Nat.le_trans e.n (by omega), e.lo, intB_le h e.i⟩
theorem TokOk.le {j k : Nat} (h : j ≤ k) {d : PyData} (e : TokOk j d) : TokOk k d := ⟨e.sh, fun l x hx => (e.p l x hx).le h⟩
theorem ValOk.le {j k : Nat} (h : j ≤ k) {d : PyData} (e : ValOk j d) : ValOk k d := ⟨e.sh, e.n, fun x hx => (e.t x hx).le h⟩
theorem rep_shx (m : Nat) (h : m ≤ 61) : Shx 400 3 (.tuple (List.replicate m (.str "a"))) :=
  (Shx.tuple (n := 3) (k := 1) (m := 61) (fun d hd => by rw [List.eq_of_mem_replicate hd]; exact shx_of (by decide +kernel)) (by rw [List.length_replicate]; exact h)).le (by decide) (by decide)
theorem odd_shx : ∀ d ∈ oddL, Shx 400 3 d := by
  intro d hd
  simp only [oddL, List.mem_cons, List.not_mem_nil, or_false] at hd
  rcases hd with rfl | rfl | rfl | rfl | rfl | rfl | rfl | rfl | rfl | rfl | rfl | rfl | rfl | rfl | rfl | rfl | rfl | rfl | rfl | rfl | rfl
  case inr.inr.inr.inr.inr.inr.inr.inr.inr.inr.inr.inr.inr.inr.inr.inr.inl => exact rep_shx 60 (by decide)
  case inr.inr.inr.inr.inr.inr.inr.inr.inr.inr.inr.inr.inr.inr.inr.inr.inr.inl => exact rep_shx 61 (by decide)
  all_goals exact shx_of (by decide +kernel)
theorem odd_n : ∀ d ∈ oddL, (tupItems d).length ≤ 61 := by decide +kernel
theorem odd_lo : ∀ d ∈ oddL, ((tupItems d).all (shxB 8 2)) = true := by decide +kernel
theorem odd_i : ∀ d ∈ oddL, intB 0 d = true := by decide +kernel
theorem lo_part {f : PyData} (h : Lo f) (n : tupItems f = []) (i : intB 0 f = true) : PartOk 0 f := ⟨h.le (by decide) (by decide), by rw [n]; exact Nat.zero_le _, fun g hg => (by rw [n] at hg; cases hg), i⟩
theorem odd_part {d : PyData} (h : d ∈ oddL) : PartOk 0 d :=
  ⟨(odd_shx d h).le (by decide) (by decide), Nat.le_trans (odd_n d h) (by decide), fun f hf => shx_of (List.all_eq_true.mp (odd_lo d h) f hf), odd_i d h⟩
theorem odd_items : ∀ d ∈ oddL, ((tupItems d).all fun e => (decide ((tupItems e).length = 0)) && intB 0 e) = true := by decide +kernel
theorem odd_tok {d : PyData} (h : d ∈ oddL) : TokOk 0 d :=
  ⟨(odd_shx d h).le (by decide) (by decide), fun _ e he => by
    have q := List.all_eq_true.mp (odd_items d h) e he
    rw [Bool.and_eq_true, decide_eq_true_eq] at q
    exact lo_part ((odd_part h).lo e he) (List.eq_nil_of_length_eq_zero q.1) q.2⟩
theorem lo_tok {f : PyData} (h : Lo f) (n : tupItems f = []) : TokOk 0 f := ⟨h.le (by decide) (by decide), fun l => by rw [n] at l; cases l⟩
theorem odd_val {d : PyData} (h : d ∈ oddL) : ValOk 0 d :=
  ⟨(odd_shx d h).le (by decide) (by decide), Nat.le_trans (odd_n d h) (by decide), fun e he => by
    have q := List.all_eq_true.mp (odd_items d h) e he
    rw [Bool.and_eq_true, decide_eq_true_eq] at q
    exact lo_tok ((odd_part h).lo e he) (List.eq_nil_of_length_eq_zero q.1)⟩
theorem nums_shx : ∀ i : Fin 70, shxB 8 1 (.int ((i : Nat) - 4 : Int)) = true := by decide +kernel
theorem int_shx {i : Int} (h : -4 ≤ i) (k : i ≤ 65) : Shx 8 1 (.int i) := by
  have e := nums_shx ⟨(i + 4).toNat, by omega⟩
  have q : (((⟨(i + 4).toNat, by omega⟩ : Fin 70) : Nat) - 4 : Int) = i := by show (((i + 4).toNat : Nat) : Int) - 4 = i; omega
  rw [q] at e
  exact shx_of e
theorem int_part {j : Nat} {i : Int} (hj : j ≤ 3) (h : -(1 + (j : Int)) ≤ i) (k : i ≤ 61 + (j : Int)) : PartOk j (.int i) :=
  ⟨(int_shx (by omega) (by omega)).le (by decide) (by decide), Nat.zero_le _, fun f hf => (nomatch hf), by show (decide _ && decide _) = true; rw [decide_eq_true h, decide_eq_true k]; rfl⟩
theorem wsL_shx : ∀ s ∈ wsL, shxB 8 1 (.str s) = true := by decide +kernel
theorem wsT_shx : ∀ s ∈ wsT, shxB 8 1 (.str s) = true := by decide +kernel
/-- a tuple of leaves -/
theorem tup_part {j : Nat} {fs : List PyData} (hj : j ≤ 3) (n : fs.length ≤ 61 + j) (h : ∀ f ∈ fs, Lo f) : PartOk j (.tuple fs) :=
  ⟨(Shx.tuple (m := 64) h (by omega)).le (by decide) (by decide), n, h, rfl⟩
theorem lst_part {j : Nat} {fs : List PyData} (hj : j ≤ 3) (n : fs.length ≤ 61 + j) (h : ∀ f ∈ fs, Lo f) : PartOk j (.list fs) :=
  ⟨(Shx.list (m := 64) h (by omega)).le (by decide) (by decide), Nat.zero_le _, fun f hf => (nomatch hf), rfl⟩
theorem tup_tok {j : Nat} {es : List PyData} (n : es.length ≤ 6) (h : ∀ e ∈ es, PartOk j e) : TokOk j (.tuple es) :=
  ⟨(Shx.tuple (m := 6) (fun e he => (h e he).sh) n).le (by decide) (by decide), fun _ e he => h e he⟩
theorem lst_tok {j : Nat} {es : List PyData} (n : es.length ≤ 6) (h : ∀ e ∈ es, PartOk j e) : TokOk j (.list es) :=
  ⟨(Shx.list (m := 6) (fun e he => (h e he).sh) n).le (by decide) (by decide), fun l => nomatch l⟩
theorem tup_val {j : Nat} {es : List PyData} (n : es.length ≤ 181) (h : ∀ e ∈ es, TokOk j e) : ValOk j (.tuple es) :=
  ⟨(Shx.tuple (m := 181) (fun e he => (h e he).sh) n).le (by decide) (by decide), n, h⟩
theorem lst_val {j : Nat} {es : List PyData} (n : es.length ≤ 181) (h : ∀ e ∈ es, TokOk j e) : ValOk j (.list es) :=
  ⟨(Shx.list (m := 181) (fun e he => (h e he).sh) n).le (by decide) (by decide), Nat.zero_le _, fun f hf => nomatch hf⟩
theorem ln_part {ss : List Str} (f : Few ss) : PartOk 0 (lnD ss) :=
  tup_part (by decide) (by rw [List.length_map]; have := f.1; omega) fun e he => by
    obtain ⟨s, hs, rfl⟩ := List.mem_map.mp he
    exact (shx_of (wsL_shx s (f.2 s hs))).le (by decide) (by decide)
theorem good_tok {d : PyData} (h : GoodTok d) : TokOk 0 d := by
  rcases h with ⟨s, hs, rfl⟩ | ⟨lo, hi, ss, ts, rfl, h1, h2, h3, f1, f2⟩
  · exact ⟨(shx_of (wsT_shx s hs)).le (by decide) (by decide), fun l => nomatch l⟩
  · refine tup_tok (by show 5 ≤ 6; decide) fun e he => ?_
    simp only [List.mem_cons, List.not_mem_nil, or_false] at he
    rcases he with rfl | rfl | rfl | rfl | rfl
    · exact lo_part (shx_of (by decide +kernel)) rfl rfl
    · exact int_part (by decide) (by omega) (by omega)
    · exact int_part (by decide) (by omega) (by omega)
    · exact ln_part f1
    · exact ln_part f2
theorem wsL_line : ∀ s ∈ wsL, isLine (.str s) = true := by decide +kernel
theorem wsT_line : ∀ s ∈ wsT, isLine (.str s) = true := by decide +kernel
theorem few_lines {ss : List Str} (f : Few ss) : linesB (lnD ss) = true := by
  unfold lnD
  rw [linesB_tup, List.length_map, decide_eq_true (show ss.length ≤ 60 by have := f.1; omega), List.all_map]
  exact List.all_eq_true.mpr fun s hs => wsL_line s (f.2 s hs)
theorem good_is {d : PyData} (h : GoodTok d) : tokB d = true := by
  unfold tokB
  rcases h with ⟨s, hs, rfl⟩ | ⟨lo, hi, ss, ts, rfl, h1, h2, h3, f1, f2⟩
  · rw [wsT_line s hs]; rfl
  · show (clashB (.tuple [.str "clash", .int lo, .int hi, lnD ss, lnD ts])) = true
    show (isClashWord (.str "clash") && ((decide (0 ≤ lo) && (decide (lo ≤ hi) && decide (hi ≤ 60))) && (linesB (lnD ss) && linesB (lnD ts)))) = true
    rw [few_lines f1, few_lines f2, decide_eq_true h1, decide_eq_true h2, decide_eq_true h3]
    decide
theorem good_swap {d : PyData} (h : GoodTok d) : GoodTok (swapD d) := by
  rcases h with ⟨s, hs, rfl⟩ | ⟨lo, hi, ss, ts, rfl, h1, h2, h3, f1, f2⟩
  · exact .inl ⟨s, hs, rfl⟩
  · exact .inr ⟨lo, hi, ts, ss, rfl, h1, h2, h3, f2, f1⟩
theorem swap_swap {d : PyData} (h : GoodTok d) : swapD (swapD d) = d := by
  rcases h with ⟨s, hs, rfl⟩ | ⟨lo, hi, ss, ts, rfl, h1, h2, h3, f1, f2⟩ <;> rfl
end XR
namespace XR
open PySem L2
def numL (l : List Nat) : List PyData := l.map fun i : Nat => PyData.int (i : Int)
/-- what is told of a value, one of three ways -/
def askD (way : Int) (d : PyData) : PyData :=
  if rowB d = false then .list [.str "none", .str d.shown, .bool true]
  else if way = 0 then .list [.str "told", .list (numL (places (tupItems d)))]
  else if way = 1 then .list [.str "told", .tuple ((tupItems d).map swapD)]
  else if places (tupItems d) = [] then .list [.str "told", .list (tupItems d)]
  else .list [.str "clashes", .tuple (numL (places (tupItems d))), .bool true]
def spTurned (K : PySem.W.Frag) : Sp := fun vs H Q _ => ∃ (a : Addr) (x0 x1 x2 x3 x4 : V), vs = [.ref a] ∧ SqT K H a [x0, x1, x2, x3, x4] ∧ ∀ t H', Same H H' → H t = none → H' t = some (.tup [x0, x1, x2, x4, x3]) → Q (.ref t) H'
def spAsk (K : PySem.W.Frag) : Sp := fun vs H Q _ => ∃ (x : V) (d : PyData) (way : Int), vs = [.int way, x] ∧ Dq K H x d ∧ ValOk 2 d ∧ ∀ t H', Same H H' → Dq K H' (.ref t) (askD way d) → Q (.ref t) H'
theorem dq_nums {K : PySem.W.Frag} {H : Hp} : ∀ l : List Nat, DqAll K H (plV l) (numL l)
  | [] => .nil
  | i :: l => .cons (.int _) (dq_nums l)
theorem dp_nums {K : PySem.W.Frag} {H : Hp} : ∀ l : List Nat, DpAll K H (plV l) (numL l)
  | [] => .nil
  | i :: l => .cons (.int _) (dp_nums l)
theorem lay_nums : ∀ l : List Nat, PyData.canLayAll0 (numL l) = true ∧ PyData.depthAll (numL l) ≤ 1
  | [] => ⟨by simp [numL, PyData.canLayAll0], by simp [numL, PyData.depthAll]⟩
  | j :: js => by
    obtain ⟨h1, h2⟩ := lay_nums js
    exact ⟨by show (PyData.canLay0 (.int _) && PyData.canLayAll0 (numL js)) = true; rw [h1]; simp [PyData.canLay0], by show max (PyData.depth (.int _)) (PyData.depthAll (numL js)) ≤ 1; simp only [PyData.depth]; omega⟩
theorem num_lay (l : List Nat) : SeqAt.shaped (.list (numL l)) = true := by
  obtain ⟨h1, h2⟩ := lay_nums l
  unfold SeqAt.shaped
  rw [Bool.and_eq_true]
  refine ⟨by simp only [PyData.canLay0, h1], ?_⟩
  rw [decide_eq_true_eq]
  have e : (PyData.list (numL l)).depth = PyData.depthAll (numL l) + 1 := by simp only [PyData.depth]
  omega
theorem eqv_nil (x : PyData) (xs : List PyData) : PyData.eqv (.list (x :: xs)) (.list []) = false := by simp [PyData.eqv, PyData.eqvAll]
theorem eqv_nil0 : PyData.eqv (.list []) (.list []) = true := by simp [PyData.eqv, PyData.eqvAll]
theorem Shw.line3 {n k : Nat} {d : PyData} (h : Shw n k d) (hn : n ≤ 16000000) : d.shown.length ≤ sizeLine := Nat.le_trans h.len (Nat.le_trans hn (by decide))
section
variable {way : Int} {d : PyData} {ds : List PyData}
theorem ask_no (e : rowB d = false) : askD way d = .list [.str "none", .str d.shown, .bool true] := by unfold askD; rw [if_pos e]
theorem ask_0 (e : rowB (.tuple ds) = true) (w : way = 0) : askD way (.tuple ds) = .list [.str "told", .list (numL (places ds))] := by unfold askD; rw [if_neg (by rw [e]; decide), if_pos w]; rfl
theorem ask_1 (e : rowB (.tuple ds) = true) (w : way = 1) : askD way (.tuple ds) = .list [.str "told", .tuple (ds.map swapD)] := by unfold askD; rw [if_neg (by rw [e]; decide), if_neg (by omega), if_pos w]; rfl
theorem ask_2a (e : rowB (.tuple ds) = true) (w : way ≠ 0) (w1 : way ≠ 1) (p : places ds = []) : askD way (.tuple ds) = .list [.str "told", .list ds] := by
  unfold askD; rw [if_neg (by rw [e]; decide), if_neg w, if_neg w1, if_pos (show places (tupItems (.tuple ds)) = [] from p)]; rfl
theorem ask_2b (e : rowB (.tuple ds) = true) (w : way ≠ 0) (w1 : way ≠ 1) (p : places ds ≠ []) : askD way (.tuple ds) = .list [.str "clashes", .tuple (numL (places ds)), .bool true] := by
  unfold askD; rw [if_neg (by rw [e]; decide), if_neg w, if_neg w1, if_neg (show ¬ places (tupItems (.tuple ds)) = [] from p)]; rfl
end
end XR
namespace K64
open PySem L2 XR
abbrev sDue : Stmt := top 37
abbrev sTurned : Stmt := top 38
section
variable {P : Program} {w : World} {K : PySem.W.Frag} {mg : Str → Option Value} {base : Heap}
theorem scTurned : FnScope ["_law_token"] ["_law_token"] (defScope sTurned) := ⟨rfl, rfl, rfl, by decide +kernel, rfl, by decide +kernel, by decide +kernel⟩
theorem ok_turned {f : Addr} {fd : FuncData} (F : Fun K "_law_turned" "_law_turned" sTurned f fd) : FnOk P w K mg base CX0 1 f fd ["_law_token"] (spTurned K) := by
  refine F.ok scTurned (fun vs H Q E h => ?_) (fun cdv A outer s H vs Q E hr h => ?_)
  · obtain ⟨a, x0, x1, x2, x3, x4, rfl, _⟩ := h
    rfl
  · obtain ⟨a, x0, x1, x2, x3, x4, rfl, hq, z⟩ := h
    refine ⟨_, pss_one (ps_ret (pe_op op_catA (pe_slice sl_tupA (pv 0) po_none (po_some pe_int)) (pe_tup (pa_cons (pe_ix ix_tup (pv 0) pe_int (fun _ _ => rfl)) (pa_cons (pe_ix ix_tup (pv 0) pe_int (fun _ _ => rfl)) pa_nil))))), ?_⟩
    refine ⟨_, rfl, 3, rfl, a, _, rfl, hq, fun hw => absurd hw.2 (by show ¬ (HT.sIx 5 5 (some 3) = 5); decide), fun hn p np => ?_⟩
    have sp := same_upd (o := .tup (cutV [x0, x1, x2, x3, x4] none (some 3))) np
    have hq3 := XR.Same.tup sp hq
    have hp := upd_same (H := H) (a := p) (o := .tup (cutV [x0, x1, x2, x3, x4] none (some 3)))
    generalize upd H p (.tup (cutV [x0, x1, x2, x3, x4] none (some 3))) = G1 at sp hq3 hp ⊢
    refine ⟨_, rfl, a, _, _, _, rfl, rfl, hq3, atI_nat (xs := [x0, x1, x2, x3, x4]) (j := 4) rfl, _, rfl, a, _, _, _, rfl, rfl, hq3, atI_nat (xs := [x0, x1, x2, x3, x4]) (j := 3) rfl, ll20 (by show 2 ≤ 20; decide), fun u nu => ?_⟩
    have su := same_upd (o := .tup [x4, x3]) nu
    refine ⟨p, u, [x0, x1, x2], [x4, x3], rfl, rfl, SqT.of (su _ _ hp), SqT.of upd_same, ll20 (by show 3 + 2 ≤ 20; decide), (fun e => nomatch e), (fun _ e => nomatch e), fun _ _ t nt => ?_⟩
    exact z t _ (sp.trans (su.trans (same_upd nt))) (none_back (sp.trans su) nt) upd_same
theorem scDue : FnScope ["_law_way", "_law_value", "_law_places", "_law_at", "_law_token"] ["_law_way", "_law_value"] (defScope sDue) := ⟨rfl, rfl, rfl, by decide +kernel, rfl, by decide +kernel, by decide +kernel⟩
theorem ok_due {f fI fT : Addr} {fd fdI fdT : FuncData} (F : Fun K "_law_due" "_law_due" sDue f fd) (T : Blt mg)
    (FI : Fun K "_law_is_tokens" "_law_is_tokens" sLToks fI fdI) (GI : FnOk P w K mg base CX0 4 fI fdI ["_law_value"] (spJudge K rowB)) (bI : Binds K fdI ["_law_value"] []) (mI : mg "_law_is_tokens" = some (.ref fI))
    (FT : Fun K "_law_turned" "_law_turned" sTurned fT fdT) (GT : FnOk P w K mg base CX0 1 fT fdT ["_law_token"] (spTurned K)) (bT : Binds K fdT ["_law_token"] []) (mT : mg "_law_turned" = some (.ref fT)) :
    FnG P w K mg base 5 f fd ["_law_way", "_law_value"] (spAsk K) := by
  refine okG F scDue (fun vs H Q E h => ?_) (fun cdv A outer s H vs Q E hr hg h => ?_)
  · obtain ⟨x, d, way, rfl, _⟩ := h
    rfl
  · obtain ⟨x, d, way, rfl, hd, hok, z⟩ := h
    have hr1 := hr.mono (show 1 ≤ 4 by decide)
    refine ⟨_, pss_cons (ps_if (pt_not (pt_val (pe_call GI hr rfl mI FI.kp bI .nil pass0 (pa_cons (pv 1) pa_nil)))) (pss_one (ps_ret (pe_lst (pa_cons pe_str (pa_cons (pe_callB (call_reprQ hg hr.units) (by rfl) T.repr (by decide +kernel) (pa_cons (pv 1) pa_nil)) (pa_cons pe_bl pa_nil)))))) pss_nil)
      (pss_cons (ps_setLc (i := 2) (own := [("_law_at", 3)]) (g := gName 3) (tt := tB (tCB (rIsi K) (tCons (tOp (rIxT K) (tVar 1) (tVar 3)) (tCons (tC (.ty "tuple")) tNil)))) (te := tVar 3) rfl scDue.nd rfl rfl (sw_true rfl rfl rfl (by decide +kernel))
          (pi_range1 rfl T.range (pa_cons (pe_callB call_len_seq (by rfl) T.len PySem.boot_len (pa_cons (pv 1) pa_nil)) pa_nil))
          (blkOk_by (own := [("_law_at", 3)]) (N := ["_law_way", "_law_value", "_law_places", "_law_at", "_law_token"]) (sc := defScope sDue) (by decide +kernel))
          (fun _ _ _ _ _ => pg_name (i := 3) scDue.nd rfl (Or.inl rfl)) (fun _ _ _ _ _ => pts_one (pt_val (pe_callB call_isi (by rfl) T.isin (by decide +kernel) (pa_cons (pe_ix ix_tup (pv 1) (pv 3) (fun _ _ => rfl)) (pa_cons (pe_bltn (v := .ty "tuple") (u := .type "tuple") (by rfl) T.tuple (by decide +kernel) rfl) pa_nil)))))
          (fun _ _ _ _ _ => pv 3))
      (pss_cons (ps_if (pt_cmpR op_eq (pv 0) pe_int (nomark _)) (pss_one (ps_ret (pe_lst (pa_cons pe_str (pa_cons (pv 2) pa_nil))))) pss_nil)
      (pss_cons (ps_if (pt_cmpR op_eq (pv 0) pe_int (nomark _)) (pss_one (ps_ret (pe_lst (pa_cons pe_str (pa_cons (pe_callTy call_tuple_of (by rfl) T.tuple (by decide +kernel) (pa_cons
          (pe_lc (own := [("_law_token", 4)]) (g := gName 4) (tt := tYes) (te := tIf (tB (tCB (rIsi K) (tCons (tVar 4) (tCons (tC (.ty "str")) tNil)))) (tVar 4) (tCall (spTurned K) [] E0 (tCons (tVar 4) tNil))) rfl scDue.nd (pi_tup (pv 1))
            (blkOk_by (own := [("_law_token", 4)]) (N := ["_law_way", "_law_value", "_law_places", "_law_at", "_law_token"]) (sc := defScope sDue) (by decide +kernel))
            (fun _ _ _ _ _ => pg_name (i := 4) scDue.nd rfl (Or.inl rfl)) (fun _ _ _ _ _ => pts_nil)
            (fun _ _ _ _ _ => pe_ifExp (pt_val (pe_callB call_isi (by rfl) T.isin (by decide +kernel) (pa_cons (pv 4) (pa_cons (pe_bltn (v := .ty "str") (u := .type "str") (by rfl) T.str (by decide +kernel) rfl) pa_nil)))) (pv 4) (pe_call GT hr1 rfl mT FT.kp bT .nil pass0 (pa_cons (pv 4) pa_nil)))) pa_nil)) pa_nil))))) pss_nil)
      (pss_one (ps_ret (pe_ifExp (pt_cmpR (op_neD hr.units) (pv 2) (pe_lst pa_nil) (nomark _)) (pe_lst (pa_cons pe_str (pa_cons (pe_callTy call_tuple_of (by rfl) T.tuple (by decide +kernel) (pa_cons (pv 2) pa_nil)) (pa_cons pe_bl pa_nil))))
          (pe_lst (pa_cons pe_str (pa_cons (pe_callTy call_list_of (by rfl) T.list (by decide +kernel) (pa_cons (pv 1) pa_nil)) pa_nil))))))))), ?_⟩
    refine ⟨_, rfl, x, d, rfl, hd, fun H1 s1 => ⟨_, rfl, ?_⟩⟩
    cases e3 : rowB d with
    | false =>
      refine iteT ⟨_, rfl, x, d, rfl, hd.same s1, hok.sh.sh.ok, hok.sh.sh.line3 (by decide), hok.sh.sh.low (by decide), ll20 (by show 3 ≤ 20; decide), fun t nt => ?_⟩
      refine z t _ (s1.trans (same_upd nt)) ?_
      rw [ask_no e3]
      exact .lst (SqL.of upd_same) (.cons (.str _) (.cons (.str _) (.cons (.bl _) .nil)))
    | true =>
      obtain ⟨a, xs, ds, rfl, rfl, h1, h2, hl, hall⟩ := row_of hd e3
      have hlen := h2.length
      have h1' := XR.Same.tup s1 h1
      have hxl : xs.length ≤ 180 := by omega
      refine iteF ⟨_, rfl, a, xs, rfl, .inr h1', _, rfl, by omega, by omega, fun D nD => ?_⟩
      have sD := same_upd (o := .lst []) nD
      refine lc_range (n := xs.length) (fun i H' => Same H1 H' ∧ H' D = some (.lst (plV (placesTo ds i)))) ⟨sD, upd_same⟩ ?_ ?_
      · rintro i H' hi ⟨sm, hD⟩
        have hx := List.getElem?_eq_getElem hi
        obtain ⟨di, w1, w2⟩ := h2.get hx
        have wi := (w2.same s1).same sm
        refine ⟨rfl, ?_⟩
        refine ⟨_, rfl, _, rfl, a, xs, _, xs[i], rfl, rfl, XR.Same.tup sm h1', by rw [Int.zero_add]; exact atI_nat hx, xs[i], _, _, _, _, rfl, .ty "tuple", wi.ty, kit_ty (kit_tuple di), _, rfl, ?_⟩
        have fin : tupB di = true → ∃ acc, H' D = some (.lst acc) ∧ acc.length < sizeLine ∧ (Same H1 (upd H' D (.lst (acc ++ [V.int (0 + (i : Int))]))) ∧ (upd H' D (.lst (acc ++ [V.int (0 + (i : Int))]))) D = some (.lst (plV (placesTo ds (i + 1))))) := by
          intro e
          refine ⟨_, hD, ?_, fun b o h => ?_, ?_⟩
          · unfold plV
            rw [List.length_map]
            have := placesTo_len ds i
            exact Nat.lt_of_le_of_lt (show _ ≤ 180 by omega) (by decide)
          · rw [upd_ne (ne_of_none h nD)]
            exact sm _ _ h
          · rw [upd_same, placesTo_succ w1, if_pos e, Int.zero_add]
            unfold plV
            rw [List.map_append]
            rfl
        have fin0 : tupB di = false → Same H1 H' ∧ H' D = some (.lst (plV (placesTo ds (i + 1)))) := by
          intro e
          refine ⟨sm, ?_⟩
          rw [placesTo_succ w1, e, if_neg (by decide)]
          exact hD
        cases di with
        | tuple fs => exact iteT ⟨_, rfl, fin rfl⟩
        | _ => exact iteF (fin0 rfl)
      rintro H2 ⟨sm, hD⟩
      rw [hlen] at hD
      have hD' : H2 D = some (.lst (plV (places ds))) := hD
      have s2 := s1.trans sm
      have h3 := XR.Same.tup s2 h1
      have k3 := h2.same s2
      refine ⟨_, rfl, rfl, _, rfl, ?_⟩
      refine ite2 (fun c0 => ?_) (fun c0 => ?_)
      · have ew : way = 0 := by
          have := of_decide_eq_true c0
          cases this; rfl
        refine ⟨_, rfl, ll20 (by show 2 ≤ 20; decide), fun t nt => ?_⟩
        have st := same_upd (o := .lst [V.str "told", V.ref D]) nt
        refine z t _ (s2.trans st) ?_
        rw [ask_0 e3 ew]
        exact .lst (SqL.of upd_same) (.cons (.str _) (.cons (.lst (SqL.of (st _ _ hD')) (dq_nums _)) .nil))
      have nw : way ≠ 0 := fun e => c0 (decide_eq_true (by rw [e]))
      refine ⟨_, rfl, rfl, _, rfl, ?_⟩
      refine ite2 (fun c1 => ?_) (fun c1 => ?_)
      · have ew : way = 1 := by
          have := of_decide_eq_true c1
          cases this; rfl
        refine ⟨_, rfl, a, rfl, ⟨_, h3⟩, fun D2 nD2 => ?_⟩
        have sD2 := same_upd (o := .lst []) nD2
        refine lc_tup (K := K) (a := a) (xs := xs) (fun i H' => Same H2 H' ∧ ∃ ys, H' D2 = some (.lst ys) ∧ DqAll K (L2.del H' D2) ys ((ds.take i).map swapD)) ⟨sD2, [], upd_same, .nil⟩ (fun i H' _ hh => XR.Same.tup hh.1 h3) ?_ ?_
        · rintro i x H' hx ⟨sm, ys, hD, hy⟩
          obtain ⟨d, hd1, hd2⟩ := k3.get hx
          have hd3 := hd2.same sm
          refine ⟨rfl, ?_⟩
          unfold tYes
          dsimp only
          rw [if_pos rfl]
          have hdm : d ∈ ds := List.mem_of_getElem? hd1
          have htok : tokB d = true := List.all_eq_true.mp hall d hdm
          have hz : ((ds.take (i + 1)).map swapD) = (ds.take i).map swapD ++ [swapD d] := by rw [List.take_add_one, hd1, List.map_append]; rfl
          have hylen := hy.length
          have small : ys.length < sizeLine := by
            rw [hylen, List.length_map, List.length_take]
            exact Nat.lt_of_le_of_lt (show min i ds.length ≤ 180 by omega) (by decide)
          refine ⟨_, rfl, x, _, _, _, _, rfl, .ty "str", hd3.ty, kit_ty (kit_str d), _, rfl, ?_⟩
          cases e : tupB d with
          | true =>
            obtain ⟨q, d0, d1, d2, d3, d4, x0, x1, x2, x3, x4, rfl, rfl, hq, a0, a1, a2, a3, a4⟩ := tok_clash hd2 e htok
            refine iteF ⟨_, rfl, q, x0, x1, x2, x3, x4, rfl, XR.Same.tup sm hq, fun t H4 s4 nt ht => ?_⟩
            refine ⟨_, s4 _ _ hD, small, fun b o h => ?_, ys ++ [.ref t], upd_same, ?_⟩
            · rw [upd_ne (ne_of_none h nD2)]
              exact s4 _ _ (sm _ _ h)
            · rw [hz, del_upd]
              have hdl := (Same.but (a := D2) s4).del
              have sq := same_to_del (sm.trans s4) nD2
              refine DqAll.snoc (hy.same hdl) ?_
              have ntD : D2 ≠ t := ne_of_none hD nt
              exact .tup (SqT.of (del_at ht ntD)) (.cons (a0.same sq) (.cons (a1.same sq) (.cons (a2.same sq) (.cons (a4.same sq) (.cons (a3.same sq) .nil)))))
          | false =>
            have fin : (∃ l, H' D2 = some (.lst l) ∧ l.length < sizeLine ∧ (Same H2 (upd H' D2 (.lst (l ++ [x]))) ∧ ∃ ys, (upd H' D2 (.lst (l ++ [x]))) D2 = some (.lst ys) ∧ DqAll K (L2.del (upd H' D2 (.lst (l ++ [x]))) D2) ys ((ds.take (i + 1)).map swapD))) := by
              refine ⟨_, hD, small, fun b o h => ?_, ys ++ [x], upd_same, ?_⟩
              · rw [upd_ne (ne_of_none h nD2)]
                exact sm _ _ h
              · rw [hz, del_upd, tok_line e]
                exact DqAll.snoc hy (hd2.same (same_to_del sm nD2))
            cases d with
            | str w => exact iteT ⟨_, rfl, fin⟩
            | tuple fs => cases e
            | _ => exact Bool.noConfusion (show false = true from htok)
        · rintro H' ⟨sm2, ys, hD2, hy⟩
          rw [hlen, List.take_length] at hy
          refine ⟨D2, ys, rfl, .inl ⟨SqL.of hD2, fun t nt => ⟨ll20 (by show 2 ≤ 20; decide), fun l nl => ?_⟩⟩⟩
          have st := same_upd (o := .tup ys) nt
          have sl := same_upd (o := .lst [V.str "told", V.ref t]) nl
          refine z l _ (s2.trans (sm2.trans (st.trans sl))) ?_
          rw [ask_1 e3 ew]
          exact .lst (SqL.of upd_same) (.cons (.str _) (.cons (.tup (SqT.of (sl _ _ upd_same)) ((hy.same del_sub).same (st.trans sl))) .nil))
      have nw1 : way ≠ 1 := fun e => c1 (decide_eq_true (by rw [e]))
      refine ⟨_, rfl, ll20 (by show 0 ≤ 20; decide), fun u nu => ?_⟩
      have su := same_upd (o := .lst []) nu
      have s3 := s2.trans su
      have hD3 := su _ _ hD'
      refine ⟨.list (numL (places ds)), .list [], .lst (SqL.of hD3) (dp_nums _), .lst (SqL.of upd_same) .nil, num_lay _, num_lay [], _, rfl, ?_⟩
      cases ep : places ds with
      | nil =>
        rw [show numL [] = [] from rfl, eqv_nil0]
        refine iteF ⟨_, rfl, a, xs, rfl, .inr (XR.Same.tup su h3), fun l nl => ⟨ll20 (by show 2 ≤ 20; decide), fun t nt => ?_⟩⟩
        have sl := same_upd (o := .lst xs) nl
        have st := same_upd (o := .lst [V.str "told", V.ref l]) nt
        refine z t _ (s3.trans (sl.trans st)) ?_
        rw [ask_2a e3 nw nw1 ep]
        exact .lst (SqL.of upd_same) (.cons (.str _) (.cons (.lst (SqL.of (st _ _ upd_same)) (h2.same (s3.trans (sl.trans st)))) .nil))
      | cons p ps =>
        rw [show numL (p :: ps) = .int (p : Nat) :: numL ps from rfl, eqv_nil]
        refine iteT ⟨_, rfl, D, _, rfl, .inl ⟨SqL.of hD3, fun t nt => ⟨ll20 (by show 3 ≤ 20; decide), fun l nl => ?_⟩⟩⟩
        have st := same_upd (o := .tup (plV (places ds))) nt
        have sl := same_upd (o := .lst [V.str "clashes", V.ref t, V.bl true]) nl
        refine z l _ (s3.trans (st.trans sl)) ?_
        rw [ask_2b e3 nw nw1 (by rw [ep]; exact List.cons_ne_nil _ _)]
        exact .lst (SqL.of upd_same) (.cons (.str _) (.cons (.tup (SqT.of (sl _ _ upd_same)) (dq_nums _)) (.cons (.bl _) .nil)))
end
end K64
namespace XR
open PySem L2
/-- the two classes of exceptions, told apart, and what they are -/
structure Apart2 (K : PySem.W.Frag) (CR CC CI CS : Addr) : Prop where
  rr : PySem.W.exmOne K (.ref CR) (.ref CR) = some true
  cr : PySem.W.exmOne K (.ref CC) (.ref CR) = some false
  cc : PySem.W.exmOne K (.ref CC) (.ref CC) = some true
  ri : PySem.W.kitOne K (.ref CR) (.ref CI) = some true
  rv : PySem.W.kitOne K (.ref CR) (.type "ValueError") = some true
  cs : PySem.W.kitOne K (.ref CC) (.ref CS) = some true
  ct : PySem.W.kitOne K (.ref CC) (.type "RuntimeError") = some true
end XR
namespace K64
open PySem L2 XR
abbrev sAsked : Stmt := top 36
section
variable {P : Program} {w : World} {K : PySem.W.Frag} {mg : Str → Option Value} {base : Heap}
theorem scAsked : FnScope ["_law_way", "_law_value", "e"] ["_law_way", "_law_value"] (defScope sAsked) := ⟨rfl, rfl, rfl, by decide +kernel, rfl, by decide +kernel, by decide +kernel⟩
theorem ok_asked {f fC fS fT CR CC CI CS : Addr} {fd fdC fdS fdT : FuncData} (F : Fun K "_law_asked" "_law_asked" sAsked f fd) (T : Blt mg) (Ap : Apart2 K CR CC CI CS)
    (FC : Fun K "clashes" "clashes" sClashes fC fdC) (GC : FnOk P w K mg base (L2.CX P w) 6 fC fdC ["row"] (spClashes K CR)) (bC : Binds K fdC ["row"] []) (mC : mg "clashes" = some (.ref fC))
    (FS : Fun K "swapped" "swapped" sSwapped fS fdS) (GS : FnOk P w K mg base (L2.CX P w) 6 fS fdS ["row"] (spSwapped K CR)) (bS : Binds K fdS ["row"] []) (mS : mg "swapped" = some (.ref fS))
    (FT : Fun K "text_of" "text_of" sTextOf fT fdT) (GT : FnOk P w K mg base (L2.CX P w) 7 fT fdT ["row"] (spTextOf K CR CC)) (bT : Binds K fdT ["row"] []) (mT : mg "text_of" = some (.ref fT))
    (XRw : XOk P K mg "InvalidRow" CR 1 (fvOne "value")) (XCl : XOk P K mg "Clashes" CC 1 (fvOne "positions")) (mI : mg "InputError" = some (.ref CI)) (mSt : mg "StateError" = some (.ref CS)) (mV : mg "ValueError" = none) (mR : mg "RuntimeError" = none) :
    FnG P w K mg base 8 f fd ["_law_way", "_law_value"] (spAsk K) := by
  refine okG F scAsked (fun vs H Q E h => ?_) (fun cdv A outer s H vs Q E hr hg h => ?_)
  · obtain ⟨x, d, way, rfl, _⟩ := h
    rfl
  · obtain ⟨x, d, way, rfl, hd, hok, z⟩ := h
    have hr6 := hr.mono (show 6 ≤ 7 by decide)
    refine ⟨_, pss_one (ps_try_asMany (i := 2) (n := "e") rfl rfl scAsked.nd rfl rfl takes0
          (fun W pn xe tk _ => pss_cons (ps_if (pt_cmpR op_eq (pv 0) pe_int (nomark _)) (pss_one (ps_ret (pe_lst (pa_cons pe_str (pa_cons (pe_callS GC hr6 rfl mC FC.kp bC (fun σ => passAt tk σ) (pa_cons (pv 1) pa_nil)) pa_nil))))) pss_nil)
            (pss_cons (ps_if (pt_cmpR op_eq (pv 0) pe_int (nomark _)) (pss_one (ps_ret (pe_lst (pa_cons pe_str (pa_cons (pe_callS GS hr6 rfl mS FS.kp bS (fun σ => passAt tk σ) (pa_cons (pv 1) pa_nil)) pa_nil))))) pss_nil)
            (pss_one (ps_ret (pe_lst (pa_cons pe_str (pa_cons (pe_callS GT hr rfl mT FT.kp bT (fun σ => passAt tk σ) (pa_cons (pv 1) pa_nil)) pa_nil)))))))
          (.cons (c := .ref CR) ⟨rfl, by decide, .inl XRw.g⟩ (fun a oe cls d pn hz hf => pss_one (ps_ret (pe_lst (pa_cons pe_str (pa_cons (pe_callB (id := "repr") (r := rRepr K) (call_reprQ hg hr.units) (by rfl) T.repr (by decide +kernel) (pa_cons (pe_byX hz hf (pv 2) (by rfl)) pa_nil))
              (pa_cons (pe_and (pe_callB (call_isH hz hf) (by rfl) T.isin (by decide +kernel) (pa_cons (pv 2) (pa_cons (pe_glob (v := .ref CI) (by rfl) mI rfl) pa_nil))) (pe_one (pe_callB (call_isH hz hf) (by rfl) T.isin (by decide +kernel) (pa_cons (pv 2) (pa_cons (pe_bltn (v := .ty "ValueError") (u := .type "ValueError") (by rfl) mV (by decide +kernel) rfl) pa_nil))))) pa_nil))))))
          (.cons (c := .ref CC) ⟨rfl, by decide, .inl XCl.g⟩ (fun a oe cls d pn hz hf => pss_one (ps_ret (pe_lst (pa_cons pe_str (pa_cons (pe_byX hz hf (pv 2) (by rfl))
              (pa_cons (pe_and (pe_callB (call_isH hz hf) (by rfl) T.isin (by decide +kernel) (pa_cons (pv 2) (pa_cons (pe_glob (v := .ref CS) (by rfl) mSt rfl) pa_nil))) (pe_one (pe_callB (call_isH hz hf) (by rfl) T.isin (by decide +kernel) (pa_cons (pv 2) (pa_cons (pe_bltn (v := .ty "RuntimeError") (u := .type "RuntimeError") (by rfl) mR (by decide +kernel) rfl) pa_nil))))) pa_nil)))))) .nil))), ?_⟩
    refine ⟨_, rfl, rfl, _, rfl, ?_⟩
    refine ite2 (fun c0 => ?_) (fun c0 => ?_)
    · have ew : way = 0 := by
        have := of_decide_eq_true c0
        cases this; rfl
      refine ⟨_, rfl, x, d, rfl, hd, ?_, ?_⟩
      · intro ds ed er l H1 s1 nl hl
        cases ed
        refine ⟨ll20 (by show 2 ≤ 20; decide), fun t nt => ?_⟩
        have st := same_upd (o := .lst [V.str "told", V.ref l]) nt
        refine z t _ (s1.trans st) ?_
        rw [ask_0 er ew]
        exact .lst (SqL.of upd_same) (.cons (.str _) (.cons (.lst (SqL.of (st _ _ hl)) (dq_nums _)) .nil))
      · intro er H1 dd s1 nd hdd
        refine ⟨true, Ap.rr, fun _ a ha => ?_, fun q => Bool.noConfusion q⟩
        refine ⟨_, rfl, rfl, CR, dd, _, x, rfl, rfl, XRw.rd, XRw.nf [.non] ("value", .non) (List.mem_cons_self ..), hdd, rfl, x, d, rfl, hd.same s1, hok.sh.sh.ok, hok.sh.sh.line3 (by decide), hok.sh.sh.low (by decide), ?_⟩
        refine ⟨_, rfl, CR, dd, _, .ref CI, .ref CI, true, rfl, rfl, rfl, XRw.rd, hdd, (fun u r => by cases r; rfl), Ap.ri, true, rfl, iteT ?_⟩
        refine ⟨_, rfl, CR, dd, _, .ty "ValueError", .type "ValueError", true, rfl, rfl, rfl, XRw.rd, hdd, (fun u r => by cases r; rfl), Ap.rv, ll20 (by show 3 ≤ 20; decide), fun t nt => ?_⟩
        refine z t _ (s1.trans (same_upd nt)) ?_
        rw [ask_no er]
        exact .lst (SqL.of upd_same) (.cons (.str _) (.cons (.str _) (.cons (.bl _) .nil)))
    have nw : way ≠ 0 := fun e => c0 (decide_eq_true (by rw [e]))
    refine ⟨_, rfl, rfl, _, rfl, ?_⟩
    refine ite2 (fun c1 => ?_) (fun c1 => ?_)
    · have ew : way = 1 := by
        have := of_decide_eq_true c1
        cases this; rfl
      refine ⟨_, rfl, x, d, rfl, hd, ?_, ?_⟩
      · intro ds ed er l H1 s1 nl hl
        cases ed
        refine ⟨ll20 (by show 2 ≤ 20; decide), fun t nt => ?_⟩
        have st := same_upd (o := .lst [V.str "told", V.ref l]) nt
        refine z t _ (s1.trans st) ?_
        rw [ask_1 er ew]
        exact .lst (SqL.of upd_same) (.cons (.str _) (.cons (hl.same st) .nil))
      · intro er H1 dd s1 nd hdd
        refine ⟨true, Ap.rr, fun _ a ha => ?_, fun q => Bool.noConfusion q⟩
        refine ⟨_, rfl, rfl, CR, dd, _, x, rfl, rfl, XRw.rd, XRw.nf [.non] ("value", .non) (List.mem_cons_self ..), hdd, rfl, x, d, rfl, hd.same s1, hok.sh.sh.ok, hok.sh.sh.line3 (by decide), hok.sh.sh.low (by decide), ?_⟩
        refine ⟨_, rfl, CR, dd, _, .ref CI, .ref CI, true, rfl, rfl, rfl, XRw.rd, hdd, (fun u r => by cases r; rfl), Ap.ri, true, rfl, iteT ?_⟩
        refine ⟨_, rfl, CR, dd, _, .ty "ValueError", .type "ValueError", true, rfl, rfl, rfl, XRw.rd, hdd, (fun u r => by cases r; rfl), Ap.rv, ll20 (by show 3 ≤ 20; decide), fun t nt => ?_⟩
        refine z t _ (s1.trans (same_upd nt)) ?_
        rw [ask_no er]
        exact .lst (SqL.of upd_same) (.cons (.str _) (.cons (.str _) (.cons (.bl _) .nil)))
    have nw1 : way ≠ 1 := fun e => c1 (decide_eq_true (by rw [e]))
    refine ⟨_, rfl, x, d, rfl, hd, ?_, ?_⟩
    · intro a xs ds ex ed h1 h2 er
      cases ex
      cases ed
      refine ⟨fun ep l H1 s1 nl hl => ?_, fun ep H1 dd u s1 nd hdd hu => ?_⟩
      · refine ⟨ll20 (by show 2 ≤ 20; decide), fun t nt => ?_⟩
        have st := same_upd (o := .lst [V.str "told", V.ref l]) nt
        refine z t _ (s1.trans st) ?_
        rw [ask_2a er nw nw1 ep]
        exact .lst (SqL.of upd_same) (.cons (.str _) (.cons (.lst (SqL.of (st _ _ hl)) (h2.same (s1.trans st))) .nil))
      · refine ⟨false, Ap.cr, fun q => Bool.noConfusion q, fun _ => ⟨true, Ap.cc, fun _ a ha => ?_, fun q => Bool.noConfusion q⟩⟩
        refine ⟨_, rfl, rfl, CC, dd, _, _, rfl, rfl, XCl.rd, XCl.nf [.non] ("positions", .non) (List.mem_cons_self ..), hdd, rfl, ?_⟩
        refine ⟨_, rfl, CC, dd, _, .ref CS, .ref CS, true, rfl, rfl, rfl, XCl.rd, hdd, (fun u r => by cases r; rfl), Ap.cs, true, rfl, iteT ?_⟩
        refine ⟨_, rfl, CC, dd, _, .ty "RuntimeError", .type "RuntimeError", true, rfl, rfl, rfl, XCl.rd, hdd, (fun u r => by cases r; rfl), Ap.ct, ll20 (by show 3 ≤ 20; decide), fun t nt => ?_⟩
        have st := same_upd (o := .lst [V.str "clashes", V.ref u, V.bl true]) nt
        refine z t _ (s1.trans st) ?_
        rw [ask_2b er nw nw1 ep]
        exact .lst (SqL.of upd_same) (.cons (.str _) (.cons (.tup (SqT.of (st _ _ hu)) (dq_nums _)) (.cons (.bl _) .nil)))
    · intro er H1 dd s1 nd hdd
      refine ⟨true, Ap.rr, fun _ a ha => ?_, fun q => Bool.noConfusion q⟩
      refine ⟨_, rfl, rfl, CR, dd, _, x, rfl, rfl, XRw.rd, XRw.nf [.non] ("value", .non) (List.mem_cons_self ..), hdd, rfl, x, d, rfl, hd.same s1, hok.sh.sh.ok, hok.sh.sh.line3 (by decide), hok.sh.sh.low (by decide), ?_⟩
      refine ⟨_, rfl, CR, dd, _, .ref CI, .ref CI, true, rfl, rfl, rfl, XRw.rd, hdd, (fun u r => by cases r; rfl), Ap.ri, true, rfl, iteT ?_⟩
      refine ⟨_, rfl, CR, dd, _, .ty "ValueError", .type "ValueError", true, rfl, rfl, rfl, XRw.rd, hdd, (fun u r => by cases r; rfl), Ap.rv, ll20 (by show 3 ≤ 20; decide), fun t nt => ?_⟩
      refine z t _ (s1.trans (same_upd nt)) ?_
      rw [ask_no er]
      exact .lst (SqL.of upd_same) (.cons (.str _) (.cons (.str _) (.cons (.bl _) .nil)))
end
end K64
namespace XR
open PySem L2
def spBentTok (K : PySem.W.Frag) : Sp := fun vs H Q _ => ∃ (p : Addr) (Z : List Addr) (x : V) (d : PyData) (j : Nat), vs = [.ref p, x] ∧ PZ Z p H ∧ Dz K Z H x d ∧ TokOk j d ∧ j ≤ 2 ∧ ∀ y e H', PotAt H' p → But p H H' → Dz K Z H' y e → TokOk (j + 1) e → Q y H'
theorem bl_part {j : Nat} (b : Bool) : PartOk j (.bool b) := ⟨(shx_of (n := 8) (k := 2) (by cases b <;> decide +kernel)).le (by decide) (by decide), Nat.zero_le _, fun f hf => (nomatch hf), rfl⟩
theorem part_int {j : Nat} {i : Int} (h : PartOk j (.int i)) : -(1 + (j : Int)) ≤ i ∧ i ≤ 61 + (j : Int) := by
  have e : (decide (-(1 + (j : Int)) ≤ i) && decide (i ≤ 61 + (j : Int))) = true := h.i
  rw [Bool.and_eq_true, decide_eq_true_eq, decide_eq_true_eq] at e
  exact e
end XR
namespace K64
open PySem L2 XR
abbrev sBentTok : Stmt := top 34
section
variable {P : Program} {w : World} {K : PySem.W.Frag} {mg : Str → Option Value} {base : Heap}
theorem scBentTok : FnScope ["_law_pot_here", "_law_token", "_law_at", "_law_way", "_law_some", "_law_own"] ["_law_pot_here", "_law_token"] (defScope sBentTok) := ⟨rfl, rfl, rfl, by decide +kernel, rfl, by decide +kernel, by decide +kernel⟩
theorem ok_bentTok {f fD fP fO : Addr} {fd fdD fdP fdO : FuncData} (F : Fun K "_law_bent_token" "_law_bent_token" sBentTok f fd) (T : Blt mg) (D : Draws P w K mg base fD fP fdD fdP)
    (FO : Fun K "_law_odd" "_law_odd" sOdd fO fdO) (GO : FnOk P w K mg base CX0 3 fO fdO ["_law_pot_here"] (spOdd K)) (bO : Binds K fdO ["_law_pot_here"] []) (mO : mg "_law_odd" = some (.ref fO)) : FnOk P w K mg base CX0 4 f fd ["_law_pot_here", "_law_token"] (spBentTok K) := by
  refine F.ok scBentTok (fun vs H Q E h => ?_) (fun cdv A outer s H vs Q E hr h => ?_)
  · obtain ⟨p, Z, x, d, j, rfl, _⟩ := h
    rfl
  · obtain ⟨p, Z, x, d, j, rfl, hz, hd, hok, hj, z⟩ := h
    have hp := hz.pot
    have hr1 := hr.mono (show 1 ≤ 3 by decide)
    have hr2 := hr.mono (show 2 ≤ 3 by decide)
    refine ⟨_, pss_cons (ps_if (PW.pt (pw_or (pt_not (pt_val (pe_callB call_isi (by rfl) T.isin (by decide +kernel) (pa_cons (pv 1) (pa_cons (pe_bltn (v := .ty "tuple") (u := .type "tuple") (by rfl) T.tuple (by decide +kernel) rfl) pa_nil))))) (pw_or (pt_cmpR op_ne (pe_callB call_len_seq (by rfl) T.len PySem.boot_len (pa_cons (pv 1) pa_nil)) pe_int (nomark _)) (pw_or1 (pt_cmpR op_eq (pe_call D.GD hr1 rfl D.mD D.FD.kp D.bD .nil pass0 (pa_cons (pv 0) (pa_cons pe_int pa_nil))) pe_int (nomark _))))))
        (pss_one (ps_ret (pe_call GO hr rfl mO FO.kp bO .nil pass0 (pa_cons (pv 0) pa_nil)))) pss_nil)
      (pss_cons (ps_par (i := 2) (j := 3) rfl scBentTok.nd rfl rfl (by decide) rfl rfl (pa_cons (pe_call D.GD hr1 rfl D.mD D.FD.kp D.bD .nil pass0 (pa_cons (pv 0) (pa_cons pe_int pa_nil))) (pa_cons (pe_call D.GD hr1 rfl D.mD D.FD.kp D.bD .nil pass0 (pa_cons (pv 0) (pa_cons pe_int pa_nil))) pa_nil)) rfl)
      (pss_cons (ps_if (pt_cmpR op_eq (pv 3) pe_int (nomark _))
        (pss_one (ps_ret (pe_op op_catA (pe_op op_catA (pe_slice sl_tupA (pv 1) po_none (po_some (pv 2))) (pe_tup (pa_cons (pe_call GO hr rfl mO FO.kp bO .nil pass0 (pa_cons (pv 0) pa_nil)) pa_nil))) (pe_slice sl_tupA (pv 1) (po_some (pe_op op_add (pv 2) pe_int)) po_none)))) pss_nil)
      (pss_cons (ps_if (pt_cmpR op_eq (pv 3) pe_int (nomark _))
        (pss_cons (ps_set (i := 4) scBentTok.nd rfl (.inl rfl) (pe_lst (pa_cons (pe_callTy call_list_of (by rfl) T.list (by decide +kernel) (pa_cons (pv 1) pa_nil)) (pa_cons (pe_slice sl_tupA (pv 1) po_none (po_some pe_int)) (pa_cons (pe_op op_catA (pv 1) (pe_tup (pa_cons (pe_ix ix_tup (pv 1) (pe_un un_neg pe_int) (fun _ _ => rfl)) pa_nil))) pa_nil)))))
        (pss_one (ps_ret (pe_call D.GP hr2 rfl D.mP D.FP.kp D.bP .nil pass0 (pa_cons (pv 0) (pa_cons (pe_op op_cat (pv 4) (pe_lst (pa_cons (pe_op op_catA (pe_tup (pa_cons (pe_ix ix_tup (pv 1) pe_int (fun _ _ => rfl)) (pa_cons (pe_ix ix_tup (pv 1) pe_int (fun _ _ => rfl)) (pa_cons (pe_ix ix_tup (pv 1) pe_int (fun _ _ => rfl)) pa_nil)))) (pe_slice sl_tupA (pv 1) (po_some pe_int) po_none)) pa_nil))) pa_nil)))))) pss_nil)
      (pss_cons (ps_set (i := 5) scBentTok.nd rfl (.inl rfl) (pe_ix ix_tup (pv 1) (pv 2) (fun _ _ => rfl)))
      (pss_cons (ps_if (PW.pt (pw_and (pt_cmpR op_eq (pv 3) pe_int (nomark _)) (pw_and1 (pt_val (pe_callB call_isi (by rfl) T.isin (by decide +kernel) (pa_cons (pv 5) (pa_cons (pe_bltn (v := .ty "int") (u := .type "int") (by rfl) T.int (by decide +kernel) rfl) pa_nil)))))))
        (pss_one (ps_set (i := 5) scBentTok.nd rfl (.inl rfl) (pe_call D.GP hr2 rfl D.mP D.FP.kp D.bP .nil pass0 (pa_cons (pv 0) (pa_cons (pe_lst (pa_cons (pe_op op_subN2 (pv 5) pe_int) (pa_cons (pe_op op_addN (pv 5) pe_int) (pa_cons (pe_cmpR op_eqN (pv 5) pe_int (nomark _)) (pa_cons (pe_un un_neg pe_int) (pa_cons pe_int (pa_cons pe_int pa_nil))))))) pa_nil)))))
        (pss_one (ps_if (pt_val (pe_callB call_isi (by rfl) T.isin (by decide +kernel) (pa_cons (pv 5) (pa_cons (pe_bltn (v := .ty "tuple") (u := .type "tuple") (by rfl) T.tuple (by decide +kernel) rfl) pa_nil))))
          (pss_one (ps_set (i := 5) scBentTok.nd rfl (.inl rfl) (pe_call D.GP hr2 rfl D.mP D.FP.kp D.bP .nil pass0 (pa_cons (pv 0) (pa_cons (pe_lst (pa_cons (pe_callTy call_list_of (by rfl) T.list (by decide +kernel) (pa_cons (pv 5) pa_nil)) (pa_cons (pe_op op_catA (pv 5) (pe_tup (pa_cons pe_non pa_nil))) (pa_cons (pe_op op_catA (pv 5) (pe_tup (pa_cons pe_str pa_nil))) pa_nil)))) pa_nil)))))
          pss_nil)))
      (pss_one (ps_ret (pe_op op_catA (pe_op op_catA (pe_slice sl_tupA (pv 1) po_none (po_some (pv 2))) (pe_tup (pa_cons (pv 5) pa_nil))) (pe_slice sl_tupA (pv 1) (po_some (pe_op op_add (pv 2) pe_int)) po_none))))))))), ?_⟩
    refine ⟨_, rfl, x, _, _, _, _, rfl, .ty "tuple", hd.dq.ty, kit_ty (kit_tuple d), _, rfl, ?_⟩
    have hd0 := hd
    cases hd with
    | @tup a xs ds h1 h2 =>
      have q1 := XR.Same.tup cut_sub h1
      refine iteF ⟨_, rfl, a, xs, rfl, .inr q1, rfl, _, rfl, ?_⟩
      have hlen := h2.length
      refine ite2 (fun c1 => ?_) (fun c1 => ?_)
      · exact iteT ⟨_, rfl, p, Z, rfl, hz, fun y e H' hp' b' he hm => z _ _ _ hp' b' he ((odd_tok hm).le (Nat.zero_le _))⟩
      · have hl5 : ds.length = 5 := by
          by_cases h : ds.length = 5
          · exact h
          · exact absurd (by rw [hlen]; simp; omega) c1
        refine ⟨_, rfl, p, 5, rfl, hp, by decide, by decide, fun q H1 q0 q1' hp1 b1 => ⟨rfl, _, rfl, ?_⟩⟩
        refine ite2 (fun c2 => ?_) (fun c2 => ?_)
        · exact ⟨_, rfl, p, Z, rfl, hz.step hp1 b1, fun y e H' hp' b' he hm => z _ _ _ hp' (b1.trans b') he ((odd_tok hm).le (Nat.zero_le _))⟩
        refine ⟨_, rfl, p, 5, rfl, hp1, by decide, by decide, fun at' H2 at0 at1 hp2 b2 => ⟨_, rfl, p, 4, rfl, hp2, by decide, by decide, fun way H3 w0 w1 hp3 b3 => ⟨_, _, rfl, ?_⟩⟩⟩
        have B3 := (b1.trans b2).trans b3
        have hz3 := hz.step hp3 B3
        have hd3 := hd0.step hz B3
        obtain ⟨n, rfl, hn⟩ : ∃ n : Nat, at' = (n : Int) ∧ n < 5 := ⟨at'.toNat, by omega, by omega⟩
        have hitems : ∀ e ∈ ds, PartOk (j + 1) e := fun e he => (hok.p hl5 e he).le (Nat.le_succ _)
        clear b1 b2 b3 hp1 hp2 c1 c2 h1 h2 q1 hlen
        refine ⟨_, rfl, rfl, _, rfl, ?_⟩
        refine ite2 (fun cw => ?_) (fun cw => ?_)
        · refine rd_splice (ia := 2) (te := tCall (spOdd K) [] E0 (tCons (tVar 0) tNil)) (G := PartOk (j + 1)) hz3 hd3 (by rw [hl5]; decide) (by rw [hl5]; exact hn) rfl rfl (fun H4 Q1 s4 k => ?_) (fun t H' es hp' b' he el em => ?_)
          · exact ⟨_, rfl, p, Z, rfl, hz3.same s4, fun y e H' hp' b' he hm => k y e H' hp' b' he ((odd_part hm).le (Nat.zero_le _))⟩
          · exact z _ _ _ hp' (B3.trans b') he (tup_tok (by rw [el, hl5]; decide) fun e he => (em e he).elim (fun q => hitems e q) id)
        refine ⟨_, rfl, rfl, _, rfl, ?_⟩
        refine ite2 (fun cw1 => ?_) (fun cw1 => ?_)
        · obtain ⟨a', xs3, ea, q3, k3⟩ := hd3.tup_ref
          cases ea
          obtain ⟨d0, d1, d2, d3, d4, x0, x1, x2, x3, x4, rfl, rfl, a0, a1, a2, a3, a4⟩ := five_of k3 hl5
          refine ⟨_, rfl, a, _, rfl, .inr q3, fun l1 n1 => ?_⟩
          obtain ⟨G1, hG1⟩ : ∃ G, G = upd H3 l1 (.lst [x0, x1, x2, x3, x4]) := ⟨_, rfl⟩
          rw [← hG1]
          have sG : Same H3 G1 := by rw [hG1]; exact same_upd n1
          have e1 : Dz K Z G1 (.ref l1) (.list [d0, d1, d2, d3, d4]) := by rw [hG1]; exact Dz.new_lst k3 hz3 n1
          clear hG1 n1
          have z1 := hz3.same sG
          have t1 := hd3.same sG
          refine ⟨_, rfl, 4, rfl, ?_⟩
          refine sl_dz z1 t1 fun l2 G2 s2 e2 => ?_
          have z2 := z1.same s2
          have t2 := t1.same s2
          replace e1 := e1.same s2
          replace sG := sG.trans s2
          clear s2
          have q4 := XR.Same.tup sG q3
          refine ⟨_, rfl, _, rfl, 1, rfl, a, _, _, x4, rfl, rfl, q4, rfl, ll20 (by show 1 ≤ 20; decide), fun u nu => ?_⟩
          have su := same_upd (o := .tup [x4]) nu
          have hu : Dz K Z (upd G2 u (.tup [x4])) (.ref u) (.tuple [d4]) := Dz.new_tup (.cons (Dz.same a4 sG) .nil) z2 nu
          refine cat_dz (z2.same su) (t2.same su) hu (ll20 (by show 6 ≤ 20; decide)) fun l3 G3 s3 e3 => ?_
          have z3 := (z2.same su).same s3
          have t3 := (t2.same su).same s3
          replace e1 := (e1.same su).same s3
          replace e2 := (e2.same su).same s3
          replace sG := (sG.trans su).trans s3
          clear s3 su hu nu
          refine ⟨ll20 (by show 3 ≤ 20; decide), fun m nm => ?_⟩
          obtain ⟨G4, hG4⟩ : ∃ G, G = upd G3 m (.lst [V.ref l1, V.ref l2, V.ref l3]) := ⟨_, rfl⟩
          rw [← hG4]
          have s4 : Same G3 G4 := by rw [hG4]; exact same_upd nm
          have hm4 : G4 m = some (.lst [V.ref l1, V.ref l2, V.ref l3]) := by rw [hG4]; exact upd_same
          clear hG4 nm
          have z4 := z3.same s4
          have t4 := t3.same s4
          replace e1 := e1.same s4
          replace e2 := e2.same s4
          replace e3 := e3.same s4
          replace sG := sG.trans s4
          clear s4
          have q5 := XR.Same.tup sG q3
          refine ⟨_, rfl, _, rfl, _, rfl, a, _, _, _, rfl, rfl, q5, atI_nat (xs := [x0, x1, x2, x3, x4]) (j := 0) rfl, _, rfl, a, _, _, _, rfl, rfl, q5, atI_nat (xs := [x0, x1, x2, x3, x4]) (j := 2) rfl, _, rfl, a, _, _, _, rfl, rfl, q5, atI_nat (xs := [x0, x1, x2, x3, x4]) (j := 1) rfl, ll20 (by show 3 ≤ 20; decide), fun u nu => ?_⟩
          have su := same_upd (o := .tup [x0, x2, x1]) nu
          have hu : Dz K Z (upd G4 u (.tup [x0, x2, x1])) (.ref u) (.tuple [d0, d2, d1]) := Dz.new_tup (.cons (Dz.same a0 sG) (.cons (Dz.same a2 sG) (.cons (Dz.same a1 sG) .nil))) z4 nu
          replace z4 := z4.same su
          replace t4 := t4.same su
          replace e1 := e1.same su
          replace e2 := e2.same su
          replace e3 := e3.same su
          replace sG := sG.trans su
          replace hm4 := su _ _ hm4
          generalize upd G4 u (.tup [x0, x2, x1]) = G5 at *
          refine ⟨_, rfl, 3, rfl, ?_⟩
          dsimp only [tNoPart]
          refine sl_dz (lo := some ((3 : Nat) : Int)) z4 t4 fun v G6 s6 e6 => ?_
          have lv : (cutD [d0, d1, d2, d3, d4] (some ((3 : Nat) : Int)) none).length = 2 := cutD_from (n := 3)
          refine cat_dz (z4.same s6) (hu.same s6) e6 (by rw [lv]; exact ll20 (by show 5 ≤ 20; decide)) fun l4 G7 s7 e4 => ?_
          replace e1 := (e1.same s6).same s7
          replace e2 := (e2.same s6).same s7
          replace e3 := (e3.same s6).same s7
          replace sG := (sG.trans s6).trans s7
          replace hm4 := s7 _ _ (s6 _ _ hm4)
          have z7 := (z4.same s6).same s7
          clear s6 s7 e6 su hu nu z4 t4
          refine ⟨ll20 (by show 1 ≤ 20; decide), fun k nk => ?_⟩
          obtain ⟨G8, hG8⟩ : ∃ G, G = upd G7 k (.lst [V.ref l4]) := ⟨_, rfl⟩
          rw [← hG8]
          have s8 : Same G7 G8 := by rw [hG8]; exact same_upd nk
          have hk8 : G8 k = some (.lst [V.ref l4]) := by rw [hG8]; exact upd_same
          clear hG8 nk
          refine ⟨_, _, _, _, rfl, rfl, s8 _ _ hm4, hk8, by show 3 + 1 ≤ sizeLine; decide, fun ll n_ll => ?_⟩
          have sl := same_upd (o := .lst ([V.ref l1, V.ref l2, V.ref l3] ++ [V.ref l4])) n_ll
          have z8 := z7.same (s8.trans sl)
          replace e1 := e1.same (s8.trans sl)
          replace e2 := e2.same (s8.trans sl)
          replace e3 := e3.same (s8.trans sl)
          replace e4 := e4.same (s8.trans sl)
          replace sG := sG.trans (s8.trans sl)
          refine ⟨p, ll, _, rfl, z8.pot, upd_same, (z7.same s8).pot.ne n_ll, by show 0 < 4; decide, by show 4 ≤ 1000; decide, fun y H' hy hp' b' => ?_⟩
          have bb := B3.trans ((Same.but sG).trans b')
          simp only [List.cons_append, List.nil_append, List.mem_cons, List.not_mem_nil, or_false] at hy
          rcases hy with rfl | rfl | rfl | rfl
          · exact z _ _ _ hp' bb (e1.step z8 b') (lst_tok (by show 5 ≤ 6; decide) hitems)
          · exact z _ _ _ hp' bb (e2.step z8 b') (tup_tok (Nat.le_trans (cutD_len _ _ _) (by show 5 ≤ 6; decide)) fun e he => hitems e (cutD_mem he))
          · refine z _ _ _ hp' bb (e3.step z8 b') (tup_tok (by show 6 ≤ 6; decide) fun e he => ?_)
            rcases List.mem_append.mp he with he | he
            · exact hitems e he
            · exact hitems e (by rw [List.mem_singleton.mp he]; simp)
          · refine z _ _ _ hp' bb (e4.step z8 b') (tup_tok (by rw [List.length_append, lv]; show 5 ≤ 6; decide) fun e he => ?_)
            rcases List.mem_append.mp he with he | he
            · refine hitems e ?_
              simp only [List.mem_cons, List.not_mem_nil, or_false] at he ⊢
              rcases he with h | h | h <;> simp [h]
            · exact hitems e (cutD_mem he)
        · obtain ⟨a', xs3, ea, q3, k3⟩ := hd3.tup_ref
          cases ea
          have hl3 := DqAll.length k3
          have hnl : n < xs3.length := by rw [hl3, hl5]; exact hn
          obtain ⟨dw, w1', hown⟩ := DqAll.get k3 (List.getElem?_eq_getElem hnl)
          have hpw : PartOk j dw := hok.p hl5 dw (List.mem_of_getElem? w1')
          have hown0 : Dz K Z H3 xs3[n] dw := hown
          refine ⟨_, rfl, _, rfl, a, xs3, _, _, rfl, rfl, q3, atI_nat (List.getElem?_eq_getElem hnl), ?_⟩
          have fin : ∀ (σ : St) (own : V) (e' : PyData) (H' : Hp), PotAt H' p → But p H3 H' → Dz K Z H' own e' → PartOk (j + 1) e' → σ[1]? = some (some (.ref a)) → σ[2]? = some (some (.int (n : Nat))) → σ[5]? = some (some own) → tSplice K 2 (tVar 5) σ H' Q := by
            intro σ own e' H' hp' b' he ho i1 i2 i5
            refine rd_splice (G := PartOk (j + 1)) (hz3.step hp' b') (hd3.step hz3 b') (by rw [hl5]; decide) (by rw [hl5]; exact hn) i1 i2 (fun H4 Q1 s4 k => ⟨_, i5, k own e' H4 (hp'.same s4) (But.refl p H4) (he.same s4) ho⟩) (fun t H5 es hp5 b5 h5 el em => ?_)
            exact z _ _ _ hp5 (B3.trans (b'.trans b5)) h5 (tup_tok (by rw [el, hl5]; decide) fun e he => (em e he).elim (fun q => hitems e q) id)
          generalize xs3[n] = xo at hown hown0 ⊢
          clear q3 k3 hl3 hnl w1'
          refine ⟨_, rfl, rfl, _, rfl, ?_⟩
          refine ite2 (fun cw2 => ?_) (fun cw2 => ?_)
          · refine ⟨_, rfl, xo, _, _, _, _, rfl, .ty "int", hown0.dq.ty, kit_ty (kit_int _), _, rfl, ?_⟩
            cases hown with
            | int i =>
              obtain ⟨i0, i1⟩ := part_int hpw
              refine iteT ⟨_, rfl, _, rfl, i, 1, rfl, rfl, _, rfl, i, 1, rfl, rfl, _, rfl, i, 1, rfl, rfl, 1, rfl, ll20 (by show 6 ≤ 20; decide), fun l nl => ?_⟩
              have sl := same_upd (o := .lst [V.int (i - 1), V.int (i + 1), V.bl (decide (i = 1)), V.int (-1), V.int 61, V.int 60]) nl
              refine ⟨p, l, _, rfl, hp3.same sl, upd_same, hp3.ne nl, by show 0 < 6; decide, by show 6 ≤ 1000; decide, fun y H' hy hp' b' => ?_⟩
              have bb := (Same.but sl).trans b'
              simp only [List.mem_cons, List.not_mem_nil, or_false] at hy
              rcases hy with rfl | rfl | rfl | rfl | rfl | rfl
              · exact fin _ _ _ _ hp' bb (.int _) (int_part (by omega) (by omega) (by omega)) rfl rfl rfl
              · exact fin _ _ _ _ hp' bb (.int _) (int_part (by omega) (by omega) (by omega)) rfl rfl rfl
              · exact fin _ _ _ _ hp' bb (.bl _) (bl_part _) rfl rfl rfl
              · exact fin _ _ _ _ hp' bb (.int _) (int_part (by omega) (by omega) (by omega)) rfl rfl rfl
              · exact fin _ _ _ _ hp' bb (.int _) (int_part (by omega) (by omega) (by omega)) rfl rfl rfl
              · exact fin _ _ _ _ hp' bb (.int _) (int_part (by omega) (by omega) (by omega)) rfl rfl rfl
            | bl b =>
              have i0 : 0 ≤ (if b = true then (1 : Int) else 0) := by split <;> decide
              have i1 : (if b = true then (1 : Int) else 0) ≤ 1 := by split <;> decide
              refine iteT ⟨_, rfl, _, rfl, (if b = true then (1 : Int) else 0), 1, rfl, rfl, _, rfl, (if b = true then (1 : Int) else 0), 1, rfl, rfl, _, rfl, (if b = true then (1 : Int) else 0), 1, rfl, rfl, 1, rfl, ll20 (by show 6 ≤ 20; decide), fun l nl => ?_⟩
              have sl := same_upd (o := .lst [V.int ((if b = true then (1 : Int) else 0) - 1), V.int ((if b = true then (1 : Int) else 0) + 1), V.bl (decide ((if b = true then (1 : Int) else 0) = 1)), V.int (-1), V.int 61, V.int 60]) nl
              refine ⟨p, l, _, rfl, hp3.same sl, upd_same, hp3.ne nl, by show 0 < 6; decide, by show 6 ≤ 1000; decide, fun y H' hy hp' b' => ?_⟩
              have bb := (Same.but sl).trans b'
              simp only [List.mem_cons, List.not_mem_nil, or_false] at hy
              rcases hy with rfl | rfl | rfl | rfl | rfl | rfl
              · exact fin _ _ _ _ hp' bb (.int _) (int_part (by omega) (by omega) (by omega)) rfl rfl rfl
              · exact fin _ _ _ _ hp' bb (.int _) (int_part (by omega) (by omega) (by omega)) rfl rfl rfl
              · exact fin _ _ _ _ hp' bb (.bl _) (bl_part _) rfl rfl rfl
              · exact fin _ _ _ _ hp' bb (.int _) (int_part (by omega) (by omega) (by omega)) rfl rfl rfl
              · exact fin _ _ _ _ hp' bb (.int _) (int_part (by omega) (by omega) (by omega)) rfl rfl rfl
              · exact fin _ _ _ _ hp' bb (.int _) (int_part (by omega) (by omega) (by omega)) rfl rfl rfl
            | @tup o ys fs g1 g2 =>
              refine iteF ⟨_, rfl, _, _, _, _, _, rfl, .ty "tuple", hown0.dq.ty, kit_ty (kit_tuple _), _, rfl, iteT ?_⟩
              have so := XR.Same.tup cut_sub g1
              refine ⟨_, rfl, _, rfl, o, ys, rfl, .inr so, fun l1 n1 => ?_⟩
              obtain ⟨G1, hG1⟩ : ∃ G, G = upd H3 l1 (.lst ys) := ⟨_, rfl⟩
              rw [← hG1]
              have sG : Same H3 G1 := by rw [hG1]; exact same_upd n1
              have e1 : Dz K Z G1 (.ref l1) (.list fs) := by rw [hG1]; exact Dz.new_lst g2 hz3 n1
              clear hG1 n1
              have z1 := hz3.same sG
              have lf : fs.length ≤ 61 + j := hpw.n
              have lo : ∀ f ∈ fs, Lo f := hpw.lo
              have le1 : fs.length + 1 ≤ sizeLine := Nat.le_trans (show fs.length + 1 ≤ 70 by omega) (by decide)
              refine ⟨_, rfl, ll20 (by show 1 ≤ 20; decide), fun u nu => ?_⟩
              have su := same_upd (o := .tup [V.non]) nu
              have hu : Dz K Z (upd G1 u (.tup [V.non])) (.ref u) (.tuple [.none]) := Dz.new_tup (.cons .non .nil) z1 nu
              refine cat_dz (z1.same su) (((hown0).same sG).same su) hu le1 fun l2 G2 s2 e2 => ?_
              replace e1 := (e1.same su).same s2
              replace sG := (sG.trans su).trans s2
              replace z1 := (z1.same su).same s2
              clear su s2 hu nu
              refine ⟨_, rfl, ll20 (by show 1 ≤ 20; decide), fun u nu => ?_⟩
              have su := same_upd (o := .tup [V.str "z"]) nu
              have hu : Dz K Z (upd G2 u (.tup [V.str "z"])) (.ref u) (.tuple [.str "z"]) := Dz.new_tup (.cons (.str _) .nil) z1 nu
              refine cat_dz (z1.same su) (((hown0).same sG).same su) hu le1 fun l3 G3 s3 e3 => ?_
              replace e1 := (e1.same su).same s3
              replace e2 := (e2.same su).same s3
              replace sG := (sG.trans su).trans s3
              replace z1 := (z1.same su).same s3
              clear su s3 hu nu
              refine ⟨ll20 (by show 3 ≤ 20; decide), fun m nm => ?_⟩
              have sm := same_upd (o := .lst [V.ref l1, V.ref l2, V.ref l3]) nm
              refine ⟨p, m, _, rfl, z1.pot.same sm, upd_same, z1.pot.ne nm, by show 0 < 3; decide, by show 3 ≤ 1000; decide, fun y H' hy hp' b' => ?_⟩
              have bb := (Same.but (sG.trans sm)).trans b'
              have z2 := z1.same sm
              simp only [List.mem_cons, List.not_mem_nil, or_false] at hy
              rcases hy with rfl | rfl | rfl
              · exact fin _ _ _ _ hp' bb ((e1.same sm).step z2 b') (lst_part (by omega) (by omega) lo) rfl rfl rfl
              · refine fin _ _ _ _ hp' bb ((e2.same sm).step z2 b') (tup_part (by omega) (by rw [List.length_append]; show fs.length + 1 ≤ _; omega) fun f hf => ?_) rfl rfl rfl
                rcases List.mem_append.mp hf with hf | hf
                · exact lo f hf
                · rw [List.mem_singleton.mp hf]; exact shx_of (by decide +kernel)
              · refine fin _ _ _ _ hp' bb ((e3.same sm).step z2 b') (tup_part (by omega) (by rw [List.length_append]; show fs.length + 1 ≤ _; omega) fun f hf => ?_) rfl rfl rfl
                rcases List.mem_append.mp hf with hf | hf
                · exact lo f hf
                · rw [List.mem_singleton.mp hf]; exact shx_of (by decide +kernel)
            | _ => exact iteF ⟨_, rfl, _, _, _, _, _, rfl, .ty "tuple", hown0.dq.ty, kit_ty (kit_tuple _), _, rfl, iteF (fin _ _ _ _ hp3 (But.refl p H3) hown0 (hpw.le (Nat.le_succ _)) rfl rfl rfl)⟩
          · refine ⟨_, rfl, xo, _, _, _, _, rfl, .ty "tuple", hown0.dq.ty, kit_ty (kit_tuple _), _, rfl, ?_⟩
            cases hown with
            | @tup o ys fs g1 g2 =>
              refine iteT ?_
              have so := XR.Same.tup cut_sub g1
              refine ⟨_, rfl, _, rfl, o, ys, rfl, .inr so, fun l1 n1 => ?_⟩
              obtain ⟨G1, hG1⟩ : ∃ G, G = upd H3 l1 (.lst ys) := ⟨_, rfl⟩
              rw [← hG1]
              have sG : Same H3 G1 := by rw [hG1]; exact same_upd n1
              have e1 : Dz K Z G1 (.ref l1) (.list fs) := by rw [hG1]; exact Dz.new_lst g2 hz3 n1
              clear hG1 n1
              have z1 := hz3.same sG
              have lf : fs.length ≤ 61 + j := hpw.n
              have lo : ∀ f ∈ fs, Lo f := hpw.lo
              have le1 : fs.length + 1 ≤ sizeLine := Nat.le_trans (show fs.length + 1 ≤ 70 by omega) (by decide)
              refine ⟨_, rfl, ll20 (by show 1 ≤ 20; decide), fun u nu => ?_⟩
              have su := same_upd (o := .tup [V.non]) nu
              have hu : Dz K Z (upd G1 u (.tup [V.non])) (.ref u) (.tuple [.none]) := Dz.new_tup (.cons .non .nil) z1 nu
              refine cat_dz (z1.same su) (((hown0).same sG).same su) hu le1 fun l2 G2 s2 e2 => ?_
              replace e1 := (e1.same su).same s2
              replace sG := (sG.trans su).trans s2
              replace z1 := (z1.same su).same s2
              clear su s2 hu nu
              refine ⟨_, rfl, ll20 (by show 1 ≤ 20; decide), fun u nu => ?_⟩
              have su := same_upd (o := .tup [V.str "z"]) nu
              have hu : Dz K Z (upd G2 u (.tup [V.str "z"])) (.ref u) (.tuple [.str "z"]) := Dz.new_tup (.cons (.str _) .nil) z1 nu
              refine cat_dz (z1.same su) (((hown0).same sG).same su) hu le1 fun l3 G3 s3 e3 => ?_
              replace e1 := (e1.same su).same s3
              replace e2 := (e2.same su).same s3
              replace sG := (sG.trans su).trans s3
              replace z1 := (z1.same su).same s3
              clear su s3 hu nu
              refine ⟨ll20 (by show 3 ≤ 20; decide), fun m nm => ?_⟩
              have sm := same_upd (o := .lst [V.ref l1, V.ref l2, V.ref l3]) nm
              refine ⟨p, m, _, rfl, z1.pot.same sm, upd_same, z1.pot.ne nm, by show 0 < 3; decide, by show 3 ≤ 1000; decide, fun y H' hy hp' b' => ?_⟩
              have bb := (Same.but (sG.trans sm)).trans b'
              have z2 := z1.same sm
              simp only [List.mem_cons, List.not_mem_nil, or_false] at hy
              rcases hy with rfl | rfl | rfl
              · exact fin _ _ _ _ hp' bb ((e1.same sm).step z2 b') (lst_part (by omega) (by omega) lo) rfl rfl rfl
              · refine fin _ _ _ _ hp' bb ((e2.same sm).step z2 b') (tup_part (by omega) (by rw [List.length_append]; show fs.length + 1 ≤ _; omega) fun f hf => ?_) rfl rfl rfl
                rcases List.mem_append.mp hf with hf | hf
                · exact lo f hf
                · rw [List.mem_singleton.mp hf]; exact shx_of (by decide +kernel)
              · refine fin _ _ _ _ hp' bb ((e3.same sm).step z2 b') (tup_part (by omega) (by rw [List.length_append]; show fs.length + 1 ≤ _; omega) fun f hf => ?_) rfl rfl rfl
                rcases List.mem_append.mp hf with hf | hf
                · exact lo f hf
                · rw [List.mem_singleton.mp hf]; exact shx_of (by decide +kernel)
            | _ => exact iteF (fin _ _ _ _ hp3 (But.refl p H3) hown0 (hpw.le (Nat.le_succ _)) rfl rfl rfl)
    | _ =>
      refine iteT (iteT ?_)
      exact ⟨_, rfl, p, Z, rfl, hz, fun y e H' hp' b' he hm => z _ _ _ hp' b' he ((odd_tok hm).le (Nat.zero_le _))⟩
end
end K64
namespace XR
open PySem L2
def spBent (K : PySem.W.Frag) : Sp := fun vs H Q _ => ∃ (p : Addr) (Z : List Addr) (x : V) (d : PyData), vs = [.ref p, x] ∧ PZ Z p H ∧ Dz K Z H x d ∧ ValOk 0 d ∧ ∀ y e H', PotAt H' p → But p H H' → Dz K Z H' y e → ValOk 2 e → Q y H'
theorem rep_val (m : Nat) (h : m ≤ 181) : ValOk 0 (.tuple (List.replicate m (.str "a"))) :=
  tup_val (by rw [List.length_replicate]; exact h) fun e he => by rw [List.eq_of_mem_replicate he]; exact lo_tok (shx_of (by decide +kernel)) rfl
end XR
namespace K64
open PySem L2 XR
abbrev sBent : Stmt := top 35
section
variable {P : Program} {w : World} {K : PySem.W.Frag} {mg : Str → Option Value} {base : Heap}
theorem scBent : FnScope ["_law_pot_here", "_law_value", "_law_turn", "_law_whole", "_law_at"] ["_law_pot_here", "_law_value"] (defScope sBent) := ⟨rfl, rfl, rfl, by decide +kernel, rfl, by decide +kernel, by decide +kernel⟩
theorem ok_bent {f fD fP fO fB : Addr} {fd fdD fdP fdO fdB : FuncData} (F : Fun K "_law_bent" "_law_bent" sBent f fd) (T : Blt mg) (D : Draws P w K mg base fD fP fdD fdP)
    (FO : Fun K "_law_odd" "_law_odd" sOdd fO fdO) (GO : FnOk P w K mg base CX0 3 fO fdO ["_law_pot_here"] (spOdd K)) (bO : Binds K fdO ["_law_pot_here"] []) (mO : mg "_law_odd" = some (.ref fO))
    (FB : Fun K "_law_bent_token" "_law_bent_token" sBentTok fB fdB) (GB : FnOk P w K mg base CX0 4 fB fdB ["_law_pot_here", "_law_token"] (spBentTok K)) (bB : Binds K fdB ["_law_pot_here", "_law_token"] []) (mB : mg "_law_bent_token" = some (.ref fB)) : FnOk P w K mg base CX0 5 f fd ["_law_pot_here", "_law_value"] (spBent K) := by
  refine F.ok scBent (fun vs H Q E h => ?_) (fun cdv A outer s H vs Q E hr h => ?_)
  · obtain ⟨p, Z, x, d, rfl, _⟩ := h
    rfl
  · obtain ⟨p, Z, x, d, rfl, hz, hd, hok, z⟩ := h
    have hp := hz.pot
    have hr1 := hr.mono (show 1 ≤ 4 by decide)
    have hr2 := hr.mono (show 2 ≤ 4 by decide)
    have hr3 := hr.mono (show 3 ≤ 4 by decide)
    refine ⟨_, pss_cons (ps_for PassesOwn.never rfl (pi_range1 rfl T.range (pa_cons (pe_op op_add pe_int (pe_call D.GD hr1 rfl D.mD D.FD.kp D.bD .nil pass0 (pa_cons (pv 0) (pa_cons pe_int pa_nil)))) pa_nil)) (pg_name (i := 2) scBent.nd rfl (.inl rfl))
        (pss_one (ps_if (PW.pt (pw_or (pt_not (pt_val (pe_callB call_isi (by rfl) T.isin (by decide +kernel) (pa_cons (pv 1) (pa_cons (pe_bltn (v := .ty "tuple") (u := .type "tuple") (by rfl) T.tuple (by decide +kernel) rfl) pa_nil))))) (pw_or1 (pt_cmpR op_eq (pe_call D.GD hr1 rfl D.mD D.FD.kp D.bD .nil pass0 (pa_cons (pv 0) (pa_cons pe_int pa_nil))) pe_int (nomark _)))))
          (pss_cons (ps_set (i := 3) scBent.nd rfl (.inl rfl) (pe_ifExp (pt_val (pe_callB call_isi (by rfl) T.isin (by decide +kernel) (pa_cons (pv 1) (pa_cons (pe_bltn (v := .ty "tuple") (u := .type "tuple") (by rfl) T.tuple (by decide +kernel) rfl) pa_nil)))) (pe_callTy call_list_of (by rfl) T.list (by decide +kernel) (pa_cons (pv 1) pa_nil)) (pe_tup pa_nil)))
          (pss_one (ps_set (i := 1) scBent.nd rfl (.inl rfl) (pe_call D.GP hr2 rfl D.mP D.FP.kp D.bP .nil pass0 (pa_cons (pv 0) (pa_cons (pe_lst (pa_cons (pv 3) (pa_cons (pe_call GO hr3 rfl mO FO.kp bO .nil pass0 (pa_cons (pv 0) pa_nil)) (pa_cons (pe_op op_repT (pe_tup (pa_cons pe_str pa_nil)) pe_int) (pa_cons (pe_op op_repT (pe_tup (pa_cons pe_str pa_nil)) pe_int) pa_nil))))) pa_nil))))))
          (pss_one (ps_if (pt_cmpR (op_neT0 hr) (pv 1) (pe_tup pa_nil) (nomark _))
            (pss_cons (ps_set (i := 4) scBent.nd rfl (.inl rfl) (pe_call D.GD hr1 rfl D.mD D.FD.kp D.bD .nil pass0 (pa_cons (pv 0) (pa_cons (pe_callB call_len_seq (by rfl) T.len PySem.boot_len (pa_cons (pv 1) pa_nil)) pa_nil))))
            (pss_one (ps_set (i := 1) scBent.nd rfl (.inl rfl) (pe_op op_catA (pe_op op_catA (pe_slice sl_tupA (pv 1) po_none (po_some (pv 4))) (pe_tup (pa_cons (pe_call GB hr rfl mB FB.kp bB .nil pass0 (pa_cons (pv 0) (pa_cons (pe_ix ix_tup (pv 1) (pv 4) (fun _ _ => rfl)) pa_nil))) pa_nil))) (pe_slice sl_tupA (pv 1) (po_some (pe_op op_add (pv 4) pe_int)) po_none)))))
            pss_nil)))))
      (pss_one (ps_ret (pv 1))), ?_⟩
    refine ⟨_, rfl, p, 2, rfl, hp, by decide, by decide, fun r H1 r0 r1 hp1 b1 => ⟨1, r, rfl, rfl, 1 + r, rfl, by omega, by omega, ?_⟩⟩
    refine for_range (n := (1 + r).toNat) (fun i σ H' => PotAt H' p ∧ But p H H' ∧ ∃ (x' : V) (d' : PyData) (y2 y3 y4 : Option V), σ = [some (V.ref p), some x', y2, y3, y4] ∧ Dz K Z H' x' d' ∧ ValOk i d') ⟨hp1, b1, x, d, _, _, _, rfl, hd.step hz b1, hok⟩ ?_ ?_
    · rintro i σ Ha hi ⟨hpa, ba, x', d', y2, y3, y4, rfl, hda, oka⟩
      have hi2 : i ≤ 1 := by omega
      have hza := hz.step hpa ba
      refine ⟨_, rfl, x', _, _, _, _, rfl, .ty "tuple", hda.dq.ty, kit_ty (kit_tuple _), _, rfl, ?_⟩
      have hda0 := hda
      cases hda with
      | @tup a xs ds h1 h2 =>
        refine iteF ⟨_, rfl, p, 6, rfl, hpa, by decide, by decide, fun q H2 q0 q1 hp2 b2 => ⟨rfl, _, rfl, ?_⟩⟩
        have B2 := ba.trans b2
        have hz2 := hz.step hp2 B2
        have hd2 := hda0.step hza b2
        obtain ⟨a', xs2, ea, q2, k2⟩ := hd2.tup_ref
        cases ea
        have hl2 := DqAll.length k2
        have hn2 : ds.length ≤ 181 := oka.n
        have ht2 : ∀ e ∈ ds, TokOk (i + 1) e := fun e he => (oka.t e he).le (Nat.le_succ _)
        refine ite2 (fun c1 => ?_) (fun c1 => ?_)
        · refine ⟨_, rfl, _, _, _, _, _, rfl, .ty "tuple", hd2.dq.ty, kit_ty (kit_tuple _), _, rfl, iteT ⟨_, rfl, a, xs2, rfl, .inr q2, fun lw nw => ?_⟩⟩
          obtain ⟨Gw, hGw⟩ : ∃ G, G = upd H2 lw (.lst xs2) := ⟨_, rfl⟩
          rw [← hGw]
          have sw : Same H2 Gw := by rw [hGw]; exact same_upd nw
          have e0 : Dz K Z Gw (.ref lw) (.list ds) := by rw [hGw]; exact Dz.new_lst k2 hz2 nw
          clear hGw nw
          have ok0 : ValOk (i + 1) (.list ds) := lst_val hn2 ht2
          replace hz2 := hz2.same sw
          replace B2 := B2.trans (Same.but sw)
          refine ⟨_, rfl, _, rfl, _, rfl, p, Z, rfl, hz2, fun xo do' H3 hp3 b3 ho hm => ?_⟩
          have z3 := hz2.step hp3 b3
          replace e0 := e0.step hz2 b3
          refine ⟨ll20 (by show 1 ≤ 20; decide), fun u1 n1 => ?_⟩
          obtain ⟨G1, hG1⟩ : ∃ G, G = upd H3 u1 (.tup [V.str "a"]) := ⟨_, rfl⟩
          rw [← hG1]
          have s1 : Same H3 G1 := by rw [hG1]; exact same_upd n1
          have g1 : G1 u1 = some (.tup [V.str "a"]) := by rw [hG1]; exact upd_same
          clear hG1 n1
          refine ⟨_, _, _, rfl, rfl, SqT.of g1, by decide, by decide, by decide, by decide, fun u2 n2 => ?_⟩
          show tCons _ _ _ (upd G1 u2 (.tup (List.replicate 180 (V.str "a")))) _
          obtain ⟨G2, hG2⟩ : ∃ G, G = upd G1 u2 (.tup (List.replicate 180 (V.str "a"))) := ⟨_, rfl⟩
          rw [← hG2]
          have s2 : Same G1 G2 := by rw [hG2]; exact same_upd n2
          have e2 : Dz K Z G2 (.ref u2) (.tuple (List.replicate 180 (.str "a"))) := by rw [hG2]; exact Dz.new_tup (DqAll.rep (.str _) _) (z3.same s1) n2
          clear hG2 n2
          have z4 := (z3.same s1).same s2
          refine ⟨ll20 (by show 1 ≤ 20; decide), fun u3 n3 => ?_⟩
          obtain ⟨G3, hG3⟩ : ∃ G, G = upd G2 u3 (.tup [V.str "a"]) := ⟨_, rfl⟩
          rw [← hG3]
          have s3 : Same G2 G3 := by rw [hG3]; exact same_upd n3
          have g3 : G3 u3 = some (.tup [V.str "a"]) := by rw [hG3]; exact upd_same
          clear hG3 n3
          refine ⟨_, _, _, rfl, rfl, SqT.of g3, by decide, by decide, by decide, by decide, fun u4 n4 => ?_⟩
          show tNil _ (upd G3 u4 (.tup (List.replicate 181 (V.str "a")))) _
          obtain ⟨G4, hG4⟩ : ∃ G, G = upd G3 u4 (.tup (List.replicate 181 (V.str "a"))) := ⟨_, rfl⟩
          rw [← hG4]
          have s4 : Same G3 G4 := by rw [hG4]; exact same_upd n4
          have e4 : Dz K Z G4 (.ref u4) (.tuple (List.replicate 181 (.str "a"))) := by rw [hG4]; exact Dz.new_tup (DqAll.rep (.str _) _) (z4.same s3) n4
          clear hG4 n4
          have sG := ((s1.trans s2).trans s3).trans s4
          replace e2 := (e2.same s3).same s4
          refine ⟨ll20 (by show 4 ≤ 20; decide), fun l nl => ?_⟩
          have sl := same_upd (o := .lst [V.ref lw, xo, V.ref u2, V.ref u4]) nl
          have z5 := (z3.same sG).same sl
          refine ⟨p, l, _, rfl, z5.pot, upd_same, (z3.same sG).pot.ne nl, by show 0 < 4; decide, by show 4 ≤ 1000; decide, fun y H' hy hp' b' => ?_⟩
          have bb := (B2.trans b3).trans ((Same.but (sG.trans sl)).trans b')
          simp only [List.mem_cons, List.not_mem_nil, or_false] at hy
          rcases hy with rfl | rfl | rfl | rfl
          · exact ⟨hp', bb, _, _, _, _, _, rfl, (e0.same (sG.trans sl)).step z5 b', ok0⟩
          · exact ⟨hp', bb, _, _, _, _, _, rfl, (ho.same (sG.trans sl)).step z5 b', (odd_val hm).le (Nat.zero_le _)⟩
          · exact ⟨hp', bb, _, _, _, _, _, rfl, (e2.same sl).step z5 b', (rep_val 180 (by decide)).le (Nat.zero_le _)⟩
          · exact ⟨hp', bb, _, _, _, _, _, rfl, (e4.same sl).step z5 b', (rep_val 181 (by decide)).le (Nat.zero_le _)⟩
        · refine ⟨_, rfl, ll20 (by show 0 ≤ 20; decide), fun t nt => ?_⟩
          have st := same_upd (o := .tup []) nt
          refine ⟨a, t, xs2, rfl, rfl, XR.Same.tup st q2, SqT.of upd_same, _, rfl, ?_⟩
          replace hz2 := hz2.same st
          replace B2 := B2.trans (Same.but st)
          replace hd2 := hd2.same st
          replace q2 := XR.Same.tup st q2
          generalize upd H2 t (.tup []) = G at *
          refine ite2 (fun c2 => ?_) (fun c2 => ?_)
          · have hne : xs2 ≠ [] := of_decide_eq_true c2
            have hpos : 0 < xs2.length := List.length_pos_iff.mpr hne
            refine ⟨_, rfl, _, rfl, a, xs2, rfl, .inr q2, p, _, rfl, hz2.pot, by omega, Int.le_trans (show (xs2.length : Int) ≤ 181 by omega) (by decide), fun at' H3 a0 a1 hp3 b3 => ?_⟩
            have z3 := hz2.step hp3 b3
            have d3 := hd2.step hz2 b3
            have B3 := B2.trans b3
            obtain ⟨n, rfl, hn⟩ : ∃ n : Nat, at' = (n : Int) ∧ n < ds.length := ⟨at'.toNat, by omega, by omega⟩
            have hok2 : ∀ e ∈ ds, TokOk i e := oka.t
            refine rd_splice (ia := 4) (te := tCall (spBentTok K) [] E0 (tCons (tVar 0) (tCons (tOp (rIxT K) (tVar 1) (tVar 4)) tNil))) (G := TokOk (i + 1)) z3 d3 (by omega) hn rfl rfl (fun H4 Q1 s4 k => ?_) (fun t H' es hp' b' he el em => ?_)
            · obtain ⟨a', xs4, ea, q4, k4⟩ := (d3.same s4).tup_ref
              cases ea
              have hl4 := DqAll.length k4
              have hn4 : n < xs4.length := by rw [hl4]; exact hn
              obtain ⟨dw, w1, w2⟩ := DqAll.get k4 (List.getElem?_eq_getElem hn4)
              exact ⟨_, rfl, _, rfl, _, rfl, a, xs4, _, _, rfl, rfl, q4, atI_nat (List.getElem?_eq_getElem hn4), p, Z, xs4[n], dw, i, rfl, z3.same s4, w2, hok2 dw (List.mem_of_getElem? w1), by omega, fun y e H' hp' b' he ho => k y e H' hp' b' he ho⟩
            · exact ⟨hp', B3.trans b', _, _, _, _, _, rfl, he, tup_val (by rw [el]; exact hn2) fun e he => (em e he).elim (fun q => ht2 e q) id⟩
          · exact ⟨hz2.pot, B2, _, _, _, _, _, rfl, hd2, oka.le (Nat.le_succ _)⟩
      | _ =>
        refine iteT ⟨_, rfl, _, _, _, _, _, rfl, .ty "tuple", hda0.dq.ty, kit_ty (kit_tuple _), _, rfl, iteF ⟨ll20 (by show 0 ≤ 20; decide), fun lw nw => ?_⟩⟩
        have sw := same_upd (o := .tup []) nw
        have e0 : Dz K Z (upd Ha lw (.tup [])) (.ref lw) (.tuple []) := Dz.new_tup .nil hza nw
        have ok0 : ValOk (i + 1) (.tuple []) := tup_val (by decide) fun e he => nomatch he
        have hz2 := hza.same sw
        have B2 := ba.trans (Same.but sw)
        generalize upd Ha lw (.tup []) = Gw at *
        refine ⟨_, rfl, _, rfl, _, rfl, p, Z, rfl, hz2, fun xo do' H3 hp3 b3 ho hm => ?_⟩
        have z3 := hz2.step hp3 b3
        replace e0 := e0.step hz2 b3
        refine ⟨ll20 (by show 1 ≤ 20; decide), fun u1 n1 => ?_⟩
        obtain ⟨G1, hG1⟩ : ∃ G, G = upd H3 u1 (.tup [V.str "a"]) := ⟨_, rfl⟩
        rw [← hG1]
        have s1 : Same H3 G1 := by rw [hG1]; exact same_upd n1
        have g1 : G1 u1 = some (.tup [V.str "a"]) := by rw [hG1]; exact upd_same
        clear hG1 n1
        refine ⟨_, _, _, rfl, rfl, SqT.of g1, by decide, by decide, by decide, by decide, fun u2 n2 => ?_⟩
        show tCons _ _ _ (upd G1 u2 (.tup (List.replicate 180 (V.str "a")))) _
        obtain ⟨G2, hG2⟩ : ∃ G, G = upd G1 u2 (.tup (List.replicate 180 (V.str "a"))) := ⟨_, rfl⟩
        rw [← hG2]
        have s2 : Same G1 G2 := by rw [hG2]; exact same_upd n2
        have e2 : Dz K Z G2 (.ref u2) (.tuple (List.replicate 180 (.str "a"))) := by rw [hG2]; exact Dz.new_tup (DqAll.rep (.str _) _) (z3.same s1) n2
        clear hG2 n2
        have z4 := (z3.same s1).same s2
        refine ⟨ll20 (by show 1 ≤ 20; decide), fun u3 n3 => ?_⟩
        obtain ⟨G3, hG3⟩ : ∃ G, G = upd G2 u3 (.tup [V.str "a"]) := ⟨_, rfl⟩
        rw [← hG3]
        have s3 : Same G2 G3 := by rw [hG3]; exact same_upd n3
        have g3 : G3 u3 = some (.tup [V.str "a"]) := by rw [hG3]; exact upd_same
        clear hG3 n3
        refine ⟨_, _, _, rfl, rfl, SqT.of g3, by decide, by decide, by decide, by decide, fun u4 n4 => ?_⟩
        show tNil _ (upd G3 u4 (.tup (List.replicate 181 (V.str "a")))) _
        obtain ⟨G4, hG4⟩ : ∃ G, G = upd G3 u4 (.tup (List.replicate 181 (V.str "a"))) := ⟨_, rfl⟩
        rw [← hG4]
        have s4 : Same G3 G4 := by rw [hG4]; exact same_upd n4
        have e4 : Dz K Z G4 (.ref u4) (.tuple (List.replicate 181 (.str "a"))) := by rw [hG4]; exact Dz.new_tup (DqAll.rep (.str _) _) (z4.same s3) n4
        clear hG4 n4
        have sG := ((s1.trans s2).trans s3).trans s4
        replace e2 := (e2.same s3).same s4
        refine ⟨ll20 (by show 4 ≤ 20; decide), fun l nl => ?_⟩
        have sl := same_upd (o := .lst [V.ref lw, xo, V.ref u2, V.ref u4]) nl
        have z5 := (z3.same sG).same sl
        refine ⟨p, l, _, rfl, z5.pot, upd_same, (z3.same sG).pot.ne nl, by show 0 < 4; decide, by show 4 ≤ 1000; decide, fun y H' hy hp' b' => ?_⟩
        have bb := (B2.trans b3).trans ((Same.but (sG.trans sl)).trans b')
        simp only [List.mem_cons, List.not_mem_nil, or_false] at hy
        rcases hy with rfl | rfl | rfl | rfl
        · exact ⟨hp', bb, _, _, _, _, _, rfl, (e0.same (sG.trans sl)).step z5 b', ok0⟩
        · exact ⟨hp', bb, _, _, _, _, _, rfl, (ho.same (sG.trans sl)).step z5 b', (odd_val hm).le (Nat.zero_le _)⟩
        · exact ⟨hp', bb, _, _, _, _, _, rfl, (e2.same sl).step z5 b', (rep_val 180 (by decide)).le (Nat.zero_le _)⟩
        · exact ⟨hp', bb, _, _, _, _, _, rfl, (e4.same sl).step z5 b', (rep_val 181 (by decide)).le (Nat.zero_le _)⟩
    · rintro σ Ha ⟨hpa, ba, x', d', y2, y3, y4, rfl, hda, oka⟩
      exact ⟨_, rfl, z _ _ _ hpa ba hda (oka.le (by omega))⟩
end
end K64
/-! Bounds of what is told; data without dicts as they are compared. -/
namespace XR
open PySem L2
theorem nums_shx2 : ∀ i : Fin 200, shxB 8 1 (.int ((i : Nat) : Int)) = true := by decide +kernel
theorem nat_shx {i : Nat} (h : i < 200) : Shx 8 1 (.int (i : Int)) := shx_of (nums_shx2 ⟨i, h⟩)
theorem places_lt {ds : List PyData} {i : Nat} (h : i ∈ places ds) : i < ds.length := by
  unfold places placesTo at h
  exact List.mem_range.mp (List.mem_filter.mp h).1
theorem num_shx {ds : List PyData} (l : ds.length ≤ 181) : ∀ d ∈ numL (places ds), Shx 8 1 d := fun d hd => by
  obtain ⟨i, hi, rfl⟩ := List.mem_map.mp hd
  exact nat_shx (Nat.lt_of_lt_of_le (places_lt hi) (by omega))
theorem num_len (ds : List PyData) : (numL (places ds)).length ≤ ds.length := by
  unfold numL
  rw [List.length_map]
  exact placesTo_len ds ds.length
theorem row_tup {d : PyData} (h : rowB d = true) : ∃ ds, d = .tuple ds := by
  cases d with
  | tuple ds => exact ⟨ds, rfl⟩
  | _ => cases h
theorem swap_shx {j : Nat} {d : PyData} (h : TokOk j d) (t : tokB d = true) : Shx 5000 6 (swapD d) := by
  cases d with
  | tuple ds =>
    have hl : ds.length = 5 := by
      by_cases h : ds.length = 5
      · exact h
      · have t' : clashB (.tuple ds) = true := t
        rw [not5 h] at t'
        cases t'
    have hp := h.p hl
    rcases ds with _ | ⟨d0, _ | ⟨d1, _ | ⟨d2, _ | ⟨d3, _ | ⟨d4, _ | ⟨d5, ds⟩⟩⟩⟩⟩⟩
    all_goals first
      | (simp at hl; done)
      | skip
    refine (tup_tok (j := j) (by show 5 ≤ 6; decide) fun e he => hp e ?_).sh
    show e ∈ [d0, d1, d2, d3, d4]
    simp only [List.mem_cons, List.not_mem_nil, or_false] at he ⊢
    rcases he with h | h | h | h | h <;> simp [h]
  | _ => exact h.sh
theorem word_shw : Shw 12 1 (.str "none") ∧ Shw 12 1 (.str "told") ∧ Shw 12 1 (.str "clashes") ∧ Shw 12 1 (.bool true) :=
  ⟨⟨by decide +kernel, by decide +kernel, by decide +kernel⟩, ⟨by decide +kernel, by decide +kernel, by decide +kernel⟩, ⟨by decide +kernel, by decide +kernel, by decide +kernel⟩, ⟨by decide +kernel, by decide +kernel, by decide +kernel⟩⟩
theorem ask_shw {way : Int} {d : PyData} (h : ValOk 2 d) : Shw 16000000 20 (askD way d) := by
  obtain ⟨w1, w2, w3, w4⟩ := word_shw
  cases e : rowB d with
  | false =>
    rw [ask_no e]
    exact (shw_three w1 (shw_str h.sh) w4).le (by decide) (by decide)
  | true =>
    obtain ⟨ds, rfl⟩ := row_tup e
    have n : ds.length ≤ 181 := h.n
    have ht : ∀ f ∈ ds, TokOk 2 f := h.t
    have hall : ds.all tokB = true := by rw [rowB_tup, Bool.and_eq_true] at e; exact e.2
    by_cases c0 : way = 0
    · rw [ask_0 e c0]
      exact (shw_two (k := 2) (w2.le (Nat.le_refl _) (by decide)) (Shx.list (m := 181) (num_shx n) (Nat.le_trans (num_len ds) n)).sh).le (by decide) (by decide)
    · by_cases c1 : way = 1
      · rw [ask_1 e c1]
        refine (shw_two (k := 7) (w2.le (Nat.le_refl _) (by decide)) (Shx.tuple (n := 5000) (k := 6) (m := 181) (fun f hf => ?_) (by rw [List.length_map]; exact n)).sh).le (by decide) (by decide)
        obtain ⟨g, hg, rfl⟩ := List.mem_map.mp hf
        exact swap_shx (ht g hg) (List.all_eq_true.mp hall g hg)
      · by_cases p : places ds = []
        · rw [ask_2a e c0 c1 p]
          exact (shw_two (k := 7) (w2.le (Nat.le_refl _) (by decide)) (Shx.list (n := 5000) (k := 6) (m := 181) (fun f hf => (ht f hf).sh) n).sh).le (by decide) (by decide)
        · rw [ask_2b e c0 c1 p]
          exact (shw_three (k := 2) (w3.le (Nat.le_refl _) (by decide)) (Shx.tuple (m := 181) (num_shx n) (Nat.le_trans (num_len ds) n)).sh (w4.le (Nat.le_refl _) (by decide))).le (by decide) (by decide)
mutual
theorem Dq.dp {K : PySem.W.Frag} {H : Hp} : ∀ {v : V} {d : PyData}, Dq K H v d → d.canLay0 = true → Dp K H v d
  | _, _, .non, _ => .non
  | _, _, .bl b, _ => .bl b
  | _, _, .int i, _ => .int i
  | _, _, .str x, _ => .str x
  | _, _, .lst h1 h2, h => .lst h1 (DqAll.dp h2 (by simpa only [PyData.canLay0] using h))
  | _, _, .tup h1 h2, h => .tup h1 (DqAll.dp h2 (by simpa only [PyData.canLay0] using h))
  | _, _, .dct h1 h2 h3, h => by simp [PyData.canLay0] at h
theorem DqAll.dp {K : PySem.W.Frag} {H : Hp} : ∀ {vs : List V} {ds : List PyData}, DqAll K H vs ds → PyData.canLayAll0 ds = true → DpAll K H vs ds
  | _, _, .nil, _ => .nil
  | _, _, .cons a b, h => .cons (Dq.dp a (by simp only [PyData.canLayAll0, Bool.and_eq_true] at h; exact h.1)) (DqAll.dp b (by simp only [PyData.canLayAll0, Bool.and_eq_true] at h; exact h.2))
end
theorem layAll_of : ∀ {ds : List PyData}, (∀ d ∈ ds, d.canLay0 = true) → PyData.canLayAll0 ds = true
  | [], _ => by simp [PyData.canLayAll0]
  | d :: ds, h => by
    simp only [PyData.canLayAll0, Bool.and_eq_true]
    exact ⟨h d (List.mem_cons_self ..), layAll_of fun e he => h e (List.mem_cons_of_mem _ he)⟩
theorem lay_tup {ds : List PyData} (h : ∀ d ∈ ds, d.canLay0 = true) : (PyData.tuple ds).canLay0 = true := by
  simp only [PyData.canLay0]
  exact layAll_of h
theorem wsL_lay : ∀ s ∈ wsL, (PyData.str s).canLay0 = true := by decide +kernel
theorem wsT_lay : ∀ s ∈ wsT, (PyData.str s).canLay0 = true := by decide +kernel
theorem lay_ln {ss : List Str} (h : Few ss) : (lnD ss).canLay0 = true := lay_tup fun d hd => by
  obtain ⟨s, hs, rfl⟩ := List.mem_map.mp hd
  exact wsL_lay s (h.2 s hs)
theorem lay_good {d : PyData} (h : GoodTok d) : d.canLay0 = true := by
  rcases h with ⟨s, hs, rfl⟩ | ⟨lo, hi, ss, ts, rfl, h1, h2, h3, f1, f2⟩
  · exact wsT_lay s hs
  · refine lay_tup fun e he => ?_
    simp only [List.mem_cons, List.not_mem_nil, or_false] at he
    rcases he with rfl | rfl | rfl | rfl | rfl
    · decide +kernel
    · simp [PyData.canLay0]
    · simp [PyData.canLay0]
    · exact lay_ln f1
    · exact lay_ln f2
end XR
namespace XR
open PySem L2
def spRight : Sp := fun vs H Q _ => ∃ p, vs = [.ref p] ∧ PotAt H p ∧ ∀ H', But p H H' → Q (.bl true) H'
theorem rep_row : rowB (.tuple (List.replicate 180 (.str "a"))) = true := by
  rw [rowB_tup, List.length_replicate, decide_eq_true (Nat.le_refl _)]
  exact List.all_eq_true.mpr fun d hd => by rw [List.eq_of_mem_replicate hd]; decide +kernel
theorem rep_row1 : rowB (.tuple (List.replicate 181 (.str "a"))) = false := by
  rw [rowB_tup, List.length_replicate, decide_eq_false (by decide)]
  rfl
end XR
namespace K64
open PySem L2 XR
abbrev sRight : Stmt := top 39
section
variable {P : Program} {w : World} {K : PySem.W.Frag} {mg : Str → Option Value} {base : Heap}
theorem scRight : FnScope ["_law_pot_here", "_law_good", "_law_value", "_law_turn", "_law_told", "_law_way"] ["_law_pot_here"] (defScope sRight) := ⟨rfl, rfl, rfl, by decide +kernel, rfl, by decide +kernel, by decide +kernel⟩
theorem ok_right {f fTk fB fR fI fA fU fS CR : Addr} {fd fdTk fdB fdR fdI fdA fdU fdS : FuncData} (F : Fun K "_law_right" "_law_right" sRight f fd) (T : Blt mg)
    (FTk : Fun K "_law_tokens" "_law_tokens" sTokens fTk fdTk) (GTk : FnOk P w K mg base CX0 5 fTk fdTk ["_law_pot_here", "_law_most"] (spTokens K)) (bTk : Binds K fdTk ["_law_pot_here", "_law_most"] []) (mTk : mg "_law_tokens" = some (.ref fTk))
    (FB : Fun K "_law_bent" "_law_bent" sBent fB fdB) (GB : FnOk P w K mg base CX0 5 fB fdB ["_law_pot_here", "_law_value"] (spBent K)) (bB : Binds K fdB ["_law_pot_here", "_law_value"] []) (mB : mg "_law_bent" = some (.ref fB))
    (FR : Fun K "is_row" "is_row" sIsRow fR fdR) (GR : FnOk P w K mg base CX0 4 fR fdR ["value"] (spJudge K rowB)) (bR : Binds K fdR ["value"] []) (mR : mg "is_row" = some (.ref fR))
    (FI : Fun K "_law_is_tokens" "_law_is_tokens" sLToks fI fdI) (GI : FnOk P w K mg base CX0 4 fI fdI ["_law_value"] (spJudge K rowB)) (bI : Binds K fdI ["_law_value"] []) (mI : mg "_law_is_tokens" = some (.ref fI))
    (FA : Fun K "_law_asked" "_law_asked" sAsked fA fdA) (GA : FnG P w K mg base 8 fA fdA ["_law_way", "_law_value"] (spAsk K)) (bA : Binds K fdA ["_law_way", "_law_value"] []) (mA : mg "_law_asked" = some (.ref fA))
    (FU : Fun K "_law_due" "_law_due" sDue fU fdU) (GU : FnG P w K mg base 5 fU fdU ["_law_way", "_law_value"] (spAsk K)) (bU : Binds K fdU ["_law_way", "_law_value"] []) (mU : mg "_law_due" = some (.ref fU))
    (FS : Fun K "swapped" "swapped" sSwapped fS fdS) (GS : FnOk P w K mg base (L2.CX P w) 6 fS fdS ["row"] (spSwapped K CR)) (bS : Binds K fdS ["row"] []) (mS : mg "swapped" = some (.ref fS)) :
    FnG P w K mg base 9 f fd ["_law_pot_here"] spRight := by
  refine okG F scRight (fun vs H Q E h => ?_) (fun cdv A outer s H vs Q E hr hg h => ?_)
  · obtain ⟨p, rfl, _⟩ := h
    rfl
  · obtain ⟨p, rfl, hp, z⟩ := h
    have hr4 := hr.mono (show 4 ≤ 8 by decide)
    have hr5 := hr.mono (show 5 ≤ 8 by decide)
    have hr6 := hr.mono (show 6 ≤ 8 by decide)
    refine ⟨_, pss_cons (ps_set (i := 1) scRight.nd rfl (.inr rfl) (pe_call GTk hr5 rfl mTk FTk.kp bTk .nil pass0 (pa_cons (pv 0) (pa_cons pe_int pa_nil))))
      (pss_cons (ps_for PassesOwn.never rfl (pi_list (pe_op op_cat (pe_lst (pa_cons (pv 1) pa_nil)) (pe_lc (own := [("_law_turn", 3)]) (g := gName 3) (tt := tYes) (te := tCall (spBent K) [] E0 (tCons (tVar 0) (tCons (tVar 1) tNil))) rfl scRight.nd
          (pi_range1 rfl T.range (pa_cons pe_int pa_nil))
          (blkOk_by (own := [("_law_turn", 3)]) (N := ["_law_pot_here", "_law_good", "_law_value", "_law_turn", "_law_told", "_law_way"]) (sc := defScope sRight) (by decide +kernel))
          (fun _ _ _ _ _ => pg_name (i := 3) scRight.nd rfl (Or.inl rfl)) (fun _ _ _ _ _ => pts_nil)
          (fun _ _ _ _ _ => pe_call GB hr5 rfl mB FB.kp bB .nil pass0 (pa_cons (pv 0) (pa_cons (pv 1) pa_nil)))))) (pg_name (i := 2) scRight.nd rfl (.inl rfl))
        (pss_cons (ps_set (i := 4) scRight.nd rfl (.inl rfl) (pe_call GR hr4 rfl mR FR.kp bR .nil pass0 (pa_cons (pv 2) pa_nil)))
        (pss_cons (ps_if (PW.pt (pw_or (pt_not (pt_val (pe_callB call_isi (by rfl) T.isin (by decide +kernel) (pa_cons (pv 4) (pa_cons (pe_bltn (v := .ty "bool") (u := .type "bool") (by rfl) T.bool (by decide +kernel) rfl) pa_nil))))) (pw_or1 (pt_cmpR op_ne (pv 4) (pe_call GI hr4 rfl mI FI.kp bI .nil pass0 (pa_cons (pv 2) pa_nil)) (nomark _))))) (pss_one (ps_ret pe_bl)) pss_nil)
        (pss_one (ps_for PassesOwn.never rfl (pi_range1 rfl T.range (pa_cons pe_int pa_nil)) (pg_name (i := 5) scRight.nd rfl (.inl rfl))
          (pss_one (ps_if (pt_cmpR op_ne (pe_callB (call_reprQ hg hr.units) (by rfl) T.repr (by decide +kernel) (pa_cons (pe_callG GA hg hr rfl mA FA.kp bA (pa_cons (pv 5) (pa_cons (pv 2) pa_nil))) pa_nil)) (pe_callB (call_reprQ hg hr.units) (by rfl) T.repr (by decide +kernel) (pa_cons (pe_callG GU hg hr5 rfl mU FU.kp bU (pa_cons (pv 5) (pa_cons (pv 2) pa_nil))) pa_nil)) (nomark _)) (pss_one (ps_ret pe_bl)) pss_nil)))))))
      (pss_one (ps_ret (pe_and (pe_cmpR (op_eqD hr.units) (pe_callS GS hr6 rfl mS FS.kp bS (fun σ => passF σ) (pa_cons (pe_callS GS hr6 rfl mS FS.kp bS (fun σ => passF σ) (pa_cons (pv 1) pa_nil)) pa_nil)) (pv 1) (nomark _))
        (pe_and (pe_call GR hr4 rfl mR FR.kp bR .nil pass0 (pa_cons (pe_op op_repT (pe_tup (pa_cons pe_str pa_nil)) pe_int) pa_nil)) (pe_one (pe_not (pe_call GR hr4 rfl mR FR.kp bR .nil pass0 (pa_cons (pe_op op_repT (pe_tup (pa_cons pe_str pa_nil)) pe_int) pa_nil))))))))), ?_⟩
    refine ⟨_, rfl, p, [p], 9, rfl, PZ.one hp, by decide, by decide, fun t ds H1 hp1 b1 hgd gds hlen => ?_⟩
    have hlen' : ds.length ≤ 9 := by omega
    have gok : ValOk 0 (.tuple ds) := tup_val (by omega) fun e he => good_tok (gds e he)
    have hz1 : PZ [p] p H1 := PZ.one hp1
    refine ⟨_, rfl, ll20 (by show 1 ≤ 20; decide), fun l0 n0 => ?_⟩
    obtain ⟨G0, hG0⟩ : ∃ G, G = upd H1 l0 (.lst [V.ref t]) := ⟨_, rfl⟩
    rw [← hG0]
    have s0 : Same H1 G0 := by rw [hG0]; exact same_upd n0
    have g0 : G0 l0 = some (.lst [V.ref t]) := by rw [hG0]; exact upd_same
    have np0 : l0 ≠ p := fun e => hp1.ne n0 e.symm
    clear hG0 n0
    have hz0 := hz1.same s0
    have hg0 := hgd.same s0
    refine ⟨8, rfl, by decide, by decide, fun D nD => ?_⟩
    have npD := hz0.pot.ne nD
    have hzD : PZ (D :: [p]) p (upd G0 D (.lst [])) := (hz0.same (same_upd nD)).more upd_same
    have hgD : Dz K (D :: [p]) (upd G0 D (.lst [])) (.ref t) (.tuple ds) := (hg0.more nD).same (same_upd nD)
    refine lc_range (n := 8) (fun j H' => But p G0 H' ∧ PZ (D :: [p]) p H' ∧ Dz K (D :: [p]) H' (.ref t) (.tuple ds) ∧ ∃ ys es, H' D = some (.lst ys) ∧ DzAll K (D :: [p]) H' ys es ∧ (∀ e ∈ es, ValOk 2 e) ∧ es.length = j) ⟨(But.refl p G0).new nD, hzD, hgD, [], [], upd_same, .nil, (fun e h => nomatch h), rfl⟩ ?_ ?_
    · rintro j Ha hj ⟨ba, hza, hga, ys, es, hD, hy, hok, hl⟩
      refine ⟨rfl, ?_⟩
      unfold tYes
      dsimp only
      rw [if_pos rfl]
      refine ⟨_, rfl, _, rfl, p, D :: [p], .ref t, .tuple ds, rfl, hza, hga, gok, fun y e H3 hp3 b3 he oke => ?_⟩
      have hD3 := b3 _ _ hD npD.symm
      have hz3 := hza.step hp3 b3
      have hyl := DqAll.length hy
      have hpu := hp3.upd (o := .lst (ys ++ [y])) npD
      refine ⟨ys, hD3, Nat.lt_of_le_of_lt (show ys.length ≤ 8 by omega) (by decide), fun b o hb hn => ?_, ⟨hpu, hz3.mem, fun u hu => ?_⟩, ?_, ys ++ [y], es ++ [e], upd_same, DzAll.upd (DqAll.snoc (hy.step hza b3) he) (List.mem_cons_self ..), fun f hf => ?_, ?_⟩
      · have hb2 := b3 _ _ (ba _ _ hb hn) hn
        rw [upd_ne (ne_of_none hb nD)]
        exact hb2
      · by_cases q : u = D
        · exact ⟨_, by rw [q]; exact upd_same⟩
        · obtain ⟨o, ho⟩ := hz3.live u hu
          exact ⟨o, by rw [upd_ne q]; exact ho⟩
      · have hg3 := hga.step hza b3
        unfold Dz at hg3 ⊢
        rw [cut_upd (List.mem_cons_self ..)]
        exact hg3
      · rcases List.mem_append.mp hf with hf | hf
        · exact hok f hf
        · rw [List.mem_singleton.mp hf]; exact oke
      · rw [List.length_append, hl]; rfl
    rintro H2 ⟨b2, hz2, hg2, ys, es, hD, hy, hok, hl⟩
    have hl0 := b2 _ _ g0 np0
    have hyl := DqAll.length hy
    refine ⟨_, _, _, _, rfl, rfl, hl0, hD, Nat.le_trans (show 1 + ys.length ≤ 9 by omega) (by decide), fun L nL => ⟨L, rfl, ⟨_, SqL.of upd_same⟩, ?_⟩⟩
    have sL := same_upd (o := .lst ([V.ref t] ++ ys)) nL
    have hL : upd H2 L (.lst ([V.ref t] ++ ys)) L = some (.lst ([V.ref t] ++ ys)) := upd_same
    have B4 : But p H (upd H2 L (.lst ([V.ref t] ++ ys))) := (((b1.trans (Same.but s0)).trans b2)).trans (Same.but sL)
    have k4 : DqAll K (upd H2 L (.lst ([V.ref t] ++ ys))) ([V.ref t] ++ ys) ([.tuple ds] ++ es) := (DqAll.append (.cons hg2.dq .nil) hy.dq).same sL
    have g4 : Dq K (upd H2 L (.lst ([V.ref t] ++ ys))) (.ref t) (.tuple ds) := hg2.dq.same sL
    have hall : ∀ d ∈ [PyData.tuple ds] ++ es, ValOk 2 d := fun d hd => by
      rcases List.mem_append.mp hd with hd | hd
      · rw [List.mem_singleton.mp hd]; exact gok.le (Nat.zero_le _)
      · exact hok d hd
    generalize upd H2 L (.lst ([V.ref t] ++ ys)) = H4 at *
    clear hy hg2 hz2 b2 hD hl0 sL nL
    refine for_list (K := K) (a := L) (xs := [V.ref t] ++ ys) (fun i σ H' => Same H4 H' ∧ ∃ y2 y3 y4 y5, σ = [some (V.ref p), some (V.ref t), y2, y3, y4, y5]) ⟨fun _ _ h => h, _, _, _, _, rfl⟩ (fun i σ H' _ hh => hh.1.seq (SqL.of hL)) ?_ ?_
    · rintro i x σ Ha hx ⟨sa, y2, y3, y4, y5, rfl⟩
      obtain ⟨d, w1, w2⟩ := DqAll.get k4 hx
      have okd : ValOk 2 d := hall d (List.mem_of_getElem? w1)
      have wa := w2.same sa
      refine ⟨_, rfl, x, d, rfl, wa, fun H5 s5 => ?_⟩
      refine ⟨_, rfl, .bl (rowB d), _, _, _, _, rfl, .ty "bool", (Dq.bl (K := K) (H := H5) (rowB d)).ty, kit_ty (kit_bool (.bool (rowB d))), _, rfl, iteF ?_⟩
      refine ⟨_, rfl, _, rfl, x, d, rfl, wa.same s5, fun H6 s6 => ⟨rfl, _, rfl, ?_⟩⟩
      rw [decide_eq_true (show V.bl (rowB d) = V.bl (rowB d) from rfl)]
      refine iteF ?_
      have s46 := (sa.trans s5).trans s6
      refine ⟨3, rfl, by decide, by decide, ?_⟩
      refine for_range (n := 3) (fun k σ H' => Same H4 H' ∧ ∃ y3 y4 y5, σ = [some (V.ref p), some (V.ref t), some x, y3, y4, y5]) ⟨s46, _, _, _, rfl⟩ ?_ ?_
      · rintro k σ Hb hk ⟨sb, y3, y4, y5, rfl⟩
        refine ⟨_, rfl, _, rfl, x, d, _, rfl, w2.same sb, okd, fun t1 H7 s7 q7 => ?_⟩
        have S := ask_shw (way := 0 + (k : Int)) okd
        refine ⟨.ref t1, _, rfl, q7, S.ok, S.line3 (by decide), S.low (by decide), ?_⟩
        refine ⟨_, rfl, _, rfl, x, d, _, rfl, (w2.same sb).same s7, okd, fun t2 H8 s8 q8 => ?_⟩
        refine ⟨.ref t2, _, rfl, q8, S.ok, S.line3 (by decide), S.low (by decide), rfl, _, rfl, ?_⟩
        rw [decide_eq_true (show V.str (askD (0 + (k : Int)) d).shown = V.str (askD (0 + (k : Int)) d).shown from rfl)]
        exact iteF ⟨(sb.trans s7).trans s8, _, _, _, rfl⟩
      · rintro σ Hb ⟨sb, y3, y4, y5, rfl⟩
        exact ⟨sb, _, _, _, _, rfl⟩
    · rintro σ Ha ⟨sa, y2, y3, y4, y5, rfl⟩
      have ga := g4.same sa
      have er : rowB (.tuple ds) = true := by
        rw [rowB_tup, decide_eq_true (show ds.length ≤ 180 by omega)]
        exact List.all_eq_true.mpr fun d hd => good_is (gds d hd)
      have er2 : rowB (.tuple (ds.map swapD)) = true := by
        rw [rowB_tup, decide_eq_true (show (ds.map swapD).length ≤ 180 by rw [List.length_map]; omega)]
        refine List.all_eq_true.mpr fun d hd => ?_
        obtain ⟨g, hg, rfl⟩ := List.mem_map.mp hd
        exact good_is (good_swap (gds g hg))
      refine ⟨_, rfl, .ref t, .tuple ds, rfl, ga, fun ds1 e1 _ t1 H5 s5 n5 q5 => ?_, fun q => by rw [er] at q; cases q⟩
      cases e1
      refine ⟨.ref t1, .tuple (ds.map swapD), rfl, q5, fun ds2 e2 _ t2 H6 s6 n6 q6 => ?_, fun q => by rw [er2] at q; cases q⟩
      cases e2
      have eid : (ds.map swapD).map swapD = ds := by
        rw [List.map_map]
        conv => rhs; rw [← List.map_id ds]
        exact List.map_congr_left fun d hd => swap_swap (gds d hd)
      rw [eid] at q6
      have lay : (PyData.tuple ds).canLay0 = true := lay_tup fun d hd => lay_good (gds d hd)
      have shp : SeqAt.shaped (.tuple ds) = true := by
        unfold SeqAt.shaped
        rw [lay, Bool.true_and, decide_eq_true_eq]
        exact Nat.le_trans gok.sh.sh.dep (by decide)
      have gb := (ga.same s5).same s6
      refine ⟨_, rfl, .tuple ds, .tuple ds, q6.dp lay, gb.dp lay, shp, shp, _, rfl, ?_⟩
      rw [SeqAt.eqv_refl _ lay]
      refine iteT ⟨ll20 (by show 1 ≤ 20; decide), fun u nu => ?_⟩
      have su := same_upd (o := .tup [V.str "a"]) nu
      have hu := upd_same (H := H6) (a := u) (o := .tup [V.str "a"])
      generalize upd H6 u (.tup [V.str "a"]) = G1 at su hu ⊢
      refine ⟨_, _, _, rfl, rfl, SqT.of hu, by decide, by decide, by decide, by decide, fun v nv => ?_⟩
      have sv := same_upd (o := .tup (List.replicate 180 (V.str "a"))) nv
      have dv : Dq K (upd G1 v (.tup (List.replicate 180 (V.str "a")))) (.ref v) (.tuple (List.replicate 180 (.str "a"))) := .tup (SqT.of upd_same) (DqAll.rep (.str _) _)
      refine ⟨.ref v, _, rfl, dv, fun H7 s7 => ⟨_, rfl, ?_⟩⟩
      rw [rep_row]
      refine iteT ⟨ll20 (by show 1 ≤ 20; decide), fun u2 nu2 => ?_⟩
      have su2 := same_upd (o := .tup [V.str "a"]) nu2
      have hu2 := upd_same (H := H7) (a := u2) (o := .tup [V.str "a"])
      generalize upd H7 u2 (.tup [V.str "a"]) = G2 at su2 hu2 ⊢
      refine ⟨_, _, _, rfl, rfl, SqT.of hu2, by decide, by decide, by decide, by decide, fun v2 nv2 => ?_⟩
      have sv2 := same_upd (o := .tup (List.replicate 181 (V.str "a"))) nv2
      have dv2 : Dq K (upd G2 v2 (.tup (List.replicate 181 (V.str "a")))) (.ref v2) (.tuple (List.replicate 181 (.str "a"))) := .tup (SqT.of upd_same) (DqAll.rep (.str _) _)
      refine ⟨.ref v2, _, rfl, dv2, fun H8 s8 => ⟨_, rfl, ?_⟩⟩
      rw [rep_row1]
      exact z _ (B4.trans (Same.but ((((sa.trans s5).trans s6).trans (su.trans sv)).trans (s7.trans ((su2.trans sv2).trans s8)))))
end
end K64
namespace K64
open PySem L2 XR
abbrev sLaw : Stmt := top 40
def spLaw (K : PySem.W.Frag) : Sp := fun vs H Q _ => ∃ (a : Addr) (ns : List Int), vs = [.ref a] ∧ SqL K H a (ns.map V.int) ∧ ns.length ≤ 63 ∧ ∀ H', Q (.bl true) H'
section
variable {P : Program} {w : World} {K : PySem.W.Frag} {mg : Str → Option Value} {base : Heap}
theorem scL : FnScope ["_law_script", "_law_k"] ["_law_script"] (defScope sLaw) := ⟨rfl, rfl, rfl, by decide +kernel, rfl, by decide +kernel, by decide +kernel⟩
theorem ok_law {f fP fR : Addr} {fd fdP fdR : FuncData} (F : Fun K "law" "law" sLaw f fd) (b : Blt mg)
    (FP : Fun K "_law_pot" "_law_pot" sPot fP fdP) (GP : FnOk P w K mg base CX0 1 fP fdP ["_law_script", "_law_index"] (spPot K)) (bP : Binds K fdP ["_law_script", "_law_index"] []) (mP : mg "_law_pot" = some (.ref fP))
    (FR : Fun K "_law_right" "_law_right" sRight fR fdR) (GR : FnG P w K mg base 9 fR fdR ["_law_pot_here"] spRight) (bR : Binds K fdR ["_law_pot_here"] []) (mR : mg "_law_right" = some (.ref fR)) :
    FnG P w K mg base 10 f fd ["_law_script"] (spLaw K) := by
  refine okG F scL (fun vs H Q E h => ?_) (fun cdv A outer s H vs Q E hr hg h => ?_)
  · obtain ⟨a, ns, rfl, _⟩ := h
    rfl
  · obtain ⟨a, ns, rfl, hS, hn, z⟩ := h
    refine ⟨_, pss_one (ps_ret (pe_callB (cr_all rfl) (by rfl) (b.all "all" (by decide)) (by decide +kernel) (pa_cons (pe_lc (own := [("_law_k", 1)]) (g := gName 1) (tt := tYes) (te := tCall spRight [] E0 (tCons (tCall (spPot K) [] E0 (tCons (tVar 0) (tCons (tVar 1) tNil))) tNil)) rfl scL.nd
          (pi_range1 rfl b.range (pa_cons (pe_callB (call_max2 rfl) (by rfl) b.max (by decide +kernel) (pa_cons pe_int (pa_cons (pe_callB (call_min2 rfl) (by rfl) b.min (by decide +kernel) (pa_cons pe_int (pa_cons (pe_callB call_len_seq (by rfl) b.len PySem.boot_len (pa_cons (pv 0) pa_nil)) pa_nil))) pa_nil))) pa_nil))
          (blkOk_by (own := [("_law_k", 1)]) (N := ["_law_script", "_law_k"]) (sc := defScope sLaw) (by decide +kernel))
          (fun _ _ _ _ _ => pg_name (i := 1) scL.nd rfl (Or.inl rfl)) (fun _ _ _ _ _ => pts_nil)
          (fun _ _ _ _ _ => pe_callG GR hg hr rfl mR FR.kp bR (pa_cons (pe_call GP (hr.mono (show 1 ≤ 9 by decide)) rfl mP FP.kp bP .nil pass0 (pa_cons (pv 0) (pa_cons (pv 1) pa_nil))) pa_nil))) pa_nil))), ?_⟩
    have hb : ∀ L : Int, 0 ≤ L → 1 ≤ (if (if L < 4 then L else 4) > 1 then (if L < 4 then L else 4) else 1) ∧ (if (if L < 4 then L else 4) > 1 then (if L < 4 then L else 4) else 1) ≤ 4 := by
      intro L hL
      split <;> split <;> omega
    refine ⟨_, rfl, a, _, rfl, .inl hS, _, _, rfl, _, _, rfl, ?_⟩
    obtain ⟨b1, b2⟩ := hb ((ns.map V.int).length : Int) (by omega)
    revert b1 b2
    generalize (if (if ((ns.map V.int).length : Int) < 4 then ((ns.map V.int).length : Int) else 4) > 1 then (if ((ns.map V.int).length : Int) < 4 then ((ns.map V.int).length : Int) else 4) else 1) = m
    intro b1 b2
    have h4s : m.toNat ≤ sizeLine := Nat.le_trans (show m.toNat ≤ 4 by omega) (by decide)
    refine ⟨m, rfl, by omega, by omega, fun c nc => ?_⟩
    have hca : ∀ {b : Addr} {o : HO}, H b = some o → b ≠ c := fun h => ne_of_none h nc
    refine lc_range (n := m.toNat) (fun j H' => Same H H' ∧ H' c = some (.lst (List.replicate j (V.bl true)))) ⟨same_upd nc, upd_same⟩ ?_ ?_
    · rintro j H' hj ⟨sm, hc⟩
      refine ⟨rfl, ?_⟩
      unfold tYes
      dsimp only
      rw [if_pos rfl]
      refine ⟨_, rfl, _, rfl, a, ns, j, by rw [Int.zero_add]; rfl, sm.seq hS, hn, by omega, fun p H1 s1 n1 hp1 => ?_⟩
      refine ⟨p, rfl, hp1, fun H2 bt => ?_⟩
      have hcp : c ≠ p := ne_of_none hc n1
      refine ⟨_, bt _ _ (s1 _ _ hc) hcp, by rw [List.length_replicate]; exact Nat.lt_of_lt_of_le hj h4s, ?_, ?_⟩
      · intro b o h
        rw [upd_ne (hca h)]
        exact bt _ _ (s1 _ _ (sm _ _ h)) (ne_of_none (sm _ _ h) n1)
      · rw [upd_same, List.replicate_succ']
    · rintro H' ⟨sm, hc⟩
      refine ⟨c, List.replicate m.toNat true, rfl, SqL.of (by rw [List.map_replicate]; exact hc), ?_⟩
      rw [show (List.replicate m.toNat true).all id = true by simp]
      exact z _
end
end K64
/-! What the heap behind the top says of an own class of exceptions with one field, in one structure. -/
namespace XR
open PySem L2
open PySem.W (ksFn XL)
def fileIs (P : Program) (K : PySem.W.Frag) (a : Addr) : Bool := match K.lookup a with
  | some ⟨_, _, .fields vs, _⟩ => match (vs[2]? : Option Value) with
    | some (.str file _) => (P.main.file : Str) == file
    | _ => false
  | _ => false
def holdsCls (K : PySem.W.Frag) (a C : Addr) : Bool := match K.lookup a with
  | some ⟨_, _, .cell (some (.ref c)), _⟩ => c == C
  | _ => false
theorem fileIs_of {P : Program} {K : PySem.W.Frag} {a : Addr} (h : fileIs P K a = true) : ∃ x y vs c file tf, K.lookup a = some ⟨x, y, .fields vs, c⟩ ∧ vs[2]? = some (.str file tf) ∧ ((P.main.file : Str) == file) = true := by
  unfold fileIs at h
  split at h
  · rename_i x y vs c e
    split at h
    · rename_i file tf e2
      exact ⟨x, y, vs, c, file, tf, e, e2, h⟩
    · cases h
  · cases h
theorem holdsCls_of {K : PySem.W.Frag} {a C : Addr} (h : holdsCls K a C = true) : ∃ x y c, K.lookup a = some ⟨x, y, .cell (some (.ref C)), c⟩ := by
  unfold holdsCls at h
  split at h
  · rename_i x y c z e
    have : c = C := by simpa using h
    subst this
    exact ⟨x, y, z, e⟩
  · cases h
/-- B: the built-in class above; q: the name of __init__; fld: the field; f, c, d: where __init__, its cell and its code stand -/
structure ClsF (P : Program) (K : PySem.W.Frag) (B newId initId : String) (bmB : List Value) (q fld : Str) (C f c d : Addr) : Prop where
  kp : PySem.W.keepIn K (.ref C) = true
  ei : PySem.W.excInitIn K C bmB newId = true
  ov : PySem.W.excOver K C bmB = true
  di : PySem.W.hasDictIn K C = true
  sa : PySem.W.findIn K (.ref C) "__setattr__" = some (some (.builtin "object.__setattr__"))
  su : PySem.W.ks_superIn K C C "__init__" = some (some (.builtin initId))
  sb : PySem.W.subIn K (.ref C) (.type B) = some true
  me : PySem.W.mroIn K C (.ref C) = some true
  fn : PySem.W.isFn K (.ref f) = true
  cod : PySem.W.codeIn K (.ref d) q = true
  cfl : fileIs P K d = true
  cel : holdsCls K c C = true
  tk : PySem.W.takerIn K C fld = some none
  nf : PySem.W.findIn K (.ref C) fld = some none
  cls : (PySem.W.clsIn K C).isSome = true
  ga : PySem.W.findIn K (.ref C) "__getattribute__" = some (some (.builtin "BaseException.__getattribute__"))
  gt : PySem.W.findIn K (.ref C) "__getattr__" = some none
  sB : PySem.W.subIn K (.ref C) (.type "BaseException") = some true
  ca : PySem.W.findIn K (.ref C) "__class__" = some (some (.builtin "object.__class__"))
  mo : PySem.W.mroIn K C (.type "object") = some true
  tP : PySem.W.typeIn K (.ref C) = some (.type "type")
  op : PySem.W.nsIn K cStatics "thirdparty.any" = some none
  sp : PySem.W.specialIn K (.builtin "object.__class__") "__get__" = some (some (.builtin "getset_descriptor.__get__"))
  tks : PySem.W.takesIn K (.builtin "object.__class__") = some true
theorem xok_of {P : Program} {K : PySem.W.Frag} {mg : Str → Option Value} {B newId initId : String} {bmB : List Value} {x q fld : Str} {C f c d : Addr} (S : ClsF P K B newId initId bmB q fld C f c d) (g : mg x = some (.ref C))
    (mx : MkX K P C none 1 (fvOne fld)) : XOk P K mg x C 1 (fvOne fld) where
  mx := mx
  ne := fun vs _ h => nomatch h
  kp := S.kp
  bP := S.sB
  tP := S.tP
  g := g
  rd := ⟨S.cls, S.ga, S.gt, S.sB, S.di, S.ca, S.sp, S.tks, S.mo⟩
  nf := fun vs y hy => by
    have e : y = (fld, vs.getD 0 .non) := by simpa [fvOne] using hy
    rw [e]
    exact S.nf
end XR
namespace K64
open PySem L2 XR
open PySem.W (ksFn XL)
abbrev prg : Program := PySem.Challenge.rw_alldiffs_k64_rows_judged.prog
abbrev ini (i : Nat) : Stmt := inClass (top i) 0
abbrev iFn (i : Nat) (qual : Str) (kV doc pm : Value) (an : Option Addr) (cda : Addr) (ct : Value) (cc : Addr) : FuncData :=
  ksFn "__init__" qual (defArgs (ini i)) (defBody (ini i)) (defScope (ini i)) .none kV doc pm an (.ref cda) ct cc
def CInit (K : PySem.W.Frag) (i : Nat) (q : Str) (f cc cda : Addr) : Prop := ∃ oc od osl kV doc pm an ct, K.lookup f = some ⟨oc, od, .func (iFn i q kV doc pm an cda ct cc), osl⟩
section
variable {K : PySem.W.Frag} {C fI cc cda : Addr} {B newId initId : String} {bmB : List Value} {kV doc pm ct : Value} {an : Option Addr}
theorem mkc_InvalidRow (X : XCls K prg C fI cc cda B newId initId bmB (iFn 2 "InvalidRow.__init__" kV doc pm an cda ct cc)) (tk : PySem.W.takerIn K C "value" = some none) : MkX K prg C none 1 (fvOne "value") := by
    refine ⟨by decide, fI, cc, cda, B, newId, initId, bmB, _, "this is no row", 0, ⟨7, 8, 7, 13⟩, ⟨7, 8, 7, 15⟩, ⟨7, 8, 7, 24⟩, ⟨7, 25, 7, 41⟩, ⟨7, 8, 7, 42⟩, ⟨7, 8, 7, 42⟩, fun us => [⟨"value", "value", us.getD 0 .none, ⟨8, 8, 8, 12⟩, ⟨8, 8, 8, 18⟩, ⟨8, 21, 8, 26⟩, ⟨8, 8, 8, 26⟩⟩], fun us => [("value", us.getD 0 .none)], X, fun us hl => ?_⟩
    match us, hl with
    | [u], _ =>
      refine ⟨⟨⟨_, _, _, _, _, _, _, _, _, _, rfl, ⟨_, rfl, rfl⟩, rfl, rfl, rfl, rfl, fun L => ⟨_, rfl⟩, by decide +kernel, rfl, rfl, fun L x hx => ?_⟩, by decide +kernel⟩, by show 1 ≤ 900; decide, fun e s => .of_eq rfl, fun e x hx => ?_, fun e => rfl, fun e x hx => ?_, fun vs r => ?_⟩
      · cases hx with
        | head => exact ⟨rfl, rfl, rfl⟩
        | tail _ h => cases h
      · cases hx with
        | head => rfl
        | tail _ hx =>
          cases hx with
          | head => rfl
          | tail _ hx => cases hx
      · cases hx with
        | head => exact ⟨rfl, tk⟩
        | tail _ h => cases h
      · cases r with
        | cons a b =>
          cases b
          exact .cons ⟨rfl, a⟩ .nil
theorem xok_InvalidRow {mg : Str → Option Value} {h : Heap} (X : K.In h) (G : h.Ns mainGlobals mg) (g : PySem.W.nsIn K mainGlobals "InvalidRow" = some (some (.ref C))) (a : PySem.W.findIn K (.ref C) "__init__" = some (some (.ref fI))) (i : CInit K 2 "InvalidRow.__init__" fI cc cda)
    (S : ClsF prg K "ValueError" "ValueError.__new__" "ValueError.__init__" [.type "ValueError", .type "Exception", .type "BaseException", .type "object"] "InvalidRow.__init__" "value" C fI cc cda) : XOk prg K mg "InvalidRow" C 1 (fvOne "value") := by
  obtain ⟨oc, od, osl, kV, doc, pm, an, ct, lk⟩ := i
  exact xok_of S (PySem.W.mg_of X G g) (mkc_InvalidRow ⟨PySem.F.excBase_ValueError, PySem.F.store_ValueError, PySem.W.kxs_ValueError, S.ei, S.ov, S.di, S.sa, S.su, S.sb, S.me, S.op, a, S.fn, ⟨oc, od, osl, lk⟩, S.cod, fileIs_of S.cfl, holdsCls_of S.cel, S.kp⟩ S.tk)
theorem mkc_Clashes (X : XCls K prg C fI cc cda B newId initId bmB (iFn 4 "Clashes.__init__" kV doc pm an cda ct cc)) (tk : PySem.W.takerIn K C "positions" = some none) : MkX K prg C none 1 (fvOne "positions") := by
    refine ⟨by decide, fI, cc, cda, B, newId, initId, bmB, _, "this row has clashes: see the field positions", 0, ⟨14, 8, 14, 13⟩, ⟨14, 8, 14, 15⟩, ⟨14, 8, 14, 24⟩, ⟨14, 25, 14, 72⟩, ⟨14, 8, 14, 73⟩, ⟨14, 8, 14, 73⟩, fun us => [⟨"positions", "positions", us.getD 0 .none, ⟨15, 8, 15, 12⟩, ⟨15, 8, 15, 22⟩, ⟨15, 25, 15, 34⟩, ⟨15, 8, 15, 34⟩⟩], fun us => [("positions", us.getD 0 .none)], X, fun us hl => ?_⟩
    match us, hl with
    | [u], _ =>
      refine ⟨⟨⟨_, _, _, _, _, _, _, _, _, _, rfl, ⟨_, rfl, rfl⟩, rfl, rfl, rfl, rfl, fun L => ⟨_, rfl⟩, by decide +kernel, rfl, rfl, fun L x hx => ?_⟩, by decide +kernel⟩, by show 1 ≤ 900; decide, fun e s => .of_eq rfl, fun e x hx => ?_, fun e => rfl, fun e x hx => ?_, fun vs r => ?_⟩
      · cases hx with
        | head => exact ⟨rfl, rfl, rfl⟩
        | tail _ h => cases h
      · cases hx with
        | head => rfl
        | tail _ hx =>
          cases hx with
          | head => rfl
          | tail _ hx => cases hx
      · cases hx with
        | head => exact ⟨rfl, tk⟩
        | tail _ h => cases h
      · cases r with
        | cons a b =>
          cases b
          exact .cons ⟨rfl, a⟩ .nil
theorem xok_Clashes {mg : Str → Option Value} {h : Heap} (X : K.In h) (G : h.Ns mainGlobals mg) (g : PySem.W.nsIn K mainGlobals "Clashes" = some (some (.ref C))) (a : PySem.W.findIn K (.ref C) "__init__" = some (some (.ref fI))) (i : CInit K 4 "Clashes.__init__" fI cc cda)
    (S : ClsF prg K "RuntimeError" "RuntimeError.__new__" "RuntimeError.__init__" [.type "RuntimeError", .type "Exception", .type "BaseException", .type "object"] "Clashes.__init__" "positions" C fI cc cda) : XOk prg K mg "Clashes" C 1 (fvOne "positions") := by
  obtain ⟨oc, od, osl, kV, doc, pm, an, ct, lk⟩ := i
  exact xok_of S (PySem.W.mg_of X G g) (mkc_Clashes ⟨PySem.F.excBase_RuntimeError, PySem.F.store_RuntimeError, PySem.W.kxs_RuntimeError, S.ei, S.ov, S.di, S.sa, S.su, S.sb, S.me, S.op, a, S.fn, ⟨oc, od, osl, lk⟩, S.cod, fileIs_of S.cfl, holdsCls_of S.cel, S.kp⟩ S.tk)
end
theorem all_mk {w : World} {K : PySem.W.Frag} {h : Heap} {mg : Str → Option Value} {fa : Addr} (X : K.In h) (G : h.Ns mainGlobals mg) (hfa : mg "law" = some (.ref fa))
    {C_InvalidRow f_InvalidRow c_InvalidRow d_InvalidRow : Addr} (a_InvalidRow : PySem.W.nsIn K mainGlobals "InvalidRow" = some (some (.ref C_InvalidRow))) (b_InvalidRow : PySem.W.findIn K (.ref C_InvalidRow) "__init__" = some (some (.ref f_InvalidRow))) (i_InvalidRow : CInit K 2 "InvalidRow.__init__" f_InvalidRow c_InvalidRow d_InvalidRow)
    (S_InvalidRow : ClsF prg K "ValueError" "ValueError.__new__" "ValueError.__init__" [.type "ValueError", .type "Exception", .type "BaseException", .type "object"] "InvalidRow.__init__" "value" C_InvalidRow f_InvalidRow c_InvalidRow d_InvalidRow)
    {C_Clashes f_Clashes c_Clashes d_Clashes : Addr} (a_Clashes : PySem.W.nsIn K mainGlobals "Clashes" = some (some (.ref C_Clashes))) (b_Clashes : PySem.W.findIn K (.ref C_Clashes) "__init__" = some (some (.ref f_Clashes))) (i_Clashes : CInit K 4 "Clashes.__init__" f_Clashes c_Clashes d_Clashes)
    (S_Clashes : ClsF prg K "RuntimeError" "RuntimeError.__new__" "RuntimeError.__init__" [.type "RuntimeError", .type "Exception", .type "BaseException", .type "object"] "Clashes.__init__" "positions" C_Clashes f_Clashes c_Clashes d_Clashes)
    {g_whole : Addr} {od_whole an_whole : Option Addr} {sl_whole : Array (Option Value)} {oc_whole kV_whole dc_whole pm_whole cd_whole ct_whole : Value}
    (u_whole : PySem.W.nsIn K mainGlobals "is_whole" = some (some (.ref g_whole))) (l_whole : K.lookup g_whole = some ⟨oc_whole, od_whole, .func (PySem.W.fnOf "is_whole" "is_whole" (defArgs sWhole) (defBody sWhole) (defScope sWhole) .none kV_whole dc_whole pm_whole an_whole cd_whole ct_whole), sl_whole⟩) (v_whole : PySem.W.codeIn K cd_whole "is_whole" = true) (k_whole : PySem.W.keepIn K (.ref g_whole) = true)
    {g_tup : Addr} {od_tup an_tup : Option Addr} {sl_tup : Array (Option Value)} {oc_tup kV_tup dc_tup pm_tup cd_tup ct_tup : Value}
    (u_tup : PySem.W.nsIn K mainGlobals "is_tuple" = some (some (.ref g_tup))) (l_tup : K.lookup g_tup = some ⟨oc_tup, od_tup, .func (PySem.W.fnOf "is_tuple" "is_tuple" (defArgs sIsTuple) (defBody sIsTuple) (defScope sIsTuple) .none kV_tup dc_tup pm_tup an_tup cd_tup ct_tup), sl_tup⟩) (v_tup : PySem.W.codeIn K cd_tup "is_tuple" = true) (k_tup : PySem.W.keepIn K (.ref g_tup) = true)
    {g_line : Addr} {od_line an_line : Option Addr} {sl_line : Array (Option Value)} {oc_line kV_line dc_line pm_line cd_line ct_line : Value}
    (u_line : PySem.W.nsIn K mainGlobals "is_line" = some (some (.ref g_line))) (l_line : K.lookup g_line = some ⟨oc_line, od_line, .func (PySem.W.fnOf "is_line" "is_line" (defArgs sLine) (defBody sLine) (defScope sLine) .none kV_line dc_line pm_line an_line cd_line ct_line), sl_line⟩) (v_line : PySem.W.codeIn K cd_line "is_line" = true) (k_line : PySem.W.keepIn K (.ref g_line) = true)
    {g_isclash : Addr} {od_isclash an_isclash : Option Addr} {sl_isclash : Array (Option Value)} {oc_isclash kV_isclash dc_isclash pm_isclash cd_isclash ct_isclash : Value}
    (u_isclash : PySem.W.nsIn K mainGlobals "is_clash" = some (some (.ref g_isclash))) (l_isclash : K.lookup g_isclash = some ⟨oc_isclash, od_isclash, .func (PySem.W.fnOf "is_clash" "is_clash" (defArgs sIsClash) (defBody sIsClash) (defScope sIsClash) .none kV_isclash dc_isclash pm_isclash an_isclash cd_isclash ct_isclash), sl_isclash⟩) (v_isclash : PySem.W.codeIn K cd_isclash "is_clash" = true) (k_isclash : PySem.W.keepIn K (.ref g_isclash) = true)
    {g_lines : Addr} {od_lines an_lines : Option Addr} {sl_lines : Array (Option Value)} {oc_lines kV_lines dc_lines pm_lines cd_lines ct_lines : Value}
    (u_lines : PySem.W.nsIn K mainGlobals "is_tuple_of_lines" = some (some (.ref g_lines))) (l_lines : K.lookup g_lines = some ⟨oc_lines, od_lines, .func (PySem.W.fnOf "is_tuple_of_lines" "is_tuple_of_lines" (defArgs sLines) (defBody sLines) (defScope sLines) .none kV_lines dc_lines pm_lines an_lines cd_lines ct_lines), sl_lines⟩) (v_lines : PySem.W.codeIn K cd_lines "is_tuple_of_lines" = true) (k_lines : PySem.W.keepIn K (.ref g_lines) = true)
    {g_clashl : Addr} {od_clashl an_clashl : Option Addr} {sl_clashl : Array (Option Value)} {oc_clashl kV_clashl dc_clashl pm_clashl cd_clashl ct_clashl : Value}
    (u_clashl : PySem.W.nsIn K mainGlobals "is_clash_of_lines" = some (some (.ref g_clashl))) (l_clashl : K.lookup g_clashl = some ⟨oc_clashl, od_clashl, .func (PySem.W.fnOf "is_clash_of_lines" "is_clash_of_lines" (defArgs sClashL) (defBody sClashL) (defScope sClashL) .none kV_clashl dc_clashl pm_clashl an_clashl cd_clashl ct_clashl), sl_clashl⟩) (v_clashl : PySem.W.codeIn K cd_clashl "is_clash_of_lines" = true) (k_clashl : PySem.W.keepIn K (.ref g_clashl) = true)
    {g_isrow : Addr} {od_isrow an_isrow : Option Addr} {sl_isrow : Array (Option Value)} {oc_isrow kV_isrow dc_isrow pm_isrow cd_isrow ct_isrow : Value}
    (u_isrow : PySem.W.nsIn K mainGlobals "is_row" = some (some (.ref g_isrow))) (l_isrow : K.lookup g_isrow = some ⟨oc_isrow, od_isrow, .func (PySem.W.fnOf "is_row" "is_row" (defArgs sIsRow) (defBody sIsRow) (defScope sIsRow) .none kV_isrow dc_isrow pm_isrow an_isrow cd_isrow ct_isrow), sl_isrow⟩) (v_isrow : PySem.W.codeIn K cd_isrow "is_row" = true) (k_isrow : PySem.W.keepIn K (.ref g_isrow) = true)
    {g_chk : Addr} {od_chk an_chk : Option Addr} {sl_chk : Array (Option Value)} {oc_chk kV_chk dc_chk pm_chk cd_chk ct_chk : Value}
    (u_chk : PySem.W.nsIn K mainGlobals "check_row" = some (some (.ref g_chk))) (l_chk : K.lookup g_chk = some ⟨oc_chk, od_chk, .func (PySem.W.fnOf "check_row" "check_row" (defArgs sChkRow) (defBody sChkRow) (defScope sChkRow) .none kV_chk dc_chk pm_chk an_chk cd_chk ct_chk), sl_chk⟩) (v_chk : PySem.W.codeIn K cd_chk "check_row" = true) (k_chk : PySem.W.keepIn K (.ref g_chk) = true)
    {g_clashes : Addr} {od_clashes an_clashes : Option Addr} {sl_clashes : Array (Option Value)} {oc_clashes kV_clashes dc_clashes pm_clashes cd_clashes ct_clashes : Value}
    (u_clashes : PySem.W.nsIn K mainGlobals "clashes" = some (some (.ref g_clashes))) (l_clashes : K.lookup g_clashes = some ⟨oc_clashes, od_clashes, .func (PySem.W.fnOf "clashes" "clashes" (defArgs sClashes) (defBody sClashes) (defScope sClashes) .none kV_clashes dc_clashes pm_clashes an_clashes cd_clashes ct_clashes), sl_clashes⟩) (v_clashes : PySem.W.codeIn K cd_clashes "clashes" = true) (k_clashes : PySem.W.keepIn K (.ref g_clashes) = true)
    {g_textof : Addr} {od_textof an_textof : Option Addr} {sl_textof : Array (Option Value)} {oc_textof kV_textof dc_textof pm_textof cd_textof ct_textof : Value}
    (u_textof : PySem.W.nsIn K mainGlobals "text_of" = some (some (.ref g_textof))) (l_textof : K.lookup g_textof = some ⟨oc_textof, od_textof, .func (PySem.W.fnOf "text_of" "text_of" (defArgs sTextOf) (defBody sTextOf) (defScope sTextOf) .none kV_textof dc_textof pm_textof an_textof cd_textof ct_textof), sl_textof⟩) (v_textof : PySem.W.codeIn K cd_textof "text_of" = true) (k_textof : PySem.W.keepIn K (.ref g_textof) = true)
    {g_swapped : Addr} {od_swapped an_swapped : Option Addr} {sl_swapped : Array (Option Value)} {oc_swapped kV_swapped dc_swapped pm_swapped cd_swapped ct_swapped : Value}
    (u_swapped : PySem.W.nsIn K mainGlobals "swapped" = some (some (.ref g_swapped))) (l_swapped : K.lookup g_swapped = some ⟨oc_swapped, od_swapped, .func (PySem.W.fnOf "swapped" "swapped" (defArgs sSwapped) (defBody sSwapped) (defScope sSwapped) .none kV_swapped dc_swapped pm_swapped an_swapped cd_swapped ct_swapped), sl_swapped⟩) (v_swapped : PySem.W.codeIn K cd_swapped "swapped" = true) (k_swapped : PySem.W.keepIn K (.ref g_swapped) = true)
    {g_pot : Addr} {od_pot an_pot : Option Addr} {sl_pot : Array (Option Value)} {oc_pot kV_pot dc_pot pm_pot cd_pot ct_pot : Value}
    (u_pot : PySem.W.nsIn K mainGlobals "_law_pot" = some (some (.ref g_pot))) (l_pot : K.lookup g_pot = some ⟨oc_pot, od_pot, .func (PySem.W.fnOf "_law_pot" "_law_pot" (defArgs sPot) (defBody sPot) (defScope sPot) .none kV_pot dc_pot pm_pot an_pot cd_pot ct_pot), sl_pot⟩) (v_pot : PySem.W.codeIn K cd_pot "_law_pot" = true) (k_pot : PySem.W.keepIn K (.ref g_pot) = true)
    {g_draw : Addr} {od_draw an_draw : Option Addr} {sl_draw : Array (Option Value)} {oc_draw kV_draw dc_draw pm_draw cd_draw ct_draw : Value}
    (u_draw : PySem.W.nsIn K mainGlobals "_law_draw" = some (some (.ref g_draw))) (l_draw : K.lookup g_draw = some ⟨oc_draw, od_draw, .func (PySem.W.fnOf "_law_draw" "_law_draw" (defArgs sDraw) (defBody sDraw) (defScope sDraw) .none kV_draw dc_draw pm_draw an_draw cd_draw ct_draw), sl_draw⟩) (v_draw : PySem.W.codeIn K cd_draw "_law_draw" = true) (k_draw : PySem.W.keepIn K (.ref g_draw) = true)
    {g_pick : Addr} {od_pick an_pick : Option Addr} {sl_pick : Array (Option Value)} {oc_pick kV_pick dc_pick pm_pick cd_pick ct_pick : Value}
    (u_pick : PySem.W.nsIn K mainGlobals "_law_pick" = some (some (.ref g_pick))) (l_pick : K.lookup g_pick = some ⟨oc_pick, od_pick, .func (PySem.W.fnOf "_law_pick" "_law_pick" (defArgs sPick) (defBody sPick) (defScope sPick) .none kV_pick dc_pick pm_pick an_pick cd_pick ct_pick), sl_pick⟩) (v_pick : PySem.W.codeIn K cd_pick "_law_pick" = true) (k_pick : PySem.W.keepIn K (.ref g_pick) = true)
    {g_lnl : Addr} {od_lnl an_lnl : Option Addr} {sl_lnl : Array (Option Value)} {oc_lnl kV_lnl dc_lnl pm_lnl cd_lnl ct_lnl : Value}
    (u_lnl : PySem.W.nsIn K mainGlobals "_law_lines" = some (some (.ref g_lnl))) (l_lnl : K.lookup g_lnl = some ⟨oc_lnl, od_lnl, .func (PySem.W.fnOf "_law_lines" "_law_lines" (defArgs sLinesL) (defBody sLinesL) (defScope sLinesL) .none kV_lnl dc_lnl pm_lnl an_lnl cd_lnl ct_lnl), sl_lnl⟩) (v_lnl : PySem.W.codeIn K cd_lnl "_law_lines" = true) (k_lnl : PySem.W.keepIn K (.ref g_lnl) = true)
    {g_fresh : Addr} {od_fresh an_fresh : Option Addr} {sl_fresh : Array (Option Value)} {oc_fresh kV_fresh dc_fresh pm_fresh cd_fresh ct_fresh : Value}
    (u_fresh : PySem.W.nsIn K mainGlobals "_law_fresh_clash" = some (some (.ref g_fresh))) (l_fresh : K.lookup g_fresh = some ⟨oc_fresh, od_fresh, .func (PySem.W.fnOf "_law_fresh_clash" "_law_fresh_clash" (defArgs sFresh) (defBody sFresh) (defScope sFresh) .none kV_fresh dc_fresh pm_fresh an_fresh cd_fresh ct_fresh), sl_fresh⟩) (v_fresh : PySem.W.codeIn K cd_fresh "_law_fresh_clash" = true) (k_fresh : PySem.W.keepIn K (.ref g_fresh) = true)
    {g_tokens : Addr} {od_tokens an_tokens : Option Addr} {sl_tokens : Array (Option Value)} {oc_tokens kV_tokens dc_tokens pm_tokens cd_tokens ct_tokens : Value}
    (u_tokens : PySem.W.nsIn K mainGlobals "_law_tokens" = some (some (.ref g_tokens))) (l_tokens : K.lookup g_tokens = some ⟨oc_tokens, od_tokens, .func (PySem.W.fnOf "_law_tokens" "_law_tokens" (defArgs sTokens) (defBody sTokens) (defScope sTokens) .none kV_tokens dc_tokens pm_tokens an_tokens cd_tokens ct_tokens), sl_tokens⟩) (v_tokens : PySem.W.codeIn K cd_tokens "_law_tokens" = true) (k_tokens : PySem.W.keepIn K (.ref g_tokens) = true)
    {g_lline : Addr} {od_lline an_lline : Option Addr} {sl_lline : Array (Option Value)} {oc_lline kV_lline dc_lline pm_lline cd_lline ct_lline : Value}
    (u_lline : PySem.W.nsIn K mainGlobals "_law_is_line" = some (some (.ref g_lline))) (l_lline : K.lookup g_lline = some ⟨oc_lline, od_lline, .func (PySem.W.fnOf "_law_is_line" "_law_is_line" (defArgs sLLine) (defBody sLLine) (defScope sLLine) .none kV_lline dc_lline pm_lline an_lline cd_lline ct_lline), sl_lline⟩) (v_lline : PySem.W.codeIn K cd_lline "_law_is_line" = true) (k_lline : PySem.W.keepIn K (.ref g_lline) = true)
    {g_lnum : Addr} {od_lnum an_lnum : Option Addr} {sl_lnum : Array (Option Value)} {oc_lnum kV_lnum dc_lnum pm_lnum cd_lnum ct_lnum : Value}
    (u_lnum : PySem.W.nsIn K mainGlobals "_law_is_number" = some (some (.ref g_lnum))) (l_lnum : K.lookup g_lnum = some ⟨oc_lnum, od_lnum, .func (PySem.W.fnOf "_law_is_number" "_law_is_number" (defArgs sLNum) (defBody sLNum) (defScope sLNum) .none kV_lnum dc_lnum pm_lnum an_lnum cd_lnum ct_lnum), sl_lnum⟩) (v_lnum : PySem.W.codeIn K cd_lnum "_law_is_number" = true) (k_lnum : PySem.W.keepIn K (.ref g_lnum) = true)
    {g_llines : Addr} {od_llines an_llines : Option Addr} {sl_llines : Array (Option Value)} {oc_llines kV_llines dc_llines pm_llines cd_llines ct_llines : Value}
    (u_llines : PySem.W.nsIn K mainGlobals "_law_is_lines" = some (some (.ref g_llines))) (l_llines : K.lookup g_llines = some ⟨oc_llines, od_llines, .func (PySem.W.fnOf "_law_is_lines" "_law_is_lines" (defArgs sLLines) (defBody sLLines) (defScope sLLines) .none kV_llines dc_llines pm_llines an_llines cd_llines ct_llines), sl_llines⟩) (v_llines : PySem.W.codeIn K cd_llines "_law_is_lines" = true) (k_llines : PySem.W.keepIn K (.ref g_llines) = true)
    {g_ltok : Addr} {od_ltok an_ltok : Option Addr} {sl_ltok : Array (Option Value)} {oc_ltok kV_ltok dc_ltok pm_ltok cd_ltok ct_ltok : Value}
    (u_ltok : PySem.W.nsIn K mainGlobals "_law_is_token" = some (some (.ref g_ltok))) (l_ltok : K.lookup g_ltok = some ⟨oc_ltok, od_ltok, .func (PySem.W.fnOf "_law_is_token" "_law_is_token" (defArgs sLTok) (defBody sLTok) (defScope sLTok) .none kV_ltok dc_ltok pm_ltok an_ltok cd_ltok ct_ltok), sl_ltok⟩) (v_ltok : PySem.W.codeIn K cd_ltok "_law_is_token" = true) (k_ltok : PySem.W.keepIn K (.ref g_ltok) = true)
    {g_ltoks : Addr} {od_ltoks an_ltoks : Option Addr} {sl_ltoks : Array (Option Value)} {oc_ltoks kV_ltoks dc_ltoks pm_ltoks cd_ltoks ct_ltoks : Value}
    (u_ltoks : PySem.W.nsIn K mainGlobals "_law_is_tokens" = some (some (.ref g_ltoks))) (l_ltoks : K.lookup g_ltoks = some ⟨oc_ltoks, od_ltoks, .func (PySem.W.fnOf "_law_is_tokens" "_law_is_tokens" (defArgs sLToks) (defBody sLToks) (defScope sLToks) .none kV_ltoks dc_ltoks pm_ltoks an_ltoks cd_ltoks ct_ltoks), sl_ltoks⟩) (v_ltoks : PySem.W.codeIn K cd_ltoks "_law_is_tokens" = true) (k_ltoks : PySem.W.keepIn K (.ref g_ltoks) = true)
    {g_odd : Addr} {od_odd an_odd : Option Addr} {sl_odd : Array (Option Value)} {oc_odd kV_odd dc_odd pm_odd cd_odd ct_odd : Value}
    (u_odd : PySem.W.nsIn K mainGlobals "_law_odd" = some (some (.ref g_odd))) (l_odd : K.lookup g_odd = some ⟨oc_odd, od_odd, .func (PySem.W.fnOf "_law_odd" "_law_odd" (defArgs sOdd) (defBody sOdd) (defScope sOdd) .none kV_odd dc_odd pm_odd an_odd cd_odd ct_odd), sl_odd⟩) (v_odd : PySem.W.codeIn K cd_odd "_law_odd" = true) (k_odd : PySem.W.keepIn K (.ref g_odd) = true)
    {g_bentt : Addr} {od_bentt an_bentt : Option Addr} {sl_bentt : Array (Option Value)} {oc_bentt kV_bentt dc_bentt pm_bentt cd_bentt ct_bentt : Value}
    (u_bentt : PySem.W.nsIn K mainGlobals "_law_bent_token" = some (some (.ref g_bentt))) (l_bentt : K.lookup g_bentt = some ⟨oc_bentt, od_bentt, .func (PySem.W.fnOf "_law_bent_token" "_law_bent_token" (defArgs sBentTok) (defBody sBentTok) (defScope sBentTok) .none kV_bentt dc_bentt pm_bentt an_bentt cd_bentt ct_bentt), sl_bentt⟩) (v_bentt : PySem.W.codeIn K cd_bentt "_law_bent_token" = true) (k_bentt : PySem.W.keepIn K (.ref g_bentt) = true)
    {g_bent : Addr} {od_bent an_bent : Option Addr} {sl_bent : Array (Option Value)} {oc_bent kV_bent dc_bent pm_bent cd_bent ct_bent : Value}
    (u_bent : PySem.W.nsIn K mainGlobals "_law_bent" = some (some (.ref g_bent))) (l_bent : K.lookup g_bent = some ⟨oc_bent, od_bent, .func (PySem.W.fnOf "_law_bent" "_law_bent" (defArgs sBent) (defBody sBent) (defScope sBent) .none kV_bent dc_bent pm_bent an_bent cd_bent ct_bent), sl_bent⟩) (v_bent : PySem.W.codeIn K cd_bent "_law_bent" = true) (k_bent : PySem.W.keepIn K (.ref g_bent) = true)
    {g_turned : Addr} {od_turned an_turned : Option Addr} {sl_turned : Array (Option Value)} {oc_turned kV_turned dc_turned pm_turned cd_turned ct_turned : Value}
    (u_turned : PySem.W.nsIn K mainGlobals "_law_turned" = some (some (.ref g_turned))) (l_turned : K.lookup g_turned = some ⟨oc_turned, od_turned, .func (PySem.W.fnOf "_law_turned" "_law_turned" (defArgs sTurned) (defBody sTurned) (defScope sTurned) .none kV_turned dc_turned pm_turned an_turned cd_turned ct_turned), sl_turned⟩) (v_turned : PySem.W.codeIn K cd_turned "_law_turned" = true) (k_turned : PySem.W.keepIn K (.ref g_turned) = true)
    {g_due : Addr} {od_due an_due : Option Addr} {sl_due : Array (Option Value)} {oc_due kV_due dc_due pm_due cd_due ct_due : Value}
    (u_due : PySem.W.nsIn K mainGlobals "_law_due" = some (some (.ref g_due))) (l_due : K.lookup g_due = some ⟨oc_due, od_due, .func (PySem.W.fnOf "_law_due" "_law_due" (defArgs sDue) (defBody sDue) (defScope sDue) .none kV_due dc_due pm_due an_due cd_due ct_due), sl_due⟩) (v_due : PySem.W.codeIn K cd_due "_law_due" = true) (k_due : PySem.W.keepIn K (.ref g_due) = true)
    {g_asked : Addr} {od_asked an_asked : Option Addr} {sl_asked : Array (Option Value)} {oc_asked kV_asked dc_asked pm_asked cd_asked ct_asked : Value}
    (u_asked : PySem.W.nsIn K mainGlobals "_law_asked" = some (some (.ref g_asked))) (l_asked : K.lookup g_asked = some ⟨oc_asked, od_asked, .func (PySem.W.fnOf "_law_asked" "_law_asked" (defArgs sAsked) (defBody sAsked) (defScope sAsked) .none kV_asked dc_asked pm_asked an_asked cd_asked ct_asked), sl_asked⟩) (v_asked : PySem.W.codeIn K cd_asked "_law_asked" = true) (k_asked : PySem.W.keepIn K (.ref g_asked) = true)
    {g_right : Addr} {od_right an_right : Option Addr} {sl_right : Array (Option Value)} {oc_right kV_right dc_right pm_right cd_right ct_right : Value}
    (u_right : PySem.W.nsIn K mainGlobals "_law_right" = some (some (.ref g_right))) (l_right : K.lookup g_right = some ⟨oc_right, od_right, .func (PySem.W.fnOf "_law_right" "_law_right" (defArgs sRight) (defBody sRight) (defScope sRight) .none kV_right dc_right pm_right an_right cd_right ct_right), sl_right⟩) (v_right : PySem.W.codeIn K cd_right "_law_right" = true) (k_right : PySem.W.keepIn K (.ref g_right) = true)
    {g_law : Addr} {od_law an_law : Option Addr} {sl_law : Array (Option Value)} {oc_law kV_law dc_law pm_law cd_law ct_law : Value}
    (u_law : PySem.W.nsIn K mainGlobals "law" = some (some (.ref g_law))) (l_law : K.lookup g_law = some ⟨oc_law, od_law, .func (PySem.W.fnOf "law" "law" (defArgs sLaw) (defBody sLaw) (defScope sLaw) .none kV_law dc_law pm_law an_law cd_law ct_law), sl_law⟩) (v_law : PySem.W.codeIn K cd_law "law" = true) (k_law : PySem.W.keepIn K (.ref g_law) = true)
    (zz : (["len", "abs", "max", "min", "int", "divmod", "repr", "isinstance", "enumerate", "range", "all", "super", "tuple", "bool", "str", "list", "ValueError", "RuntimeError"].map fun x => PySem.W.nsIn K mainGlobals (Str.ofString x)) = [some none, some none, some none, some none, some none, some none, some none, some none, some none, some none, some none, some none, some none, some none, some none, some none, some none, some none])
    {t_MOST : Nat} (c_MOST : PySem.W.nsIn K mainGlobals "MOST" = some (some (.int 60 t_MOST)))
    {t_MOST_TOKENS : Nat} (c_MOST_TOKENS : PySem.W.nsIn K mainGlobals "MOST_TOKENS" = some (some (.int 180 t_MOST_TOKENS)))
    {CI CS : Addr}
    (x_ci : PySem.W.nsIn K mainGlobals "InputError" = some (some (.ref CI)))
    (x_cs : PySem.W.nsIn K mainGlobals "StateError" = some (some (.ref CS)))
    (x_ap : Apart2 K C_InvalidRow C_Clashes CI CS)
    : ∃ fd : FuncData, (∀ (s : Shared) (v : Value), BindsTo s fd ⟨[v], []⟩ [("_law_script", v)]) ∧ ∀ base : Heap, K.In base → base.Ns mainGlobals mg → FnG prg w K mg base 10 fa fd ["_law_script"] (spLaw K) := by
  have e := hfa.symm.trans (PySem.W.mg_of X G u_law)
  cases e
  have zb : ∀ x ∈ (["len", "abs", "max", "min", "int", "divmod", "repr", "isinstance", "enumerate", "range", "all", "super", "tuple", "bool", "str", "list", "ValueError", "RuntimeError"] : List String), mg (Str.ofString x) = none := fun x hx => PySem.W.mg_none_of X G (by
    have e : ∀ y ∈ (["len", "abs", "max", "min", "int", "divmod", "repr", "isinstance", "enumerate", "range", "all", "super", "tuple", "bool", "str", "list", "ValueError", "RuntimeError"] : List String), (fun x => PySem.W.nsIn K mainGlobals (Str.ofString x)) y = (fun _ => some none) y := List.map_inj_left.mp (zz.trans rfl)
    exact e x hx)
  have T : Blt mg := ⟨fun x hx => by
    simp only [List.mem_cons, List.not_mem_nil, or_false] at hx
    rcases hx with rfl | rfl | rfl | rfl | rfl | rfl | rfl | rfl | rfl | rfl | rfl | rfl | rfl | rfl | rfl | rfl <;> exact zb _ (by decide)⟩
  have X_InvalidRow := xok_InvalidRow X G a_InvalidRow b_InvalidRow i_InvalidRow S_InvalidRow
  have X_Clashes := xok_Clashes X G a_Clashes b_Clashes i_Clashes S_Clashes
  have M_MOST := PySem.W.mg_of X G c_MOST
  have M_MOST_TOKENS := PySem.W.mg_of X G c_MOST_TOKENS
  have F_whole := fun_mk (st := sWhole) l_whole v_whole k_whole
  have b_whole := F_whole.binds (ps := ["value"]) fun _ _ _ _ _ _ us hl => match us, hl with | [_], _ => rfl
  have m_whole := PySem.W.mg_of X G u_whole
  have F_tup := fun_mk (st := sIsTuple) l_tup v_tup k_tup
  have b_tup := F_tup.binds (ps := ["value", "many"]) fun _ _ _ _ _ _ us hl => match us, hl with | [_, _], _ => rfl
  have m_tup := PySem.W.mg_of X G u_tup
  have F_line := fun_mk (st := sLine) l_line v_line k_line
  have b_line := F_line.binds (ps := ["value"]) fun _ _ _ _ _ _ us hl => match us, hl with | [_], _ => rfl
  have m_line := PySem.W.mg_of X G u_line
  have F_isclash := fun_mk (st := sIsClash) l_isclash v_isclash k_isclash
  have b_isclash := F_isclash.binds (ps := ["token"]) fun _ _ _ _ _ _ us hl => match us, hl with | [_], _ => rfl
  have m_isclash := PySem.W.mg_of X G u_isclash
  have F_lines := fun_mk (st := sLines) l_lines v_lines k_lines
  have b_lines := F_lines.binds (ps := ["value"]) fun _ _ _ _ _ _ us hl => match us, hl with | [_], _ => rfl
  have m_lines := PySem.W.mg_of X G u_lines
  have F_clashl := fun_mk (st := sClashL) l_clashl v_clashl k_clashl
  have b_clashl := F_clashl.binds (ps := ["value"]) fun _ _ _ _ _ _ us hl => match us, hl with | [_], _ => rfl
  have m_clashl := PySem.W.mg_of X G u_clashl
  have F_isrow := fun_mk (st := sIsRow) l_isrow v_isrow k_isrow
  have b_isrow := F_isrow.binds (ps := ["value"]) fun _ _ _ _ _ _ us hl => match us, hl with | [_], _ => rfl
  have m_isrow := PySem.W.mg_of X G u_isrow
  have F_chk := fun_mk (st := sChkRow) l_chk v_chk k_chk
  have b_chk := F_chk.binds (ps := ["row"]) fun _ _ _ _ _ _ us hl => match us, hl with | [_], _ => rfl
  have m_chk := PySem.W.mg_of X G u_chk
  have F_clashes := fun_mk (st := sClashes) l_clashes v_clashes k_clashes
  have b_clashes := F_clashes.binds (ps := ["row"]) fun _ _ _ _ _ _ us hl => match us, hl with | [_], _ => rfl
  have m_clashes := PySem.W.mg_of X G u_clashes
  have F_textof := fun_mk (st := sTextOf) l_textof v_textof k_textof
  have b_textof := F_textof.binds (ps := ["row"]) fun _ _ _ _ _ _ us hl => match us, hl with | [_], _ => rfl
  have m_textof := PySem.W.mg_of X G u_textof
  have F_swapped := fun_mk (st := sSwapped) l_swapped v_swapped k_swapped
  have b_swapped := F_swapped.binds (ps := ["row"]) fun _ _ _ _ _ _ us hl => match us, hl with | [_], _ => rfl
  have m_swapped := PySem.W.mg_of X G u_swapped
  have F_pot := fun_mk (st := sPot) l_pot v_pot k_pot
  have b_pot := F_pot.binds (ps := ["_law_script", "_law_index"]) fun _ _ _ _ _ _ us hl => match us, hl with | [_, _], _ => rfl
  have m_pot := PySem.W.mg_of X G u_pot
  have F_draw := fun_mk (st := sDraw) l_draw v_draw k_draw
  have b_draw := F_draw.binds (ps := ["_law_pot_here", "_law_many"]) fun _ _ _ _ _ _ us hl => match us, hl with | [_, _], _ => rfl
  have m_draw := PySem.W.mg_of X G u_draw
  have F_pick := fun_mk (st := sPick) l_pick v_pick k_pick
  have b_pick := F_pick.binds (ps := ["_law_pot_here", "_law_some"]) fun _ _ _ _ _ _ us hl => match us, hl with | [_, _], _ => rfl
  have m_pick := PySem.W.mg_of X G u_pick
  have F_lnl := fun_mk (st := sLinesL) l_lnl v_lnl k_lnl
  have b_lnl := F_lnl.binds (ps := ["_law_pot_here"]) fun _ _ _ _ _ _ us hl => match us, hl with | [_], _ => rfl
  have m_lnl := PySem.W.mg_of X G u_lnl
  have F_fresh := fun_mk (st := sFresh) l_fresh v_fresh k_fresh
  have b_fresh := F_fresh.binds (ps := ["_law_pot_here"]) fun _ _ _ _ _ _ us hl => match us, hl with | [_], _ => rfl
  have m_fresh := PySem.W.mg_of X G u_fresh
  have F_tokens := fun_mk (st := sTokens) l_tokens v_tokens k_tokens
  have b_tokens := F_tokens.binds (ps := ["_law_pot_here", "_law_most"]) fun _ _ _ _ _ _ us hl => match us, hl with | [_, _], _ => rfl
  have m_tokens := PySem.W.mg_of X G u_tokens
  have F_lline := fun_mk (st := sLLine) l_lline v_lline k_lline
  have b_lline := F_lline.binds (ps := ["_law_value"]) fun _ _ _ _ _ _ us hl => match us, hl with | [_], _ => rfl
  have m_lline := PySem.W.mg_of X G u_lline
  have F_lnum := fun_mk (st := sLNum) l_lnum v_lnum k_lnum
  have b_lnum := F_lnum.binds (ps := ["_law_value"]) fun _ _ _ _ _ _ us hl => match us, hl with | [_], _ => rfl
  have m_lnum := PySem.W.mg_of X G u_lnum
  have F_llines := fun_mk (st := sLLines) l_llines v_llines k_llines
  have b_llines := F_llines.binds (ps := ["_law_value"]) fun _ _ _ _ _ _ us hl => match us, hl with | [_], _ => rfl
  have m_llines := PySem.W.mg_of X G u_llines
  have F_ltok := fun_mk (st := sLTok) l_ltok v_ltok k_ltok
  have b_ltok := F_ltok.binds (ps := ["_law_value"]) fun _ _ _ _ _ _ us hl => match us, hl with | [_], _ => rfl
  have m_ltok := PySem.W.mg_of X G u_ltok
  have F_ltoks := fun_mk (st := sLToks) l_ltoks v_ltoks k_ltoks
  have b_ltoks := F_ltoks.binds (ps := ["_law_value"]) fun _ _ _ _ _ _ us hl => match us, hl with | [_], _ => rfl
  have m_ltoks := PySem.W.mg_of X G u_ltoks
  have F_odd := fun_mk (st := sOdd) l_odd v_odd k_odd
  have b_odd := F_odd.binds (ps := ["_law_pot_here"]) fun _ _ _ _ _ _ us hl => match us, hl with | [_], _ => rfl
  have m_odd := PySem.W.mg_of X G u_odd
  have F_bentt := fun_mk (st := sBentTok) l_bentt v_bentt k_bentt
  have b_bentt := F_bentt.binds (ps := ["_law_pot_here", "_law_token"]) fun _ _ _ _ _ _ us hl => match us, hl with | [_, _], _ => rfl
  have m_bentt := PySem.W.mg_of X G u_bentt
  have F_bent := fun_mk (st := sBent) l_bent v_bent k_bent
  have b_bent := F_bent.binds (ps := ["_law_pot_here", "_law_value"]) fun _ _ _ _ _ _ us hl => match us, hl with | [_, _], _ => rfl
  have m_bent := PySem.W.mg_of X G u_bent
  have F_turned := fun_mk (st := sTurned) l_turned v_turned k_turned
  have b_turned := F_turned.binds (ps := ["_law_token"]) fun _ _ _ _ _ _ us hl => match us, hl with | [_], _ => rfl
  have m_turned := PySem.W.mg_of X G u_turned
  have F_due := fun_mk (st := sDue) l_due v_due k_due
  have b_due := F_due.binds (ps := ["_law_way", "_law_value"]) fun _ _ _ _ _ _ us hl => match us, hl with | [_, _], _ => rfl
  have m_due := PySem.W.mg_of X G u_due
  have F_asked := fun_mk (st := sAsked) l_asked v_asked k_asked
  have b_asked := F_asked.binds (ps := ["_law_way", "_law_value"]) fun _ _ _ _ _ _ us hl => match us, hl with | [_, _], _ => rfl
  have m_asked := PySem.W.mg_of X G u_asked
  have F_right := fun_mk (st := sRight) l_right v_right k_right
  have b_right := F_right.binds (ps := ["_law_pot_here"]) fun _ _ _ _ _ _ us hl => match us, hl with | [_], _ => rfl
  have m_right := PySem.W.mg_of X G u_right
  have F_law := fun_mk (st := sLaw) l_law v_law k_law
  have b_law := F_law.binds (ps := ["_law_script"]) fun _ _ _ _ _ _ us hl => match us, hl with | [_], _ => rfl
  have m_law := PySem.W.mg_of X G u_law
  refine ⟨PySem.W.fnOf "law" "law" (defArgs sLaw) (defBody sLaw) (defScope sLaw) .none kV_law dc_law pm_law an_law cd_law ct_law, fun s v => .of_eq rfl, fun base _ _ => ?_⟩
  have G_lines := ok_lines (P := prg) (w := w) (base := base) F_lines T M_MOST F_line b_line m_line
  have G_clashl := ok_clashL (P := prg) (w := w) (base := base) F_clashl T M_MOST F_tup b_tup m_tup F_whole b_whole m_whole F_lines G_lines b_lines m_lines
  have G_isrow := ok_isRow (P := prg) (w := w) (base := base) F_isrow T M_MOST_TOKENS F_line b_line m_line F_clashl G_clashl b_clashl m_clashl
  have G_chk := ok_chkRow (P := prg) (w := w) (base := base) F_chk (T.all "super" (by decide)) X_InvalidRow F_isrow G_isrow b_isrow m_isrow
  have G_clashes := ok_clashes (P := prg) (w := w) (base := base) F_clashes T F_chk G_chk b_chk m_chk F_isclash b_isclash m_isclash
  have G_textof := ok_textOf (P := prg) (w := w) (base := base) F_textof T (T.all "super" (by decide)) X_Clashes F_clashes G_clashes b_clashes m_clashes
  have G_swapped := ok_swapped (P := prg) (w := w) (base := base) F_swapped T F_chk G_chk b_chk m_chk F_isclash b_isclash m_isclash
  have G_pot := ok_pot (P := prg) (w := w) (base := base) F_pot T
  have G_draw := ok_draw (P := prg) (w := w) (base := base) F_draw T
  have G_pick := ok_pick (P := prg) (w := w) (base := base) F_pick T F_draw b_draw m_draw
  have DR : Draws prg w K mg base _ _ _ _ := ⟨F_draw, G_draw, b_draw, m_draw, F_pick, G_pick, b_pick, m_pick⟩
  have G_lnl := ok_linesL (P := prg) (w := w) (base := base) F_lnl T DR
  have G_fresh := ok_fresh (P := prg) (w := w) (base := base) F_fresh T DR F_lnl G_lnl b_lnl m_lnl
  have G_tokens := ok_tokens (P := prg) (w := w) (base := base) F_tokens T DR F_fresh G_fresh b_fresh m_fresh
  have G_llines := ok_llines (tm := 0) (P := prg) (w := w) (base := base) F_llines T F_lline b_lline m_lline
  have G_ltok := ok_ltok (P := prg) (w := w) (base := base) F_ltok T F_lline b_lline m_lline F_lnum b_lnum m_lnum F_llines G_llines b_llines m_llines
  have G_ltoks := ok_ltoks (P := prg) (w := w) (base := base) F_ltoks T F_ltok G_ltok b_ltok m_ltok
  have G_odd := ok_odd (P := prg) (w := w) (base := base) F_odd DR
  have G_bentt := ok_bentTok (P := prg) (w := w) (base := base) F_bentt T DR F_odd G_odd b_odd m_odd
  have G_bent := ok_bent (P := prg) (w := w) (base := base) F_bent T DR F_odd G_odd b_odd m_odd F_bentt G_bentt b_bentt m_bentt
  have G_turned := ok_turned (P := prg) (w := w) (base := base) (mg := mg) F_turned
  have G_due := ok_due (P := prg) (w := w) (base := base) F_due T F_ltoks G_ltoks b_ltoks m_ltoks F_turned G_turned b_turned m_turned
  have G_asked := ok_asked (P := prg) (w := w) (base := base) F_asked T x_ap F_clashes G_clashes b_clashes m_clashes F_swapped G_swapped b_swapped m_swapped F_textof G_textof b_textof m_textof X_InvalidRow X_Clashes (PySem.W.mg_of X G x_ci) (PySem.W.mg_of X G x_cs) (zb "ValueError" (by decide)) (zb "RuntimeError" (by decide))
  have G_right := ok_right (P := prg) (w := w) (base := base) F_right T F_tokens G_tokens b_tokens m_tokens F_bent G_bent b_bent m_bent F_isrow G_isrow b_isrow m_isrow F_ltoks G_ltoks b_ltoks m_ltoks F_asked G_asked b_asked m_asked F_due G_due b_due m_due F_swapped G_swapped b_swapped m_swapped
  exact ok_law F_law T F_pot G_pot b_pot m_pot F_right G_right b_right m_right
theorem walk {l : PySem.W.OpenLaw} {q : Program} {loose : List Str} {XP : (Str → Option Value) → Heap → Prop} {YP : World → Heap → Prop} {d : DefRec} {K : Params → PySem.W.Frag} (hn : l.most = some 63) (hdf : d.params.defaults = [])
    (hY : ∀ (w : World) (h : Heap), YP w h → (K w.params).In h)
    (F : ∀ (w : World) (mg : Str → Option Value) (fa : Addr) (h : Heap), (K w.params).In h → h.Ns mainGlobals mg → mg d.name = some (.ref fa) →
      ∃ fd : FuncData, (∀ (s : Shared) (u : Value), BindsTo s fd ⟨[u], []⟩ [("_law_script", u)]) ∧ ∀ base : Heap, (K w.params).In base → base.Ns mainGlobals mg → FnG l.prog w (K w.params) mg base 10 fa fd ["_law_script"] (spLaw (K w.params))) :
    PySem.W.WalkO q loose XP YP l.row.toRowW d [] (fun f vs => PySem.call f vs) :=
  walkG (n := 63) (k := 10) (x := "_law_script") (sp := fun w => spLaw (K w.params)) hn (by decide) hdf ⟨rfl, by decide, by decide⟩ hY F (fun _ _ a ns hl _ hS => ⟨a, ns, rfl, hS, hl, fun _ => rfl⟩)
end K64
open PySem PySem.W PyProof.Rows
set_option maxRecDepth 100000 in
set_option maxHeartbeats 0 in
theorem PySem.Challenge.cw_alldiffs_k64_rows_judged_holds : PySem.Challenge.rw_alldiffs_k64_rows_judged.Holds := by
  w_on; o_law; k_headL; (case hw => w_witness2)
  k_fill
  refine K64.walk (l := PySem.Challenge.rw_alldiffs_k64_rows_judged) rfl rfl (fun w h Y => PySem.W.kIn_of Y) ?F
  case F =>
    intro w mg fa h KX G hmg
    refine' K64.all_mk KX G hmg ?a_InvalidRow ?b_InvalidRow ?i_InvalidRow ?S_InvalidRow ?a_Clashes ?b_Clashes ?i_Clashes ?S_Clashes ?u_whole ?l_whole ?v_whole ?k_whole ?u_tup ?l_tup ?v_tup ?k_tup ?u_line ?l_line ?v_line ?k_line ?u_isclash ?l_isclash ?v_isclash ?k_isclash ?u_lines ?l_lines ?v_lines ?k_lines ?u_clashl ?l_clashl ?v_clashl ?k_clashl ?u_isrow ?l_isrow ?v_isrow ?k_isrow ?u_chk ?l_chk ?v_chk ?k_chk ?u_clashes ?l_clashes ?v_clashes ?k_clashes ?u_textof ?l_textof ?v_textof ?k_textof ?u_swapped ?l_swapped ?v_swapped ?k_swapped ?u_pot ?l_pot ?v_pot ?k_pot ?u_draw ?l_draw ?v_draw ?k_draw ?u_pick ?l_pick ?v_pick ?k_pick ?u_lnl ?l_lnl ?v_lnl ?k_lnl ?u_fresh ?l_fresh ?v_fresh ?k_fresh ?u_tokens ?l_tokens ?v_tokens ?k_tokens ?u_lline ?l_lline ?v_lline ?k_lline ?u_lnum ?l_lnum ?v_lnum ?k_lnum ?u_llines ?l_llines ?v_llines ?k_llines ?u_ltok ?l_ltok ?v_ltok ?k_ltok ?u_ltoks ?l_ltoks ?v_ltoks ?k_ltoks ?u_odd ?l_odd ?v_odd ?k_odd ?u_bentt ?l_bentt ?v_bentt ?k_bentt ?u_bent ?l_bent ?v_bent ?k_bent ?u_turned ?l_turned ?v_turned ?k_turned ?u_due ?l_due ?v_due ?k_due ?u_asked ?l_asked ?v_asked ?k_asked ?u_right ?l_right ?v_right ?k_right ?u_law ?l_law ?v_law ?k_law ?zz ?c_MOST ?c_MOST_TOKENS ?x_ci ?x_cs ?x_ap
    (case a_InvalidRow => k_is); (case b_InvalidRow => k_is); (case i_InvalidRow => exact ⟨_, _, _, _, _, _, _, _, rfl⟩)
    (case a_Clashes => k_is); (case b_Clashes => k_is); (case i_Clashes => exact ⟨_, _, _, _, _, _, _, _, rfl⟩)
    (case u_whole => k_is); (case l_whole => k_is); (case v_whole => k_is); (case k_whole => k_is)
    (case u_tup => k_is); (case l_tup => k_is); (case v_tup => k_is); (case k_tup => k_is)
    (case u_line => k_is); (case l_line => k_is); (case v_line => k_is); (case k_line => k_is)
    (case u_isclash => k_is); (case l_isclash => k_is); (case v_isclash => k_is); (case k_isclash => k_is)
    (case u_lines => k_is); (case l_lines => k_is); (case v_lines => k_is); (case k_lines => k_is)
    (case u_clashl => k_is); (case l_clashl => k_is); (case v_clashl => k_is); (case k_clashl => k_is)
    (case u_isrow => k_is); (case l_isrow => k_is); (case v_isrow => k_is); (case k_isrow => k_is)
    (case u_chk => k_is); (case l_chk => k_is); (case v_chk => k_is); (case k_chk => k_is)
    (case u_clashes => k_is); (case l_clashes => k_is); (case v_clashes => k_is); (case k_clashes => k_is)
    (case u_textof => k_is); (case l_textof => k_is); (case v_textof => k_is); (case k_textof => k_is)
    (case u_swapped => k_is); (case l_swapped => k_is); (case v_swapped => k_is); (case k_swapped => k_is)
    (case u_pot => k_is); (case l_pot => k_is); (case v_pot => k_is); (case k_pot => k_is)
    (case u_draw => k_is); (case l_draw => k_is); (case v_draw => k_is); (case k_draw => k_is)
    (case u_pick => k_is); (case l_pick => k_is); (case v_pick => k_is); (case k_pick => k_is)
    (case u_lnl => k_is); (case l_lnl => k_is); (case v_lnl => k_is); (case k_lnl => k_is)
    (case u_fresh => k_is); (case l_fresh => k_is); (case v_fresh => k_is); (case k_fresh => k_is)
    (case u_tokens => k_is); (case l_tokens => k_is); (case v_tokens => k_is); (case k_tokens => k_is)
    (case u_lline => k_is); (case l_lline => k_is); (case v_lline => k_is); (case k_lline => k_is)
    (case u_lnum => k_is); (case l_lnum => k_is); (case v_lnum => k_is); (case k_lnum => k_is)
    (case u_llines => k_is); (case l_llines => k_is); (case v_llines => k_is); (case k_llines => k_is)
    (case u_ltok => k_is); (case l_ltok => k_is); (case v_ltok => k_is); (case k_ltok => k_is)
    (case u_ltoks => k_is); (case l_ltoks => k_is); (case v_ltoks => k_is); (case k_ltoks => k_is)
    (case u_odd => k_is); (case l_odd => k_is); (case v_odd => k_is); (case k_odd => k_is)
    (case u_bentt => k_is); (case l_bentt => k_is); (case v_bentt => k_is); (case k_bentt => k_is)
    (case u_bent => k_is); (case l_bent => k_is); (case v_bent => k_is); (case k_bent => k_is)
    (case u_turned => k_is); (case l_turned => k_is); (case v_turned => k_is); (case k_turned => k_is)
    (case u_due => k_is); (case l_due => k_is); (case v_due => k_is); (case k_due => k_is)
    (case u_asked => k_is); (case l_asked => k_is); (case v_asked => k_is); (case k_asked => k_is)
    (case u_right => k_is); (case l_right => k_is); (case v_right => k_is); (case k_right => k_is)
    (case u_law => k_is); (case l_law => k_is); (case v_law => k_is); (case k_law => k_is)
    (case c_MOST => k_is)
    (case c_MOST_TOKENS => k_is)
    (case S_InvalidRow => exact ⟨by kernel_rfl, by kernel_rfl, by kernel_rfl, by kernel_rfl, by kernel_rfl, by kernel_rfl, by kernel_rfl, by kernel_rfl, by kernel_rfl, by kernel_rfl, by kernel_rfl, by kernel_rfl, by kernel_rfl, by kernel_rfl, by kernel_rfl, by kernel_rfl, by kernel_rfl, by kernel_rfl, by kernel_rfl, by kernel_rfl, by kernel_rfl, by kernel_rfl, by kernel_rfl, by kernel_rfl⟩)
    (case S_Clashes => exact ⟨by kernel_rfl, by kernel_rfl, by kernel_rfl, by kernel_rfl, by kernel_rfl, by kernel_rfl, by kernel_rfl, by kernel_rfl, by kernel_rfl, by kernel_rfl, by kernel_rfl, by kernel_rfl, by kernel_rfl, by kernel_rfl, by kernel_rfl, by kernel_rfl, by kernel_rfl, by kernel_rfl, by kernel_rfl, by kernel_rfl, by kernel_rfl, by kernel_rfl, by kernel_rfl, by kernel_rfl⟩)
    (case zz => kernel_rfl)
    (case x_ci => k_is)
    (case x_cs => k_is)
    (case x_ap => exact ⟨by kernel_rfl, by kernel_rfl, by kernel_rfl, by kernel_rfl, by kernel_rfl, by kernel_rfl, by kernel_rfl⟩)
