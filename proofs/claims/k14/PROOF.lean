import PyProof.Rows.All
import Wide.All
import OpenK.AllK
import Wide.FinOn
import KE.OsRunLaw
import KE.KExcIs
import KE.KExcTry
import KE.KExcSuper
import HandS.Exc
import HandS.ExcInit
import HandS.ExcSuper
import HandS.ForMost
import HandS.RaiseMore
import PyProof.ReprRoads
import HandS.ExcIs
import HandS.Walk
import HandS.Style
import HandS.Star
import HandS.IsInst
import HandS.Text
import HandS.Zip
import HandS.TupAny
import HandS.WordsExc
import HandS.DictComp
import KE.KRevSl
import KE.KDictPairs
import HandS.TryMany
import HandS.ClsMeth
import HandS.More
import HandS.Defaults
import HandS.Conv
import PyProof.FitsInt
import HandS.TryOnly
import HandS.SortInts
import PySem.Challenge.RW_alldiffs_k14_whole_diffs_taken_apart
set_option Elab.async false
set_option maxRecDepth 100000
set_option maxHeartbeats 8000000
set_option linter.all false
/-! An exception of a class of the text, made by a call with positions and keywords. -/
namespace XR
open PySem PySem.W PySem.Calls
section
variable {P : Program} {w : World} {M : Model} {A : Around} {E : Value → Shared → Prop} {R : Result → Shared → Prop} {h : Heap} {g : Array GenState} {d : Drawn} {t : Nat} {os : OsState}
variable {nm q : Str} {C N : Addr} {bs bm bmB : List Value} {hdct : Bool} {sn : List Str} {sub : List Value} {ab : Bool} {col : Option Bool} {dd : Option Addr} {k0 k1 k2 k3 k5 : Option Value} {B newId initId : String}

theorem newChecked (F : ExcBaseFacts B newId initId bmB) (hT : ∀ X : String, bm.contains (.type X) = bmB.contains (.type X)) {us : List Value} {kw : List (Str × Value)} {Q : Unit → Shared → Prop}
    (hC : h.get? C = some (excClassObj nm q C N bs bm hdct sn sub ab col dd k0 k1 k2 k3 k5 newId)) (z : Q () ⟨h, g, d, t, os⟩) : wpAny M A (checkBuiltinCall newId ⟨.ref C :: us, kw⟩) Q E ⟨h, g, d, t, os⟩ := by
  have c1 : (Value.ref C :: bm).contains (.type B) = true := by rw [List.contains_cons, hT, F.hasB, Bool.or_true]
  have c2 := F.noStar
  simp only [checkBuiltinCall, F.newKind, F.newSplit, F.newRow]
  repeat (first
    | refine wpAny_loadPart_at hC ?_
    | (refine wpAny_isSubtype_exc hC ?_; rw [c1])
    | refine wpAny_staticBase_exc hC ?_
    | refine wpAny_madeBy_exc hC ?_
    | simp only [bne_self_eq_false, Bool.false_eq_true, if_false]
    | wp_step)
  exact z

/-- BaseException.__new__ of such a class: the args from the positions alone -/
theorem newRuns (F : ExcBaseFacts B newId initId bmB) (hT : ∀ X : String, bm.contains (.type X) = bmB.contains (.type X)) {us : List Value} {kw : List (Str × Value)}
    (hC : h.get? C = some (excClassObj nm q C N bs bm hdct sn sub ab col dd k0 k1 k2 k3 k5 newId)) (hl : us.length ≤ sizeLine)
    (z : R (.ok (.ret (.ref (h.objs.size + 1)))) ⟨(h.push (kdv_tup us)).push (excObj C h.objs.size none .none), g, d, t, os⟩) :
    codeAny (model P w) A (.builtin newId ⟨.ref C :: us, kw⟩) R ⟨h, g, d, t, os⟩ := by
  have c0 := F.ends
  have c1 : (Value.ref C :: bm).contains (.type B) = true := by rw [List.contains_cons, hT, F.hasB, Bool.or_true]
  have c2 : (Value.ref C :: bm).contains (.type "AttributeError") = false := by rw [List.contains_cons, hT, F.noAttr]; rfl
  have c3 : (Value.ref C :: bm).contains (.type "NameError") = false := by rw [List.contains_cons, hT, F.noName]; rfl
  refine codeAny_builtinAt F.entry ?_
  unfold Builtin.«BaseException.__new__»
  refine wpAt_bind ?_
  show PySem.wpAt _ _ _ (stack >>= _) _ _ _
  refine wpAt_bind (wpAt_stack fun p below => wpAt_of_wpAny ?_)
  wp_walk
  refine wpAt_of_wpAny ?_
  rw [F.owner]
  repeat (first
    | with_reducible refine wpAny_madeHere_exc F.canon hC ?_
    | with_reducible refine wpAny_loadPart_at hC ?_
    | (with_reducible refine wpAny_isSubtype_exc hC ?_; first | rw [c1] | rw [c2] | rw [c3])
    | wp_step)
  show R _ _
  rw [Heap.size_push]
  exact z

theorem typeCall (F : ExcBaseFacts B newId initId bmB) (hT : ∀ X : String, bm.contains (.type X) = bmB.contains (.type X)) {us : List Value} {kw : List (Str × Value)} {fI : Addr} {Q : Fin → Shared → Prop}
    (hC : h.get? C = some (excClassObj nm q C N bs bm hdct sn sub ab col dd k0 k1 k2 k3 k5 newId))
    (hi : Looks (model P w) h (typeLookup (.ref C) "__init__") (some (.ref fI))) (hb : ∀ self, Looks (model P w) h (bindSpecial (.ref fI) self) (.ref fI, [self])) (hl : us.length ≤ sizeLine)
    (z : codeAny (model P w) A (.call (.ref fI) ⟨.ref (h.objs.size + 1) :: us, kw⟩)
      (fun r s' => match r with | .ok (.ret v) => v = .none ∧ Q (.done (.ret (.ref (h.objs.size + 1)))) s' | .ok _ => False | .error e => E e s')
      ⟨(h.push (kdv_tup us)).push (excObj C h.objs.size none .none), g, d, t, os⟩) :
    wpAny (model P w) A (Builtin.«type.__call__» ⟨.ref C :: us, kw⟩) Q E ⟨h, g, d, t, os⟩ := by
  repeat (first
    | with_reducible refine wpAny_loadPart_at hC ?_
    | with_reducible refine wpAny_madeBy_exc hC ?_
    | wp_step)
  refine codeAny_call_builtin_code (Code.quiet_builtin _ F.quiet) (newChecked F hT hC ?_)
  refine newRuns F hT hC hl ?_
  show wpAny _ _ _ _ _ _
  have k : ∀ b o, h.get? b = some o → ((h.push (kdv_tup us)).push (excObj C h.objs.size none .none)).get? b = some o := fun b o e => Heap.get?_push_of_some _ (Heap.get?_push_of_some _ e)
  have c4 := k _ _ hC
  have c5 : ((h.push (kdv_tup us)).push (excObj C h.objs.size none .none)).get? (h.objs.size + 1) = some (excObj C h.objs.size none .none) := by heap_get
  have c6 : (Value.ref C :: bm).contains (.ref C) = true := by simp
  have i1 := hi.keeps k
  have b1 := (hb (.ref (h.objs.size + 1))).keeps k
  unfold isInstance
  repeat (first
    | with_reducible refine wpAny_loadPart_at c5 ?_
    | (with_reducible refine wpAny_isSubtype_exc c4 ?_; rw [c6])
    | wp_step)
  show wpAny _ _ (typeLookup (.ref C) _) _ _ _
  refine i1.at ?_
  refine wpAny_holding (wpAny_bind (b1.at ?_))
  refine wpAny_bind (wpAny_call (codeAny_mono z fun r s' y => ?_))
  rcases r with e | (v | _ | _ | _) <;> first | exact y | exact y.elim | skip
  obtain ⟨rfl, y⟩ := y
  first
    | exact wpAny_pure (wpAny_pure y)
    | (wp_walk; exact y)

theorem callMade (F : ExcBaseFacts B newId initId bmB) (hT : ∀ X : String, bm.contains (.type X) = bmB.contains (.type X)) {us : List Value} {kw : List (Str × Value)} {fI : Addr}
    (hC : h.get? C = some (excClassObj nm q C N bs bm hdct sn sub ab col dd k0 k1 k2 k3 k5 newId))
    (hi : Looks (model P w) h (typeLookup (.ref C) "__init__") (some (.ref fI))) (hb : ∀ self, Looks (model P w) h (bindSpecial (.ref fI) self) (.ref fI, [self])) (hl : us.length ≤ sizeLine)
    (z : codeAny (model P w) (A.under (.builtin "type.__call__" ⟨.ref C :: us, kw⟩)) (.call (.ref fI) ⟨.ref (h.objs.size + 1) :: us, kw⟩) (InitBack (h.objs.size + 1) R)
      ⟨(h.push (kdv_tup us)).push (excObj C h.objs.size none .none), g, d, t, os⟩) :
    codeAny (model P w) A (.call (.ref C) ⟨us, kw⟩) R ⟨h, g, d, t, os⟩ := by
  have f1 := tc_lookup
  have f2 := tc_bind (.ref C)
  have f3 : (⟨h, g, d, t, os⟩ : Shared).TypeIs (.ref C) "type" := ⟨_, hC, rfl⟩
  refine codeAny_of_tree ?_
  show wpAny _ _ (callAny (.ref C) _) _ _ _
  repeat (any_goals (first | assumption | with_reducible refine wpAny_loadPart_at hC ?_ | wp_step))
  refine ⟨rfl, ?_⟩
  refine codeAny_call_builtin_at (Code.quiet_builtin _ (by decide +kernel)) entry_typeCall (wpAny_check_type_call_sub hC (typeCall F hT hC hi hb hl ?_))
  refine codeAny_mono z fun r s' y => ?_
  rcases r with e | (v | _ | _ | _) <;> exact y
end
end XR
namespace XR
open PySem PySem.W PySem.Calls
open Builtin Builtin.ObjectAttr
section
variable {P : Program} {w : World} {M : Model} {A : Around} {E : Value → Shared → Prop} {R : Result → Shared → Prop} {h : Heap} {g : Array GenState} {d : Drawn} {t : Nat} {os : OsState}
variable {K : Frag} {C e t1 dx : Addr} {B : String} {bmB : List Value} {f : Str} {v : Value} {Q : Unit → Shared → Prop}

/-- the first field of an exception: its dict is made -/
theorem storeFirst (SF : StoreFacts B bmB "object.__setattr__" "object") (X : K.In h) (he : h.get? e = some (excObj C t1 none .none)) (sa : findIn K (.ref C) "__setattr__" = some (some (.builtin "object.__setattr__")))
    (ov : excOver K C bmB = true) (di : hasDictIn K C = true) (tk : takerIn K C f = some none)
    (z : ∀ h' tk' dx, (∀ b o, b ≠ e → h.get? b = some o → h'.get? b = some o) → h.objs.size ≤ dx → dx ≠ e → h'.get? e = some (excObj C t1 (some dx) .none) → h'.Ns1 dx (fun y => if y = f then some v else none) → Q () ⟨h', g, d, tk', os⟩) :
    wpAny (model P w) A (setAttr (.ref e) f v) Q E ⟨h, g, d, t, os⟩ := by
  have I : W.InstAt h e (excObj C t1 none .none) C none := ⟨he, rfl, rfl, trivial⟩
  refine set_plain X I sa ?_
  refine osa_openX (r := none) SF X I ov tk fun b => ?_
  obtain ⟨cd, hc, hd'⟩ := any_some di
  have hcls : Looks (model P w) h (classData C) cd := looks_clsIn X hc
  have hes : e ≠ h.objs.size := Nat.ne_of_lt (Heap.lt_size he)
  show wpAny _ _ (storeInOwnDict (.ref e) (.ref C) (.str f t) f v b) _ _ _
  obtain ⟨nm, bs, mro, ns, qn, hd, sn, sb, ab, col, del⟩ := cd
  dsimp only at hd'
  subst hd'
  unfold storeInOwnDict ownDictForStores
  repeat (first
    | with_reducible refine PySem.HandSPX.store_in_new ?_ ?_
    | with_reducible refine wpAny_loadPart_at he ?_
    | with_reducible refine hcls.at ?_
    | wp_step)
  · exact ⟨_, #[], _, (Heap.get?_update_ne _ _ _ _ hes.symm).trans (Heap.get?_push_at rfl rfl), rfl, fun e he => absurd he (by simp), fun _ => rfl⟩
  · intro h' tk' hn' hs
    have h1 : (h.push { cls := .type "dict", data := .dict #[] }).get? e = some (excObj C t1 none .none) := Heap.get?_push_of_some _ he
    refine z h' tk' h.objs.size (fun b o hb ho => ?_) (Nat.le_refl _) hes.symm ?_ hn'
    · exact (hs.2 b (Nat.ne_of_lt (Heap.lt_size ho))).trans ((Heap.get?_update_ne _ _ _ _ hb).trans (Heap.get?_push_of_some _ ho))
    · exact (hs.2 e hes).trans (Heap.get?_update_self _ h1 rfl)

/-- a further one -/
theorem storeNext {m0 : Str → Option Value} {ns : List Str} (SF : StoreFacts B bmB "object.__setattr__" "object") (X : K.In h) (he : h.get? e = some (excObj C t1 (some dx) .none)) (hn : h.Ns1 dx m0) (hw : Within m0 ns) (hz : ns.length ≤ 1000)
    (sa : findIn K (.ref C) "__setattr__" = some (some (.builtin "object.__setattr__"))) (ov : excOver K C bmB = true) (di : hasDictIn K C = true) (tk : takerIn K C f = some none)
    (z : ∀ h' tk', (∀ b o, b ≠ dx → h.get? b = some o → h'.get? b = some o) → h'.Ns1 dx (fun y => if y = f then some v else m0 y) → Q () ⟨h', g, d, tk', os⟩) :
    wpAny (model P w) A (setAttr (.ref e) f v) Q E ⟨h, g, d, t, os⟩ := by
  obtain ⟨oD, esD, epD, hoD, hdD, _⟩ := hn.count hw
  have I : W.InstAt h e (excObj C t1 (some dx) .none) C (some oD) := ⟨he, rfl, rfl, hoD⟩
  refine set_plain X I sa ?_
  refine osa_openX (r := none) SF X I ov tk fun b => ?_
  obtain ⟨cd, hc, hd'⟩ := any_some di
  have hcls : Looks (model P w) h (classData C) cd := looks_clsIn X hc
  show wpAny _ _ (storeInOwnDict (.ref e) (.ref C) (.str f t) f v b) _ _ _
  obtain ⟨nm, bs, mro, nsx, qn, hd, sn, sb, ab, col, del⟩ := cd
  dsimp only at hd'
  subst hd'
  unfold storeInOwnDict ownDictForStores
  repeat (first
    | with_reducible refine PySem.OEX.store_in_old hn hw hz ?_
    | with_reducible refine wpAny_loadPart_at he ?_
    | with_reducible refine hcls.at ?_
    | wp_step)
  intro h' tk' hn' hs
  exact z h' tk' (fun b o hb ho => (hs.2 b hb).trans ho) hn'
end
end XR
namespace XR
open PySem PySem.W PySem.Calls
/-- what the written part says of an exception class over the built-in B, and of its __init__ -/
structure XCls (K : Frag) (P : Program) (C fI cc cda : Addr) (B newId initId : String) (bmB : List Value) (fd : FuncData) : Prop where
  FB : ExcBaseFacts B newId initId bmB
  SF : StoreFacts B bmB "object.__setattr__" "object"
  KF : KxsFacts B initId
  ei : excInitIn K C bmB newId = true
  ov : excOver K C bmB = true
  di : hasDictIn K C = true
  sa : findIn K (.ref C) "__setattr__" = some (some (.builtin "object.__setattr__"))
  su : ks_superIn K C C "__init__" = some (some (.builtin initId))
  sb : subIn K (.ref C) (.type B) = some true
  me : mroIn K C (.ref C) = some true
  op : nsIn K cStatics "thirdparty.any" = some none
  ini : findIn K (.ref C) "__init__" = some (some (.ref fI))
  fn : isFn K (.ref fI) = true
  lk : ∃ oc od osl, K.lookup fI = some ⟨oc, od, .func fd, osl⟩
  cod : codeIn K (.ref cda) fd.qualname = true
  cdl : ∃ a b vs c file tf, K.lookup cda = some ⟨a, b, .fields vs, c⟩ ∧ vs[2]? = some (.str file tf) ∧ ((P.main.file : Str) == file) = true
  cel : ∃ a b c, K.lookup cc = some ⟨a, b, .cell (some (.ref C)), c⟩
  kp : keepIn K (.ref C) = true

/-- a store of a parameter -/
def stS (f p : Str) (a b c d : Pos) : Stmt := .Assign [.Attribute (.Name "self" a) f b] (.Name p c) d
def stSup (txt : Str) (k : Nat) (p0 p1 p2 p3 p4 p5 : Pos) : Stmt := .Expr (.Call (.Attribute (.Call (.Name "super" p0) [] [] p1) "__init__" p2) [.Constant (.str txt) k p3] [] p4) p5

section
variable {P : Program} {w : World} {A : Around} {h : Heap} {g : Array GenState} {d : Drawn} {t : Nat} {os : OsState}
variable {K : Frag} {C fI cc cda e t1 L : Addr} {B newId initId : String} {bmB : List Value} {fd : FuncData} {m mg mb : Str → Option Value} {qual : Str} {scope : Scope}

/-- super().__init__(text): the args are laid anew -/
theorem superRuns {body : List Stmt} {txt : Str} {k : Nat} {p0 p1 p2 p3 p4 p5 : Pos} {ar : Arg} {Q : Flow → Shared → Prop} {E : Value → Shared → Prop} (T : XCls K P C fI cc cda B newId initId bmB fd) (X : K.In h) (he : h.get? e = some (excObj C t1 none .none))
    (hn : h.Ns L m) (hv : m "self" = some (.ref e)) (hm : h.Ns mainGlobals mg) (hb : h.Ns builtinsNs mb) (m1 : mg "super" = none) (m2 : mb "super" = some (.type "super"))
    (hp : (fd.params.posonlyargs ++ fd.params.args).head? = some ar) (har : ar.arg = "self")
    (hks : scope.names.lookup ("super" : Str) = some .globalImplicit) (hkc : scope.names.lookup ("__class__" : Str) = some .free) (hka : scope.names.lookup ("self" : Str) = some .local) (hk : scope.kind = .function)
    (hev : ∃ pl, eval (.Call (.Attribute (.Call (.Name "super" p0) [] [] p1) "__init__" p2) [.Constant (.str txt) k p3] [] p4) (ksEnv qual scope L fI (.ref cda) cc) = (do
      let ov ← attributeBase (.Call (.Name "super" p0) [] [] p1) "__init__" (ksEnv qual scope L fI (.ref cda) cc) (eval (.Call (.Name "super" p0) [] [] p1) (ksEnv qual scope L fI (.ref cda) cc))
      standAt p2.atName
      let (f, first) ← holding [ov] (getMethod ov "__init__" pl)
      callWith p4 f first (backTo p4 (starEach [.Constant (.str txt) k p3] (ksEnv qual scope L fI (.ref cda) cc))) []))
    (htop : (P.main.scope.names.lookup ("super" : Str)).isSome = false) (heL : e ≠ L)
    (z : ∀ h' t2 tk, (∀ b o, b ≠ e → h.get? b = some o → h'.get? b = some o) → h'.get? e = some (excObj C t2 none .none) → Q .next ⟨h', g, d, tk, os⟩) :
    PySem.wpAt (model P w) A (.func body (ksEnv qual scope L fI (.ref cda) cc)) (exec (stSup txt k p0 p1 p2 p3 p4 p5) (ksEnv qual scope L fI (.ref cda) cc)) Q E ⟨h, g, d, t, os⟩ := by
  obtain ⟨kd, nms, ig, ic, mr⟩ := scope
  dsimp only at hk hks hkc hka hev
  obtain ⟨pl, hev⟩ := hev
  subst hk
  have hk : (⟨.function, nms, ig, ic, mr⟩ : Scope).kind = .function := rfl
  obtain ⟨oc, od, osl, lk⟩ := T.lk
  obtain ⟨a1, a2, vs, a3, file, tf, cdl, hvs, hfile⟩ := T.cdl
  obtain ⟨b1, b2, b3, cel⟩ := T.cel
  obtain ⟨nm, N', qn, bs, bm, hdct, sn, sub, ab, col, dd, k0, k1', k2, k3, k5, hC, hT⟩ := excInit_of X T.ei
  have I : W.InstAt h e (excObj C t1 none .none) C none := ⟨he, rfl, rfl, trivial⟩
  refine ks_wpAt_Expr_any ?_
  refine ks_wpAt_MethodCall (pl := pl) ?_ hev
  refine ks_wpAt_super_base (env := ksEnv qual ⟨.function, nms, ig, ic, mr⟩ L fI (.ref cda) cc) (attr := "__init__") hks hkc (by decide) rfl (X _ _ lk) rfl hp rfl (X _ _ cdl) rfl hvs hfile htop ?_
  have hD : ∃ oD cdD, h.get? C = some oD ∧ oD.data = .cls cdD := ⟨_, _, hC, rfl⟩
  obtain ⟨oD, cdD, hD1, hD2⟩ := hD
  refine ks_loadName_global hk hks (loadGlobal_builtin (env := ksEnv qual ⟨.function, nms, ig, ic, mr⟩ L fI (.ref cda) cc) hm m1 hb m2 ⟨rfl, ?_⟩)
  refine wpAny_loadName_free hk hkc rfl ⟨_, X _ _ cel, rfl⟩ ?_
  rw [har]
  refine wpAny_loadName_local hk hka hn hv ?_
  refine ks_wpAny_isType_cls hD1 hD2 ⟨rfl, ?_⟩
  refine ks_wpAny_call_super hD1 hD2 he rfl (fun c e => by cases e) (looks_mroIn X T.me) (fun h1 e1 k1 => ?_)
  have X1 : K.In h1 := X.keeps k1
  have he1 := k1 _ _ he
  obtain ⟨cdx, hcdx, hfx⟩ := Option.bind_eq_some_iff.mp (show (clsIn K C).bind (fun cd => alongIn K "__init__" ((cd.mro.dropWhile (· != .ref C)).drop 1)) = some (some (.builtin initId)) from T.su)
  have I1 : W.InstAt h1 e (excObj C t1 none .none) C none := ⟨he1, rfl, rfl, trivial⟩
  have hI : Looks (model P w) h1 (isInstance (.ref e) (.type B)) true := I1.type.andThen (looks_subIn X1 T.sb)
  refine kxs_getMethod T.KF e1 (looks_opaque X1 T.op) (l₀ := cdx.mro) ?_ rfl X1 hfx hI (ks_ne X1 I1 hcdx) (by decide) ?_
  · exact fun A Q E s k q => wpAny_bind ((looks_clsIn X1 hcdx) A _ E s k (wpAny_pure q))
  refine kxs_callWith (i := initId) (x := e) (by rfl) ?_
  have c1 : (h1.push (kxs_mw initId e)).get? h1.objs.size = some (kxs_mw initId e) := Heap.get?_push_at rfl rfl
  have c2 : ∀ b o, h1.get? b = some o → (h1.push (kxs_mw initId e)).get? b = some o := fun b o q => Heap.get?_push_of_some _ q
  refine evalArgs_plain (spliced_cons (Constant_str (k := k) (pos := p3) (spliced_nil ⟨c1, ?_⟩)))
  refine wpAny_call (codeAny_of_tree ?_)
  show wpAny _ A.in1 (callAny (.ref h1.objs.size) ⟨[.str txt _], []⟩) _ _ _
  simp only [callAny]
  refine wpAny_bind (wpAny_load c1 ?_)
  have c3 : (Value.type "method-wrapper" == Value.type "method" || Value.type "method-wrapper" == Value.type "builtin_function_or_method" || Value.type "method-wrapper" == Value.type "method-wrapper") = true := by decide
  simp only [kxs_mw, c3, if_true]
  refine KFB.if_so (by decide) ?_
  refine wpAny_bind (check_bound_init T.FB.toExcCallFacts (c2 _ _ (k1 _ _ hC)) (c2 _ _ he1) rfl ?_)
  refine wpAny_bind (wpAny_pure (wpAny_pure ?_))
  refine ⟨plainId_quiet T.FB.init.plain _, codeAny_builtin T.FB.initEntry ?_⟩
  refine exc_init_tree (cls := .ref C) (t0 := t1) (dv := none) (c2 := .none) (c3 := .none) (b4 := .bool false) (c2 _ _ he1) (by show 1 ≤ sizeLine; decide) fun h' k' e' t' => ?_
  exact z h' _ _ (fun b o hb q => k' b o hb (c2 b o (k1 b o q))) e'
end
end XR
namespace XR
open PySem PySem.W PySem.Calls
/-- a store of the body: the field, the parameter, its value -/
structure Sto where
  f : Str
  p : Str
  v : Value
  a : Pos
  b : Pos
  c : Pos
  d : Pos
def Sto.st (x : Sto) : Stmt := stS x.f x.p x.a x.b x.c x.d
/-- an exception at e with the fields fs, newest first; its dict stands at n0 or behind, and is not L -/
def Fl (n0 : Nat) (L e C : Addr) (fs : List (Str × Value)) (h : Heap) : Prop :=
  ∃ t1 : Addr, (fs = [] ∧ h.get? e = some (excObj C t1 none .none)) ∨
    ∃ dx : Addr, fs ≠ [] ∧ n0 ≤ dx ∧ dx ≠ e ∧ dx ≠ L ∧ h.get? e = some (excObj C t1 (some dx) .none) ∧ h.Ns1 dx (fun y => fs.lookup y)
theorem lookup_cons' (f y : Str) (v : Value) (fs : List (Str × Value)) : (if y = f then some v else fs.lookup y) = ((f, v) :: fs).lookup y := by
  by_cases q : y = f
  · subst q; simp [List.lookup]
  · have q' : (y == f) = false := by simpa using q
    rw [if_neg q]; simp [List.lookup, q']
theorem within_lookup : ∀ (fs : List (Str × Value)), Within (fun y => fs.lookup y) (fs.map (·.1))
  | [] => fun y hy => absurd rfl hy
  | (f, v) :: fs => fun y hy => by
    by_cases q : y = f
    · rw [q]; exact List.mem_cons_self ..
    · refine List.mem_cons_of_mem _ (within_lookup fs y ?_)
      have q' : (y == f) = false := by simpa using q
      simpa [List.lookup, q'] using hy
section
variable {P : Program} {w : World} {A : Around} {g : Array GenState} {d : Drawn} {os : OsState}
variable {K : Frag} {C fI cc cda e L : Addr} {n0 : Nat} {B newId initId : String} {bmB : List Value} {fd : FuncData} {m : Str → Option Value} {env : Env} {Q : Flow → Shared → Prop} {E : Value → Shared → Prop}

theorem storesRun (T : XCls K P C fI cc cda B newId initId bmB fd) (hK : ∀ b o, K.lookup b = some o → b < n0) (he0 : n0 ≤ e) (hL0 : n0 ≤ L) (heL : e ≠ L) (hl : env.locals = L) (hk : env.scope.kind = .function)
    (hself : env.kindOf "self" = some .local) (hv : m "self" = some (.ref e)) :
    ∀ (l : List Sto) (fs : List (Str × Value)) (h : Heap) (t : Nat), (∀ x ∈ l, m x.p = some x.v ∧ env.kindOf x.p = some .local ∧ (x.p == ("__debug__" : Str)) = false ∧ takerIn K C x.f = some none ∧ swapsWith (.Name x.p x.c) (some (.Attribute (.Name "self" x.a) x.f x.b)) x.d.line env = pure false) →
      fs.length + l.length ≤ 900 → K.In h → h.Ns L m → Fl n0 L e C fs h →
      (∀ h' tk, (∀ b o, b < n0 → h.get? b = some o → h'.get? b = some o) → Fl n0 L e C ((l.map fun x => (x.f, x.v)).reverse ++ fs) h' → Q .next ⟨h', g, d, tk, os⟩) →
      wpAny (model P w) A (execs (l.map Sto.st) env) Q E ⟨h, g, d, t, os⟩
  | [], fs, h, t, _, _, _, _, hF, z => wpAny_execs_nil (z h t (fun _ _ _ q => q) hF)
  | x :: l, fs, h, t, hx, hlen, X, hn, hF, z => by
    obtain ⟨x1, x2, x3, x4, x5⟩ := hx x (List.mem_cons_self ..)
    have hn' : h.Ns env.locals m := by rw [hl]; exact hn
    refine wpAny_execs_cons ?_
    show wpAny _ _ (exec (.Assign [.Attribute (.Name "self" x.a) x.f x.b] (.Name x.p x.c) x.d) env) _ _ _
    refine plainObj_wpAny_Assign_Attribute (wpAny_Name (wpAny_loadName_local hk x2 hn' x1 (wpAny_Name (wpAny_loadName_local hk hself hn' hv ?_) (by decide))) x3) x5
    have step : ∀ (h' : Heap) (tk : Nat), (∀ b o, (b < n0 ∨ b = L) → h.get? b = some o → h'.get? b = some o) → Fl n0 L e C ((x.f, x.v) :: fs) h' → wpAny (model P w) A (execs (l.map Sto.st) env) Q E ⟨h', g, d, tk, os⟩ := fun h' tk k hF' => by
      have X' : K.In h' := fun b o q => k b o (.inl (hK b o q)) (X b o q)
      have hn2 : h'.Ns L m := by
        obtain ⟨o, es, ep, ho, r⟩ := hn
        exact ⟨o, es, ep, k _ _ (.inr rfl) ho, r⟩
      refine storesRun T hK he0 hL0 heL hl hk hself hv l ((x.f, x.v) :: fs) h' tk (fun y hy => hx y (List.mem_cons_of_mem _ hy)) (by simp only [List.length_cons] at hlen ⊢; omega) X' hn2 hF' fun h2 tk2 k2 hF2 => ?_
      refine z h2 tk2 (fun b o hb q => k2 b o hb (k b o (.inl hb) q)) ?_
      simpa using hF2
    obtain ⟨t1, ⟨hf, he⟩ | ⟨dx, hf, hd0, hde, hdL, he, hns⟩⟩ := hF
    · subst hf
      refine storeFirst T.SF X he T.sa T.ov T.di x4 fun h' tk' dx k k0 kne hx' hn' => ?_
      refine step h' tk' (fun b o hb q => k b o ?_ q) ⟨t1, .inr ⟨dx, by simp, ?_, kne, ?_, hx', ?_⟩⟩
      · rcases hb with hb | hb
        · exact Nat.ne_of_lt (Nat.lt_of_lt_of_le hb he0)
        · rw [hb]; exact heL.symm
      · exact Nat.le_trans (Nat.le_trans he0 (Nat.le_of_lt (Heap.lt_size he))) k0
      · have : L < h.objs.size := by obtain ⟨o, _, _, ho, _⟩ := hn; exact Heap.lt_size ho
        exact (Nat.ne_of_lt (Nat.lt_of_lt_of_le this k0)).symm
      · have e1 : (fun y => if y = x.f then some x.v else none) = (fun y => [(x.f, x.v)].lookup y) := by funext y; exact lookup_cons' x.f y x.v []
        rw [e1] at hn'; exact hn'
    · refine storeNext T.SF X he hns (within_lookup fs) (by rw [List.length_map]; simp only [List.length_cons] at hlen; omega) T.sa T.ov T.di x4 fun h' tk' k hn' => ?_
      refine step h' tk' (fun b o hb q => k b o ?_ q) ⟨t1, .inr ⟨dx, by simp, hd0, hde, hdL, k _ _ hde.symm he, ?_⟩⟩
      · rcases hb with hb | hb
        · exact Nat.ne_of_lt (Nat.lt_of_lt_of_le hb hd0)
        · rw [hb]; exact hdL.symm
      · have e1 : (fun y => if y = x.f then some x.v else fs.lookup y) = (fun y => ((x.f, x.v) :: fs).lookup y) := by funext y; exact lookup_cons' x.f y x.v fs
        rw [e1] at hn'; exact hn'
end
end XR
namespace XR
open PySem PySem.W PySem.Calls
section
variable {P : Program} {w : World} {A : Around} {g : Array GenState} {d : Drawn} {t : Nat} {os : OsState} {hp h : Heap}
variable {K : Frag} {C fI cc cda e t1 : Addr} {n0 : Nat} {B newId initId : String} {bmB : List Value} {fd : FuncData} {mg mb : Str → Option Value} {R : Result → Shared → Prop} {Q : Value → Shared → Prop} {E : Value → Shared → Prop}

/-- how the text of an __init__ stands: super().__init__(txt), then the stores l -/
structure Shape (P : Program) (fd : FuncData) (fI cda cc : Addr) (txt : Str) (k : Nat) (p0 p1 p2 p3 p4 p5 : Pos) (l : List Sto) : Prop where
  eq : ∃ x qual params scope dV kV doc pm an ct, fd = ksFn x qual params (stSup txt k p0 p1 p2 p3 p4 p5 :: l.map Sto.st) scope dV kV doc pm an (.ref cda) ct cc ∧
    (∃ ar, (params.posonlyargs ++ params.args).head? = some ar ∧ ar.arg = "self") ∧ scope.names.lookup ("super" : Str) = some .globalImplicit ∧ scope.names.lookup ("__class__" : Str) = some .free ∧ scope.names.lookup ("self" : Str) = some .local ∧ scope.kind = .function ∧
    (∀ L : Addr, ∃ pl, eval (.Call (.Attribute (.Call (.Name "super" p0) [] [] p1) "__init__" p2) [.Constant (.str txt) k p3] [] p4) (ksEnv qual scope L fI (.ref cda) cc) = (do
      let ov ← attributeBase (.Call (.Name "super" p0) [] [] p1) "__init__" (ksEnv qual scope L fI (.ref cda) cc) (eval (.Call (.Name "super" p0) [] [] p1) (ksEnv qual scope L fI (.ref cda) cc))
      standAt p2.atName
      let (f, first) ← holding [ov] (getMethod ov "__init__" pl)
      callWith p4 f first (backTo p4 (starEach [.Constant (.str txt) k p3] (ksEnv qual scope L fI (.ref cda) cc))) [])) ∧
    (∀ x ∈ scope.names, x.2 ≠ .cell) ∧ scope.isCoroutine = false ∧ scope.isGenerator = false ∧
    (∀ L : Addr, ∀ x ∈ l, scope.names.lookup x.p = some .local ∧ (x.p == ("__debug__" : Str)) = false ∧ swapsWith (.Name x.p x.c) (some (.Attribute (.Name "self" x.a) x.f x.b)) x.d.line (ksEnv qual scope L fI (.ref cda) cc) = pure false)
  top : (P.main.scope.names.lookup ("super" : Str)).isSome = false

theorem initRuns {txt : Str} {k : Nat} {p0 p1 p2 p3 p4 p5 : Pos} {l : List Sto} {args : Args} {binds : List (Str × Value)} (T : XCls K P C fI cc cda B newId initId bmB fd) (S : Shape P fd fI cda cc txt k p0 p1 p2 p3 p4 p5 l)
    (hK : ∀ b o, K.lookup b = some o → b < n0) (he0 : n0 ≤ e) (hl : l.length ≤ 900)
    (X : K.In hp) (hm : hp.Ns mainGlobals mg) (hb : hp.Ns builtinsNs mb) (m1 : mg "super" = none) (m2 : mb "super" = some (.type "super")) (lim : hp.NoLimit) (room : A.depth < recursionLimit)
    (bt : BindsTo ⟨hp, g, d, t, os⟩ fd args binds) (hloc : ∀ x ∈ binds, fd.scope.names.lookup x.1 = some .local) (hself : binds.reverse.lookup ("self" : Str) = some (Value.ref e))
    (hx : ∀ x ∈ l, binds.reverse.lookup x.p = some x.v ∧ takerIn K C x.f = some none)
    (he : hp.get? e = some (excObj C t1 none .none))
    (z : ∀ h' tk, (∀ b o, b < n0 → hp.get? b = some o → h'.get? b = some o) → Fl n0 hp.objs.size e C (l.map fun x => (x.f, x.v)).reverse h' → R (.ok (.ret .none)) ⟨h', g, d, tk, os⟩) :
    codeAny (model P w) A (.call (.ref fI) args) R ⟨hp, g, d, t, os⟩ := by
  obtain ⟨x, qual, params, scope, dV, kV, doc, pm, an, ct, rfl, ⟨ar, hp1, har⟩, hks, hkc, hka, hk, hev, hcell, hco, hgen, hsw⟩ := S.eq
  obtain ⟨oc, od, osl, lk⟩ := T.lk
  have heL : e ≠ hp.objs.size := Nat.ne_of_lt (Heap.lt_size he)
  have hL0 : n0 ≤ hp.objs.size := Nat.le_trans he0 (Nat.le_of_lt (Heap.lt_size he))
  refine ks_codeAny_call_defAt (fd := ksFn x qual params (stSup txt k p0 p1 p2 p3 p4 p5 :: l.map Sto.st) scope dV kV doc pm an (.ref cda) ct cc) (body := stSup txt k p0 p1 p2 p3 p4 p5 :: l.map Sto.st) (binds := binds) room (X _ _ lk) rfl lim (codeRec_of X T.cod) rfl bt hcell hloc (fun h1 hns hk1 => ?_) hco hgen hk
  refine ks_wpAt_execs_cons ?_
  show PySem.wpAt (model P w) (A.deeper (ksEnv qual scope hp.objs.size fI (.ref cda) cc)) (.func (stSup txt k p0 p1 p2 p3 p4 p5 :: l.map Sto.st) (ksEnv qual scope hp.objs.size fI (.ref cda) cc)) (exec (stSup txt k p0 p1 p2 p3 p4 p5) (ksEnv qual scope hp.objs.size fI (.ref cda) cc)) _ _ _
  refine superRuns (t1 := t1) T (X.keeps hk1) (hk1 _ _ he) hns hself (hm.keeps hk1) (hb.keeps hk1) m1 m2 hp1 har hks hkc hka hk (hev _) S.top heL fun h2 t2 tk k2 he2 => ?_
  dsimp only
  refine wpAt_of_wpAny ?_
  have K2 : ∀ b o, b ≠ e → hp.get? b = some o → h2.get? b = some o := fun b o hb q => k2 b o hb (hk1 b o q)
  have X2 : K.In h2 := fun b o q => K2 b o (Nat.ne_of_lt (Nat.lt_of_lt_of_le (hK b o q) he0)) (X b o q)
  have hns2 : h2.Ns hp.objs.size (fun x => binds.reverse.lookup x) := by
    obtain ⟨o, es, ep, ho, r⟩ := hns
    exact ⟨o, es, ep, k2 _ _ heL.symm ho, r⟩
  refine storesRun (env := ksEnv qual scope hp.objs.size fI (.ref cda) cc) (m := fun x => binds.reverse.lookup x) T hK he0 hL0 heL rfl hk hka hself l [] h2 tk (fun y hy => ⟨(hx y hy).1, (hsw 0 y hy).1, (hsw 0 y hy).2.1, (hx y hy).2, (hsw _ y hy).2.2⟩) (by simpa using hl) X2 hns2 ⟨t2, .inl ⟨rfl, he2⟩⟩ fun h3 tk3 k3 F3 => ?_
  refine z h3 tk3 (fun b o hb q => k3 b o hb (K2 b o (Nat.ne_of_lt (Nat.lt_of_lt_of_le hb he0)) q)) ?_
  simpa using F3

/-- C(..): the exception stands with its fields -/
theorem made {txt : Str} {k : Nat} {p0 p1 p2 p3 p4 p5 : Pos} {l : List Sto} {us : List Value} {kw : List (Str × Value)} {binds : List (Str × Value)} (T : XCls K P C fI cc cda B newId initId bmB fd) (S : Shape P fd fI cda cc txt k p0 p1 p2 p3 p4 p5 l) (hl : l.length ≤ 900)
    (X : K.In h) (hm : h.Ns mainGlobals mg) (hb : h.Ns builtinsNs mb) (m1 : mg "super" = none) (m2 : mb "super" = some (.type "super")) (lim : h.NoLimit) (room : (A.under (.builtin "type.__call__" ⟨.ref C :: us, kw⟩)).depth < recursionLimit) (hus : us.length ≤ sizeLine)
    (bt : ∀ s, BindsTo s fd ⟨.ref (h.objs.size + 1) :: us, kw⟩ binds) (hloc : ∀ x ∈ binds, fd.scope.names.lookup x.1 = some .local) (hself : binds.reverse.lookup ("self" : Str) = some (Value.ref (h.objs.size + 1)))
    (hx : ∀ x ∈ l, binds.reverse.lookup x.p = some x.v ∧ takerIn K C x.f = some none)
    (z : ∀ h' tk L, (∀ b o, h.get? b = some o → h'.get? b = some o) → Fl h.objs.size L (h.objs.size + 1) C (l.map fun x => (x.f, x.v)).reverse h' → Q (.ref (h.objs.size + 1)) ⟨h', g, d, tk, os⟩) :
    wpAny (model P w) A (call (.ref C) us kw) Q E ⟨h, g, d, t, os⟩ := by
  obtain ⟨nm, N', qn, bs, bm, hdct, sn, sub, ab, col, dd, k0, k1, k2, k3, k5, hC, hT⟩ := excInit_of X T.ei
  obtain ⟨oI, hoI, hcI⟩ : ∃ oI, h.get? fI = some oI ∧ oI.cls = .type "function" := by
    obtain ⟨o, ho, hc⟩ := Option.map_eq_some_iff.mp (show (K.lookup fI).map (·.cls) = some (.type "function") from beq_iff_eq.mp T.fn)
    exact ⟨o, X _ _ ho, hc⟩
  have kk : ∀ b o, h.get? b = some o → ((h.push (kdv_tup us)).push (excObj C h.objs.size none .none)).get? b = some o := fun b o q => Heap.get?_push_of_some _ (Heap.get?_push_of_some _ q)
  have c5 : ((h.push (kdv_tup us)).push (excObj C h.objs.size none .none)).get? (h.objs.size + 1) = some (excObj C h.objs.size none .none) := by heap_get
  refine wpAny_call (callMade T.FB hT hC (looks_findIn X T.ini) (fun self => exc_bind hoI hcI self) hus ?_)
  refine initRuns T S (n0 := h.objs.size) (fun b o q => Heap.lt_size (X b o q)) (Nat.le_succ _) hl (X.keeps kk) (hm.keeps kk) (hb.keeps kk) m1 m2 (lim.keeps kk) room (bt _) hloc hself hx c5 fun h' tk k' F' => ?_
  refine ⟨rfl, ?_⟩
  exact z h' tk _ (fun b o q => k' b o (Heap.lt_size q) (kk b o q)) F'
end
end XR
/-! repr of data that stands in the abstract heap: none, bools, ints, texts, lists, tuples, dicts with int and text keys. -/
namespace XR
open PySem PySem.Spec L2
mutual
inductive Dq (K : PySem.W.Frag) (H : Hp) : V → PyData → Prop
  | non : Dq K H .non .none
  | bl (b : Bool) : Dq K H (.bl b) (.bool b)
  | int (i : Int) : Dq K H (.int i) (.int i)
  | str (x : Str) : Dq K H (.str x) (.str x)
  | lst {a : Addr} {xs : List V} {ds : List PyData} : SqL K H a xs → DqAll K H xs ds → Dq K H (.ref a) (.list ds)
  | tup {a : Addr} {xs : List V} {ds : List PyData} : SqT K H a xs → DqAll K H xs ds → Dq K H (.ref a) (.tuple ds)
  | dct {a : Addr} {kvs : List (Key × V)} {ds : List (PyData × PyData)} : H a = some (.dK kvs) → DqAll K H (kvs.map fun p => kV p.1) (ds.map (·.1)) → DqAll K H (kvs.map (·.2)) (ds.map (·.2)) → Dq K H (.ref a) (.dict ds)
inductive DqAll (K : PySem.W.Frag) (H : Hp) : List V → List PyData → Prop
  | nil : DqAll K H [] []
  | cons {v : V} {vs : List V} {d : PyData} {ds : List PyData} : Dq K H v d → DqAll K H vs ds → DqAll K H (v :: vs) (d :: ds)
end
theorem DqAll.length {K : PySem.W.Frag} {H : Hp} : ∀ {vs : List V} {ds : List PyData}, DqAll K H vs ds → vs.length = ds.length
  | _, _, .nil => rfl
  | _, _, .cons _ h => by simp [h.length]
theorem DqAll.append {K : PySem.W.Frag} {H : Hp} : ∀ {vs ws : List V} {ds es : List PyData}, DqAll K H vs ds → DqAll K H ws es → DqAll K H (vs ++ ws) (ds ++ es)
  | _, _, _, _, .nil, h => h
  | _, _, _, _, .cons a b, h => .cons a (b.append h)
theorem DqAll.rep {K : PySem.W.Frag} {H : Hp} {v : V} {d : PyData} (h : Dq K H v d) : ∀ n : Nat, DqAll K H (List.replicate n v) (List.replicate n d)
  | 0 => .nil
  | n + 1 => by
    rw [List.replicate_succ, List.replicate_succ]
    exact .cons h (DqAll.rep h n)
theorem Same.tup {K : PySem.W.Frag} {H H' : Hp} {a : Addr} {xs : List V} (e : Same H H') (h : SqT K H a xs) : SqT K H' a xs := by
  rcases h with (h | ⟨o, h⟩) | h
  · exact .inl (.inl (e _ _ h))
  · exact .inl (.inr ⟨o, e _ _ h⟩)
  · exact .inr h
mutual
theorem Dq.same {K : PySem.W.Frag} {H H' : Hp} (e : Same H H') : ∀ {v : V} {d : PyData}, Dq K H v d → Dq K H' v d
  | _, _, .non => .non
  | _, _, .bl b => .bl b
  | _, _, .int i => .int i
  | _, _, .str x => .str x
  | _, _, .lst h1 h2 => .lst (e.seq h1) (DqAll.same e h2)
  | _, _, .tup h1 h2 => .tup (Same.tup e h1) (DqAll.same e h2)
  | _, _, .dct h1 h2 h3 => .dct (e _ _ h1) (DqAll.same e h2) (DqAll.same e h3)
theorem DqAll.same {K : PySem.W.Frag} {H H' : Hp} (e : Same H H') : ∀ {vs : List V} {ds : List PyData}, DqAll K H vs ds → DqAll K H' vs ds
  | _, _, .nil => .nil
  | _, _, .cons a b => .cons (Dq.same e a) (DqAll.same e b)
end
/-- the entries of a dict: their keys and values -/
theorem pairs_keys {P : Program} {w : World} : ∀ {kvs : List (Key × V)} {vs : List (Key × Value)} {es : List DictEntry}, KV kvs vs → Pairs (mixKind P w) es vs →
    Vals (kvs.map fun p => kV p.1) (es.map (·.key)) ∧ Vals (kvs.map (·.2)) (es.map (·.val))
  | _, _, _, .nil, h => by
    cases h
    exact ⟨.nil, .nil⟩
  | _, _, _, .cons r t, h => by
    cases h with
    | cons h1 h2 h3 =>
      obtain ⟨a, b⟩ := pairs_keys t h3
      obtain ⟨r1, r2⟩ := r
      refine ⟨.cons ?_ a, .cons ?_ b⟩
      · dsimp only
        rw [r1]
        rcases keyIs_shape (show keyIs _ _ = true from h1) with ⟨i, t, q1, q2⟩ | ⟨x, t, q1, q2⟩
        · rw [q1, q2]; exact ⟨t, rfl⟩
        · rw [q1, q2]; exact ⟨t, rfl⟩
      · dsimp only
        rw [h2]; exact r2
section
variable {X : Cx} {pins : List (Addr × Obj)} {σ : St} {H : Hp} {s : Shared}
mutual
theorem Dq.both (I : Inv X pins σ H s) : ∀ {v : V} {d : PyData} {u : Value}, Dq X.K H v d → RelV v u → d.showable = true → d.shown.length ≤ sizeLine →
    ∃ as bs, Reads s.heap u d as ∧ ReadAtMost s.heap d.depth bs ∧ ReprK X.prog X.w bs s.heap d.depth u d.shown
  | _, _, _, .non, r, _, _ => by
    cases r
    exact ⟨_, [], .none, (fun _ h => nomatch h), by simp only [PyData.shown]; exact .of_is ReprIs.none _ _ _⟩
  | _, _, _, .bl b, r, _, _ => by
    cases r
    exact ⟨_, [], .bool b, (fun _ h => nomatch h), by simp only [PyData.shown]; exact .of_is (ReprIs.bool b) _ _ _⟩
  | _, _, _, .int i, r, hs, _ => by
    obtain ⟨t, rfl⟩ := r
    exact ⟨_, [], .int i t, (fun _ h => nomatch h), by simp only [PyData.shown]; exact .of_is (ReprIs.int t (by simpa [PyData.showable] using hs)) _ _ _⟩
  | _, _, _, .str x, r, _, hz => by
    obtain ⟨t, rfl⟩ := r
    exact ⟨_, [], .str x t, (fun _ h => nomatch h), by simp only [PyData.shown]; exact .of_is (ReprIs.str x t (by simpa only [PyData.shown] using hz)) _ _ _⟩
  | _, _, _, .lst (a := a) (ds := ds) h1 h2, r, hs, hz => by
    cases r
    have hz' : (listText (PyData.shownAll ds)).length ≤ sizeLine := by simpa only [PyData.shown] using hz
    obtain ⟨its, rv, ⟨o, n, ho, hc, _, hd⟩, _⟩ := I.list h1
    obtain ⟨as, bs, q1, q2, q3⟩ := DqAll.both I h2 rv (by simpa [PyData.showable] using hs) (fun t ht => Nat.le_trans (listText_mem_le ht) hz')
    have rr : Reads s.heap (.ref a) (.list ds) _ := .list ho hc hd q1
    have hna : a ∉ bs := not_mem_of_deeper rr (by simp only [PyData.depth]; omega) q2
    refine ⟨_, a :: bs, rr, ReadAtMost.cons rr (by simp only [PyData.depth]; omega) q2, ?_⟩
    simp only [PyData.depth, PyData.shown]
    cases its with
    | nil =>
      cases q1
      simp only [PyData.shownAll, listText_nil]
      exact ReprK.listEmpty ho hc hd
    | cons y l => exact ReprK.list ho hc hd hna (by simpa using q3.length_eq) (fun i y e => q3.item i y (by simpa using e))
  | _, _, _, .tup (a := a) (ds := ds) h1 h2, r, hs, hz => by
    cases r
    have hz' : (tupleText (PyData.shownAll ds)).length ≤ sizeLine := by simpa only [PyData.shown] using hz
    obtain ⟨its, rv, ⟨o, ho, hc, n, hd⟩, _⟩ := I.tuple h1
    obtain ⟨as, bs, q1, q2, q3⟩ := DqAll.both I h2 rv (by simpa [PyData.showable] using hs) (fun t ht => Nat.le_trans (tupleText_mem_le ht) hz')
    have rr : Reads s.heap (.ref a) (.tuple ds) _ := .tuple ho hc hd q1
    have hna : a ∉ bs := not_mem_of_deeper rr (by simp only [PyData.depth]; omega) q2
    refine ⟨_, a :: bs, rr, ReadAtMost.cons rr (by simp only [PyData.depth]; omega) q2, ?_⟩
    simp only [PyData.depth, PyData.shown]
    exact ReprK.tuple ho hc hd hna q3
  | _, _, _, .dct (a := a) (kvs := kvs) (ds := ds) h1 h2 h3, r, hs, hz => by
    cases r
    have hz' : (dictText (PyData.shownKv ds)).length ≤ sizeLine := by simpa only [PyData.shown] using hz
    obtain ⟨hl, hsys, vs, rk, o, es, ep, ho, ⟨hc, _⟩, hd, _, hp, _⟩ := (show ObjOk X.prog X.w H s.heap a (.dK kvs) from I.hok a _ h1)
    obtain ⟨r1, r2⟩ := pairs_keys rk hp
    obtain ⟨s1, s2⟩ := PyData.showableKv_split ds (by simpa [PyData.showable] using hs)
    obtain ⟨a1, b1, q1, q2, q3⟩ := DqAll.both I h2 r1 s1 (fun t ht => let ⟨p, hp, hl⟩ := PyData.shownKv_key_le ds t ht; Nat.le_trans hl (Nat.le_trans (dictText_mem_le hp) hz'))
    obtain ⟨a2, b2, t1, t2, t3⟩ := DqAll.both I h3 r2 s2 (fun t ht => let ⟨p, hp, hl⟩ := PyData.shownKv_val_le ds t ht; Nat.le_trans hl (Nat.le_trans (dictText_mem_le hp) hz'))
    have rr : Reads s.heap (.ref a) (.dict ds) _ := .dict ho hc hd q1 t1
    have hb : ReadAtMost s.heap (PyData.depthKv ds) (b1 ++ b2) := (q2.mono (PyData.depthAll_keys_le ds)).append (t2.mono (PyData.depthAll_vals_le ds))
    have hna : a ∉ b1 ++ b2 := not_mem_of_deeper rr (by simp only [PyData.depth]; omega) hb
    refine ⟨_, a :: (b1 ++ b2), rr, ReadAtMost.cons rr (by simp only [PyData.depth]; omega) hb, ?_⟩
    simp only [PyData.depth, PyData.shown, PyData.shownKv_eq]
    exact ReprK.dict ho hc hd hsys hna (ReprEntriesK.of_two es.toList _ _
      (q3.more_le (fun b hb => List.mem_append_left _ hb) (PyData.depthAll_keys_le ds)) (t3.more_le (fun b hb => List.mem_append_right _ hb) (PyData.depthAll_vals_le ds)))
theorem DqAll.both (I : Inv X pins σ H s) : ∀ {vs : List V} {ds : List PyData} {us : List Value}, DqAll X.K H vs ds → Vals vs us → PyData.showableAll ds = true → (∀ t ∈ PyData.shownAll ds, t.length ≤ sizeLine) →
    ∃ as bs, ReadsAll s.heap us ds as ∧ ReadAtMost s.heap (PyData.depthAll ds) bs ∧ ReprAllK X.prog X.w bs s.heap (PyData.depthAll ds) us (PyData.shownAll ds)
  | _, _, _, .nil, r, _, _ => by
    cases r
    exact ⟨_, [], .nil, (fun _ h => nomatch h), .nil⟩
  | _, _, _, .cons (d := d) (ds := ds) h1 h2, r, hs, hz => by
    cases r with
    | cons r1 r2 =>
      have hs' : d.showable = true ∧ PyData.showableAll ds = true := by simpa [PyData.showableAll] using hs
      obtain ⟨a1, b1, q1, q2, q3⟩ := Dq.both I h1 r1 hs'.1 (hz _ (by simp only [PyData.shownAll]; exact List.mem_cons_self ..))
      obtain ⟨a2, b2, t1, t2, t3⟩ := DqAll.both I h2 r2 hs'.2 (fun t ht => hz t (by simp only [PyData.shownAll]; exact List.mem_cons_of_mem _ ht))
      refine ⟨_, b1 ++ b2, .cons q1 t1, ?_, ?_⟩
      · simp only [PyData.depthAll]
        exact (q2.mono (Nat.le_max_left _ _)).append (t2.mono (Nat.le_max_right _ _))
      · simp only [PyData.depthAll, PyData.shownAll]
        exact .cons ((q3.more fun b hb => List.mem_append_left _ hb).level_le (Nat.le_max_left _ _)) (t3.more_le (fun b hb => List.mem_append_right _ hb) (Nat.le_max_right _ _))
end
end
section
variable {X : Cx}
def rRepr (K : PySem.W.Frag) : List V → Hp → VK → Prop := fun xs H Q => ∃ x d, xs = [x] ∧ Dq K H x d ∧ d.showable = true ∧ d.shown.length ≤ sizeLine ∧ d.depth ≤ 60 ∧ Q (.str d.shown) H
/-- repr(x), x data; no repr is under way around -/
theorem call_reprQ (hg : X.A.guards = some []) (hu : X.A.units + 64 < cLine) : CallR X (.builtin "repr") (rRepr X.K) := by
  intro pins s σ H xs us Q I r h
  obtain ⟨x, d, rfl, hd, hs, hz, hdp, q⟩ := h
  obtain ⟨u, rfl, ru⟩ := vals1 r
  have fin : ∀ (h' : Heap) (t tk : Nat), (∀ b o, s.heap.get? b = some o → h'.get? b = some o) → EP X pins σ Q (.str d.shown t) { s with heap := h', toks := tk } := fun h' t tk k => ⟨.str d.shown, H, I.kept k, ⟨t, rfl⟩, q⟩
  cases hd with
  | non =>
    cases ru
    refine PySem.P.repr_of_none ?_
    have e := fin s.heap s.toks (s.toks + 1) fun _ _ q => q
    simpa only [PyData.shown] using e
  | bl b =>
    cases ru
    refine PySem.P.repr_of_bool ?_
    have e := fin s.heap s.toks (s.toks + 1) fun _ _ q => q
    simpa only [PyData.shown] using e
  | int i =>
    obtain ⟨t, rfl⟩ := ru
    refine PySem.P.repr_of_int (by simpa [PyData.showable] using hs) ?_
    have e := fin s.heap s.toks (s.toks + 1) fun _ _ q => q
    simpa only [PyData.shown] using e
  | str y =>
    obtain ⟨t, rfl⟩ := ru
    refine PySem.P.repr_of_str ?_ (by simpa only [PyData.shown] using hz)
    have e := fin s.heap s.toks (s.toks + 1) fun _ _ q => q
    simpa only [PyData.shown] using e
  | @lst a xs ds h1 h2 =>
    cases ru
    have hz' : (listText (PyData.shownAll ds)).length ≤ sizeLine := by simpa only [PyData.shown] using hz
    obtain ⟨its, rv, ⟨o, n, ho, hc, _, hd'⟩, _⟩ := I.list h1
    obtain ⟨as, bs, q1, q2, q3⟩ := DqAll.both I h2 rv (by simpa [PyData.showable] using hs) (fun t ht => Nat.le_trans (listText_mem_le ht) hz')
    have hna : a ∉ bs := not_mem_of_deeper (.list ho hc hd' q1) (by simp only [PyData.depth]; omega) q2
    simp only [PyData.depth] at hdp
    simp only [PyData.shown] at fin
    refine call_repr_slot (by omega) ⟨o, ho, hc⟩ F.slot_list_repr.toG ?_
    cases its with
    | nil =>
      cases q1
      simp only [PyData.shownAll, listText_nil] at fin
      exact call_list_repr_empty ⟨o, ho, hc⟩ ho hd' ⟨_, _, rfl, fin s.heap _ _ fun _ _ q => q⟩
    | cons y l =>
      exact call_list_reprK ho hc hd' hna (by simpa using q3.length_eq) (fun i y e => q3.item i y (by simpa using e)) (show X.A.in1.guards = some [] from hg) (fun b _ => Clear.nil b) (by show X.A.units + 1 + _ < cLine; omega) (fun _ _ q => q) (fun h' u tk k => ⟨_, _, rfl, fin h' u tk k⟩) hz'
  | @tup a xs ds h1 h2 =>
    cases ru
    have hz' : (tupleText (PyData.shownAll ds)).length ≤ sizeLine := by simpa only [PyData.shown] using hz
    obtain ⟨its, rv, ⟨o, ho, hc, n, hd'⟩, _⟩ := I.tuple h1
    obtain ⟨as, bs, q1, q2, q3⟩ := DqAll.both I h2 rv (by simpa [PyData.showable] using hs) (fun t ht => Nat.le_trans (tupleText_mem_le ht) hz')
    have hna : a ∉ bs := not_mem_of_deeper (.tuple ho hc hd' q1) (by simp only [PyData.depth]; omega) q2
    simp only [PyData.depth] at hdp
    simp only [PyData.shown] at fin
    refine call_repr_slot (by omega) ⟨o, ho, hc⟩ F.slot_tuple_repr ?_
    exact call_tuple_reprK ho hc hd' hna q3 (show X.A.in1.guards = some [] from hg) (fun b _ => Clear.nil b) (by show X.A.units + 1 + _ < cLine; omega) (fun _ _ q => q) (fun h' u tk k => ⟨_, _, rfl, fin h' u tk k⟩) hz'
  | @dct a kvs ds h1 h2 h3 =>
    cases ru
    have hz' : (dictText (PyData.shownKv ds)).length ≤ sizeLine := by simpa only [PyData.shown] using hz
    obtain ⟨hl, hsys, vs, rk, o, es, ep, ho, ⟨hc, _⟩, hd', _, hp, _⟩ := (show ObjOk X.prog X.w H s.heap a (.dK kvs) from I.hok a _ h1)
    obtain ⟨r1, r2⟩ := pairs_keys rk hp
    obtain ⟨s1, s2⟩ := PyData.showableKv_split ds (by simpa [PyData.showable] using hs)
    obtain ⟨a1, b1, q1, q2, q3⟩ := DqAll.both I h2 r1 s1 (fun t ht => let ⟨p, hp, hl⟩ := PyData.shownKv_key_le ds t ht; Nat.le_trans hl (Nat.le_trans (dictText_mem_le hp) hz'))
    obtain ⟨a2, b2, t1, t2, t3⟩ := DqAll.both I h3 r2 s2 (fun t ht => let ⟨p, hp, hl⟩ := PyData.shownKv_val_le ds t ht; Nat.le_trans hl (Nat.le_trans (dictText_mem_le hp) hz'))
    have hb : ReadAtMost s.heap (PyData.depthKv ds) (b1 ++ b2) := (q2.mono (PyData.depthAll_keys_le ds)).append (t2.mono (PyData.depthAll_vals_le ds))
    have hna : a ∉ b1 ++ b2 := not_mem_of_deeper (.dict ho hc hd' q1 t1) (by simp only [PyData.depth]; omega) hb
    simp only [PyData.depth] at hdp
    simp only [PyData.shown, PyData.shownKv_eq] at fin
    refine call_repr_slot (by omega) ⟨o, ho, hc⟩ F.slot_dict_repr ?_
    exact call_dict_reprK ho hc hd' hsys hna (ReprEntriesK.of_two es.toList _ _
      (q3.more_le (fun b hb => List.mem_append_left _ hb) (PyData.depthAll_keys_le ds)) (t3.more_le (fun b hb => List.mem_append_right _ hb) (PyData.depthAll_vals_le ds)))
      (show X.A.in1.guards = some [] from hg) (fun b _ => Clear.nil b) (by show X.A.units + 1 + _ < cLine; omega) (fun _ _ q => q) (fun h' u tk k => ⟨_, _, rfl, fin h' u tk k⟩) (by rw [← PyData.shownKv_eq]; exact hz')
end
end XR
/-! Defs that ask for a repr: their promise where no repr is under way around the call. -/
namespace XR
open PySem PySem.Spec L2
open PyProof.Rows hiding St
structure FnG (P : Program) (w : World) (K : PySem.W.Frag) (mg : Str → Option Value) (base : Heap) (k : Nat) (f : Addr) (fd : FuncData) (ps : List Str) (sp : Sp) : Prop where
  len : ∀ vs H Q E, sp vs H Q E → vs.length = ps.length
  run : ∀ (A : Around) (outer : List Env) (s : Shared) (H : Hp) (args : Args) (us : List Value) (vs : List V) (Q : VK) (E : XK), A.guards = some [] → Room k A → Env0 P w K mg base A outer s H → BindsTo s fd args (ps.zip us) → Vals vs us → sp vs H Q E →
    codeAny (model P w) A (.call (.ref f) args) (CR CX0 outer P w H s Q E) s
section
variable {P : Program} {w : World} {K : PySem.W.Frag} {mg : Str → Option Value} {base : Heap}
theorem FnG.of {k : Nat} {f : Addr} {fd : FuncData} {ps : List Str} {sp : Sp} (F : FnOk P w K mg base CX0 k f fd ps sp) : FnG P w K mg base k f fd ps sp :=
  ⟨F.len, fun A outer s H args us vs Q E _ hr he hb hv hs => F.run A outer s H args us vs Q E hr he hb hv hs⟩
/-- a def by its body; in the body the guards are none -/
theorem okG {x qual : Str} {st : Stmt} {f : Addr} {fd : FuncData} {N ps : List Str} {k : Nat} {sp : Sp} (F : Fun K x qual st f fd) (S : FnScope N ps (defScope st)) (len : ∀ vs H Q E, sp vs H Q E → vs.length = ps.length)
    (hbody : ∀ (cdv : Value) (A : Around) (outer : List Env) (s : Shared) (H : Hp) (vs : List V) (Q : VK) (E : XK), Room k (A.deeper (envOfC qual (defScope st) s.heap.objs.size f cdv)) → A.guards = some [] → sp vs H Q E →
      ∃ t, PSs (cxOf CX0 P w K mg base N qual (defScope st) f cdv A outer s H E).nox (defBody st) t ∧ t { nx := fun _ H' => Q .non H', rt := Q } (start N vs) H) : FnG P w K mg base (k + 1) f fd ps sp := by
  obtain ⟨oc, od, kV, doc, pm, an, cdv, ct, osl, rfl, lk, hcd⟩ := F.ex
  refine ⟨len, fun A outer s H args us vs Q E hg hr e0 hb r hsp => ?_⟩
  have hl := len _ _ _ _ hsp
  have k0 : ∀ b o, base.get? b = some o → s.heap.get? b = some o := fun b o e => (e0.bs b o e).1
  have KX : K.In s.heap := e0.mod.kin.keeps k0
  have par : ∀ y ∈ ps.zip us, (defScope st).names.lookup y.1 = some .local ∨ ((defScope st).names.lookup y.1 = some .cell ∧ ((cellsFrom (s.heap.objs.size + 1) (defScope st).names []).lookup y.1).isSome = true) := by
    rintro ⟨n, v⟩ hy
    rcases S.par n (List.of_mem_zip hy).1 with q | q
    · exact .inl q
    · exact .inr ⟨q, PySem.W.cellsFrom_some _ _ _ (.inl q)⟩
  refine codeAny_call_function hr.depth (KX _ _ lk) rfl S.co S.gen rfl
    (PySem.W.codeRec_of KX hcd) (hb _ _ _ _ ?_)
  refine wpAny_newFunctionEnv_cells S.kind par fun env he s1 xx => ?_
  subst he
  refine ⟨(e0.mod.nolimit.keeps k0).keeps xx.toInCall.keep, codeAny_func ?_⟩
  obtain ⟨t, ht, hq⟩ := hbody cdv A outer s H vs Q E (hr.deeper _) hg hsp
  have I : Inv (cxOf CX0 P w K mg base N qual (defScope st) f cdv A outer s H E) [] (start N vs) H s1 :=
    inv_start S hr.hd e0 hl r xx
  have tb := ht.nox
  refine wpAny_mono (tb.run [] s1 (start N vs) H _ I hq) (fun fl s' hs => ?_) fun e s' hs => hs
  cases fl with
  | ret u =>
    obtain ⟨v, σ', H', J, rv, q⟩ := hs
    exact ⟨v, H', J.os, J.bare, J.base, J.hok, rv, q⟩
  | next =>
    obtain ⟨σ', H', J, q⟩ := hs
    exact ⟨V.non, H', J.os, J.bare, J.base, J.hok, rfl, q⟩
  | brk =>
    obtain ⟨_, _, _, q⟩ := hs
    exact q.elim
  | cont =>
    obtain ⟨_, _, _, q⟩ := hs
    exact q.elim
end
section
variable {X : Cx} {k : Nat} {f : Addr} {fd : FuncData} {ps : List Str} {sp : Sp} {E : XK} {x : Str} {p pos : Pos} {e : Expr} {es : List Expr} {t : TA}
/-- the call of such a def -/
theorem pe_callG (F : FnG X.prog X.w X.K X.mg X.base k f fd ps sp) (hg : X.A.guards = some []) (hr : Room k X.A) (hgl : Gl X x) (hm : X.mg x = some (.ref f)) (hk : PySem.W.keepIn X.K (.ref f) = true) (hb : Binds X.K fd ps []) (ha : PA X (e :: es) t)
    (hdb : (x == ("__debug__" : Str)) = false := by decide) (he : starEach (e :: es) X.env = (false, eval e X.env) :: starEach es X.env := by rfl) (hpl : (backTo pos (starEach es X.env)).any (·.1) = false := by rfl) :
    PE X (.Call (.Name x p) (e :: es) [] pos) (tCall sp [] E0 t) := by
  refine ⟨fun pins s σ H Q I h => ?_⟩
  refine wpAny_Call_Name_kw (ld_glob I hgl hm ?_ hdb)
  refine PySem.W.callWith_K (h₀ := X.base) I.ok.mod.kin hk (thn (ha.run pos pins s σ H _ I h) fun us s1 ⟨vs, H1, I1, r, q⟩ => ⟨I1.kIn, ?_⟩) he hpl
  have q : sp vs H1 Q E0 := by simpa using q
  have hl : (us ++ []).length = ps.length := by rw [List.append_nil, ← r.length]; exact F.len _ _ _ _ q
  have hbt := hb s1 us I1.kIn hl
  rw [List.append_nil] at hbt
  refine wpAny_call (codeAny_mono (F.run X.A X.stack s1 H1 ⟨us, []⟩ us vs Q E0 hg hr I1.env0 hbt r q) fun r' s' hq => ?_)
  cases r' with
  | error e => exact False.elim hq
  | ok fl =>
    cases fl with
    | ret u => exact I1.after hq
    | next => exact False.elim hq
    | brk => exact False.elim hq
    | cont => exact False.elim hq
end
/-- the call of the law over the heap behind the top -/
theorem lawCallG {P : Program} {w : World} {K : PySem.W.Frag} {mg mb : Str → Option Value} {k : Nat} {fa a : Addr} {fd : FuncData} {x : Str} {sp : Sp} {s₁ : Shared} {vs : List Value} {ns : List Int}
    (KX : K.In s₁.heap) (h1 : s₁.heap.Ns mainGlobals mg) (h2 : s₁.heap.Ns builtinsNs mb) (h3 : ∀ x : Str, x ≠ "__name__" → mb x = bootBuiltins x) (h4 : s₁.heap.NoLimit) (h5 : s₁.gens = #[])
    (ha : s₁.heap.get? a = some { cls := .type "list", data := .seq vs.toArray }) (hi : IntsAre vs ns) (hl : ns.length ≤ sizeLine) (hr : Room k callerA)
    (F : ∀ base : Heap, K.In base → base.Ns mainGlobals mg → FnG P w K mg base k fa fd [x] sp) (hbind : ∀ (s : Shared) (u : Value), BindsTo s fd ⟨[u], []⟩ [(x, u)])
    (hsp : ∀ H : Hp, Only H → SqL K H a (ns.map V.int) → sp [.ref a] H (fun v _ => v = .bl true) fun _ _ _ => False) :
    codeAny (model P w) callerA (.call (.ref fa) ⟨[.ref a], []⟩) (fun r s' => r = .ok (.ret (.bool true)) ∧ OldK s₁.heap s'.heap ∧ s'.os = s₁.os ∧ AllBare s'.gens) s₁ := by
  have rv := vals_ints hi
  have lenV := hi.length
  have main : ∀ H : Hp, Only H → SqL K H a (ns.map V.int) → HOk P w H s₁.heap → (∀ b, H b ≠ none → b = a ∧ K.lookup a = none) →
      codeAny (model P w) callerA (.call (.ref fa) ⟨[.ref a], []⟩) (fun r s' => r = .ok (.ret (.bool true)) ∧ OldK s₁.heap s'.heap ∧ s'.os = s₁.os ∧ AllBare s'.gens) s₁ := by
    intro H hO hS hok hA
    have free : ∀ {b : Addr}, b ≠ a → H b = none := fun {b} hb => by
      cases q : H b with
      | none => rfl
      | some u => exact absurd (hA b (by rw [q]; exact Option.some_ne_none u)).1 hb
    have ns' : ∀ {b : Addr} {m : Str → Option Value}, s₁.heap.Ns b m → (hidT s₁.heap H).Ns b m := by
      rintro b m ⟨o, es, ep, e, d, r⟩
      have hb : b ≠ a := by
        rintro rfl
        rw [ha] at e
        cases e
        cases d
      exact ⟨o, es, ep, hidT_get e (free hb), d, r⟩
    have kb : K.In (hidT s₁.heap H) := fun b o e => by
      refine hidT_get (KX b o e) ?_
      cases q : H b with
      | none => rfl
      | some u =>
        obtain ⟨e1, e2⟩ := hA b (by rw [q]; exact Option.some_ne_none u)
        rw [e1, e2] at e
        cases e
    obtain ⟨mc, l1, l2⟩ := h4
    have M : Mod K mg (hidT s₁.heap H) := ⟨kb, ns' h1, ⟨mb, ns' h2, h3⟩, ⟨mc, ns' l1, l2⟩⟩
    have e0 : Env0 P w K mg (hidT s₁.heap H) callerA [] s₁ H :=
      ⟨rfl, M, fun b o e => of_hidT e, Nat.le_of_eq (hidT_size _ _), trivial, fun b hb => (List.not_mem_nil (a := b) hb).elim, hok, .of_eq h5⟩
    have run := (F _ kb (ns' h1)).run callerA [] s₁ H ⟨[.ref a], []⟩ [.ref a] [.ref a] _ _ rfl hr e0 (hbind s₁ (.ref a)) (.cons rfl .nil) (hsp H hO hS)
    refine codeAny_mono run fun r s' h => ?_
    cases r with
    | error e => exact False.elim h
    | ok fl =>
      cases fl with
      | next => exact False.elim h
      | brk => exact False.elim h
      | cont => exact False.elim h
      | ret u =>
        obtain ⟨v, H', os, bare, un, hok', r', q⟩ := h
        obtain rfl : v = V.bl true := q
        obtain rfl : u = Value.bool true := r'
        refine ⟨rfl, OldK.of_keep fun b o e => ?_, os, bare⟩
        rcases hO b with z | ⟨ob, xs, z⟩
        · exact un.keep b o e z (List.not_mem_nil (a := b)) (List.not_mem_nil (a := b))
        · obtain ⟨e1, _⟩ := hok b _ z
          obtain ⟨e2, _⟩ := hok' b _ (un.frzs b ob _ z)
          rw [e] at e1
          cases e1
          exact e2
  cases hk : K.lookup a with
  | some o =>
    have e := KX a o hk
    rw [ha] at e
    cases e
    exact main (fun _ => none) (fun _ => .inl rfl) (.inr ⟨_, vs.toArray, _, hk, rfl, rfl, rfl, by rw [List.size_toArray, lenV]; exact hl, by simpa using rv⟩) (fun b u z => nomatch z) fun b z => absurd rfl z
  | none =>
    have hT : ∀ {b : Addr} {u : HO}, (if b = a then some (HO.frz { cls := .type "list", data := .seq vs.toArray } (.lst (ns.map V.int))) else none) = some u → b = a ∧ u = .frz { cls := .type "list", data := .seq vs.toArray } (.lst (ns.map V.int)) := fun {b u} z => by
      by_cases hb : b = a
      · rw [if_pos hb] at z
        exact ⟨hb, (Option.some.inj z).symm⟩
      · rw [if_neg hb] at z
        cases z
    refine main (fun b => if b = a then some (.frz { cls := .type "list", data := .seq vs.toArray } (.lst (ns.map V.int))) else none) (fun b => ?_) (.inl (.inr ⟨_, if_pos rfl⟩)) (fun b u z => ?_) fun b z => ?_
    · by_cases hb : b = a
      · exact .inr ⟨_, _, if_pos hb⟩
      · exact .inl (if_neg hb)
    · obtain ⟨rfl, rfl⟩ := hT z
      exact ⟨ha, by rw [List.length_map]; exact hl, vs, _, rv, ha⟩
    · obtain ⟨u, hu⟩ := Option.ne_none_iff_exists'.mp z
      exact ⟨(hT hu).1, hk⟩
/-- the law's end, for such a promise -/
theorem walkG {l : PySem.W.OpenLaw} {n k : Nat} {q : Program} {loose : List Str} {XP : (Str → Option Value) → Heap → Prop} {YP : World → Heap → Prop} {d : DefRec} {K : Params → PySem.W.Frag} {sp : World → Sp} {x : Str}
    (hn : l.most = some n) (hn2 : n ≤ sizeLine) (hdf : d.params.defaults = []) (hr : Room k callerA) (hY : ∀ (w : World) (h : Heap), YP w h → (K w.params).In h)
    (F : ∀ (w : World) (mg : Str → Option Value) (fa : Addr) (h : Heap), (K w.params).In h → h.Ns mainGlobals mg → mg d.name = some (.ref fa) →
      ∃ fd : FuncData, (∀ (s : Shared) (u : Value), BindsTo s fd ⟨[u], []⟩ [(x, u)]) ∧ ∀ base : Heap, (K w.params).In base → base.Ns mainGlobals mg → FnG l.prog w (K w.params) mg base k fa fd [x] (sp w))
    (hsp : ∀ (w : World) (H : Hp) (a : Addr) (ns : List Int), ns.length ≤ n → Only H → SqL (K w.params) H a (ns.map V.int) → sp w [.ref a] H (fun v _ => v = .bl true) fun _ _ _ => False) :
    PySem.W.WalkO q loose XP YP l.row.toRowW d [] (fun f vs => PySem.call f vs) := by
  refine Att.attach_call hn hdf fun w s₀ s₁ mg mb fa o pm cd doc a vs ns G Y ho hd hcd hmg hobj hints hlen hg => ?_
  obtain ⟨fd, hb, hF⟩ := F w mg fa _ (hY w _ Y) G.T.g hmg
  exact lawCallG (hY w _ Y) G.T.g G.T.b G.T.builtins G.T.nolimit hg hobj hints (Nat.le_trans hlen hn2) hr hF hb fun H hO hS => hsp w H a ns hlen hO hS
end XR
/-! Exceptions of the text as values: made, their fields read, isinstance of them. -/
namespace XR
open PySem PySem.Spec L2
/-- an exception of the class at C with the fields fs, newest first -/
def ExAt (H : Hp) (e C : Addr) (fs : List (Str × V)) : Prop := (fs = [] ∧ H e = some (exo e C none)) ∨ ∃ dx, H e = some (exo e C (some dx)) ∧ H dx = some (exd dx fs)
theorem ExAt.same {H H' : Hp} {e C : Addr} {fs : List (Str × V)} (s : Same H H') (h : ExAt H e C fs) : ExAt H' e C fs := by
  rcases h with ⟨h1, h2⟩ | ⟨dx, h1, h2⟩
  · exact .inl ⟨h1, s _ _ h2⟩
  · exact .inr ⟨dx, s _ _ h1, s _ _ h2⟩
abbrev FV : List (Str × V) → List (Str × Value) → Prop := Paired fun p q => p.1 = q.1 ∧ RelV p.2 q.2
theorem FV.rel : ∀ {fs : List (Str × V)} {gs : List (Str × Value)}, FV fs gs → ∀ f, RelO (fs.lookup f) (gs.lookup f)
  | _, _, .nil, _ => True.intro
  | (a, v) :: fs, (b, u) :: gs, .cons ⟨h1, h2⟩ t, f => by
    have h1 : a = b := h1
    subst h1
    by_cases q : f = a
    · subst q
      simp only [List.lookup, beq_self_eq_true]
      exact h2
    · have q' : (f == a) = false := by simpa using q
      simp only [List.lookup, q']
      exact FV.rel t f
theorem FV.nil_iff {fs : List (Str × V)} {gs : List (Str × Value)} (h : FV fs gs) : gs = [] → fs = [] := fun e => by
  subst e
  cases h
  rfl
section
variable {X : Cx} {pins : List (Addr × Obj)} {σ : St} {H : Hp} {h h' : Heap} {g : Array GenState} {d : Drawn} {t tk : Nat} {os : OsState} {e C L : Addr} {fs : List (Str × V)} {gs : List (Str × Value)}
theorem laidX (I : Inv X pins σ H ⟨h, g, d, t, os⟩) (k : ∀ b o, h.get? b = some o → h'.get? b = some o) (he : h.objs.size ≤ e) (F : Fl h.objs.size L e C gs h') (r : FV fs gs) :
    ∃ H2, Same H H2 ∧ ExAt H2 e C fs ∧ Inv X pins σ H2 ⟨h', g, d, tk, os⟩ := by
  have ne : H e = none := I.hok.fresh he
  obtain ⟨t1, ⟨hf, ho⟩ | ⟨dx, hf, hd0, hde, hdL, ho, hns⟩⟩ := F
  · subst hf
    have e2 := r.nil_iff rfl
    subst e2
    refine ⟨upd H e (exo e C none), fun b o q => by rw [upd_ne (ne_of_none q ne)]; exact q, .inl ⟨rfl, upd_same⟩, ?_⟩
    exact I.laid (t' := tk) k he (exo_ok ho)
  · have nd : H dx = none := I.hok.fresh hd0
    have sm : Same H (upd (upd H dx (exd dx fs)) e (exo e C (some dx))) := fun b o q => by
      rw [upd_ne (ne_of_none q ne), upd_ne (ne_of_none q nd)]
      exact q
    refine ⟨_, sm, .inr ⟨dx, upd_same, by rw [upd_ne hde]; exact upd_same⟩, ?_⟩
    have lt : ∀ {b : Addr} {o : Obj}, h.get? b = some o → b ≠ e ∧ b ≠ dx := fun {b o} q => ⟨Nat.ne_of_lt (Nat.lt_of_lt_of_le (Heap.lt_size q) he), Nat.ne_of_lt (Nat.lt_of_lt_of_le (Heap.lt_size q) hd0)⟩
    have U : Un X.fs [] H (upd (upd H dx (exd dx fs)) e (exo e C (some dx))) h h' := {
      keep := fun b o q _ _ _ => k b o q
      slot := fun b o q _ _ _ => ⟨o.slots, k b o q⟩
      free := fun b o q n _ => by rw [upd_ne (lt q).1, upd_ne (lt q).2]; exact n
      there := fun b o q _ => ⟨o, k b o q⟩
      tups := fun b xs q => sm _ _ q
      frzs := fun b o u q => sm _ _ q
      tbls := fun b ps q => ⟨#[], by rw [sm _ _ q]; simp⟩ }
    refine I.un (t' := tk) U fun b o q => ?_
    by_cases hb : b = e
    · subst hb
      rw [upd_same] at q
      cases q
      exact exo_ok ho
    · rw [upd_ne hb] at q
      by_cases hd : b = dx
      · subst hd
        rw [upd_same] at q
        cases q
        exact exd_ok hns r.rel
      · rw [upd_ne hd] at q
        exact (I.hok b o q).stay (fun c v _ z => k c v z) (fun c z => sm _ _ z) fun c xs z => sm _ _ z
end
/-- how the class at C is made by a call with n arguments: by position, or by the keywords ks -/
def argsX (kw : Option (List Str)) (e : Addr) (us : List Value) : Args := match kw with
  | none => ⟨.ref e :: us, []⟩
  | some ks => ⟨[.ref e], ks.zip us⟩
structure MkX (K : PySem.W.Frag) (P : Program) (C : Addr) (kw : Option (List Str)) (n : Nat) (fv : List V → List (Str × V)) : Prop where
  n1 : n ≤ 100
  ex : ∃ fI cc cda B newId initId bmB fd txt k p0 p1 p2 p3 p4 p5, ∃ (l : List Value → List Sto) (gb : List Value → List (Str × Value)), XCls K P C fI cc cda B newId initId bmB fd ∧
    (∀ us, us.length = n → Shape P fd fI cda cc txt k p0 p1 p2 p3 p4 p5 (l us) ∧ (l us).length ≤ 900 ∧ (∀ e s, BindsTo s fd (argsX kw e us) (("self", .ref e) :: gb us)) ∧
      (∀ e, ∀ x ∈ (((("self" : Str), Value.ref e) :: gb us) : List (Str × Value)), fd.scope.names.lookup x.1 = some .local) ∧ (∀ e : Addr, (((("self" : Str), Value.ref e) :: gb us) : List (Str × Value)).reverse.lookup ("self" : Str) = some (Value.ref e)) ∧
      (∀ e : Addr, ∀ x ∈ l us, (((("self" : Str), Value.ref e) :: gb us) : List (Str × Value)).reverse.lookup x.p = some x.v ∧ PySem.W.takerIn K C x.f = some none) ∧
      ∀ vs, Vals vs us → FV (fv vs) ((l us).map fun x => (x.f, x.v)).reverse)
section
variable {X : Cx} {k n : Nat} {C : Addr} {fv : List V → List (Str × V)} {x : Str} {p pos : Pos} {e : Expr} {es : List Expr} {t tk : TA} {ks : List Str} {kws : List Keyword} {mb : Str → Option Value}
/-- the call of the class, its arguments at hand -/
theorem runX {pins : List (Addr × Obj)} {σ : St} {H : Hp} {s : Shared} {Q : VK} {kw : Option (List Str)} {us : List Value} {vs : List V} (T : MkX X.K X.prog C kw n fv) (hr : Room 2 X.A) (hsup : X.mg "super" = none) (I : Inv X pins σ H s) (r : Vals vs us) (hl : us.length = n)
    (q : ∀ H2 e, Same H H2 → H e = none → ExAt H2 e C (fv vs) → Q (.ref e) H2) :
    wpAny (model X.prog X.w) X.A (match kw with | none => call (.ref C) us | some ks => call (.ref C) [] (ks.zip us)) (EP X pins σ Q) X.xe s := by
  obtain ⟨fI, cc, cda, B, newId, initId, bmB, fd, txt, kk, p0, p1, p2, p3, p4, p5, l, gb, T1, T2⟩ := T.ex
  obtain ⟨S, hl9, bt, hloc, hself, hx, hfv⟩ := T2 us hl
  obtain ⟨mb, hb, hbb⟩ := I.ok.mod.blt
  have hn : us.length ≤ sizeLine := by rw [hl, sizeLine_eq]; have := T.n1; omega
  have m2 : mb "super" = some (.type "super") := (hbb _ (by decide +kernel)).trans (by decide +kernel)
  obtain ⟨h, g, d, t, os⟩ := s
  have hm := I.ok.mod.glob.keeps I.bk
  have hb' := hb.keeps I.bk
  have dep : ∀ us kw, (X.A.under (.builtin "type.__call__" ⟨.ref C :: us, kw⟩)).depth < recursionLimit := fun us kw => by
    have := hr.dp
    rw [make_depth]
    omega
  have fin : ∀ h' tk L, (∀ b o, h.get? b = some o → h'.get? b = some o) → Fl h.objs.size L (h.objs.size + 1) C ((l us).map fun x => (x.f, x.v)).reverse h' → EP X pins σ Q (.ref (h.objs.size + 1)) ⟨h', g, d, tk, os⟩ := fun h' tk L kp F => by
    obtain ⟨H2, sm, ea, J⟩ := laidX (tk := tk) I kp (Nat.le_succ _) F (hfv vs r)
    exact ⟨.ref (h.objs.size + 1), H2, J, rfl, q H2 _ sm (I.hok.fresh (Nat.le_succ _)) ea⟩
  cases kw with
  | none => exact made T1 S hl9 I.kIn hm hb' hsup m2 I.nolimit (dep _ _) hn (bt _) (hloc _) (hself _) (hx _) fin
  | some ks => exact made (us := []) T1 S hl9 I.kIn hm hb' hsup m2 I.nolimit (dep _ _) (Nat.zero_le _) (bt _) (hloc _) (hself _) (hx _) fin
def tMkX (C : Addr) (n : Nat) (fv : List V → List (Str × V)) (t : TA) : TE := fun σ H Q => t σ H fun vs H1 => vs.length = n ∧ ∀ H2 e, Same H1 H2 → H1 e = none → ExAt H2 e C (fv vs) → Q (.ref e) H2
/-- C(e, ..) -/
theorem pe_mkX (T : MkX X.K X.prog C none n fv) (hk : PySem.W.keepIn X.K (.ref C) = true) (hr : Room 2 X.A) (hsup : X.mg "super" = none) (hg : Gl X x) (hm : X.mg x = some (.ref C)) (ha : PA X (e :: es) t)
    (hdb : (x == ("__debug__" : Str)) = false := by decide) (he : starEach (e :: es) X.env = (false, eval e X.env) :: starEach es X.env := by rfl) (hpl : (backTo pos (starEach es X.env)).any (·.1) = false := by rfl) :
    PE X (.Call (.Name x p) (e :: es) [] pos) (tMkX C n fv t) := by
  refine ⟨fun pins s σ H Q I h => ?_⟩
  refine wpAny_Call_Name_kw (ld_glob I hg hm ?_ hdb)
  refine PySem.W.callWith_K (h₀ := X.base) I.ok.mod.kin hk (thn (ha.run pos pins s σ H _ I h) fun us s1 ⟨vs, H1, I1, r, hl, q⟩ => ⟨I1.kIn, ?_⟩) he hpl
  exact runX (kw := none) T hr hsup I1 r (r.length.symm.trans hl) q
/-- C() -/
theorem pe_mkX0 (T : MkX X.K X.prog C none 0 fv) (hk : PySem.W.keepIn X.K (.ref C) = true) (hr : Room 2 X.A) (hsup : X.mg "super" = none) (hg : Gl X x) (hm : X.mg x = some (.ref C))
    (hdb : (x == ("__debug__" : Str)) = false := by decide) : PE X (.Call (.Name x p) [] [] pos) (tMkX C 0 fv tNil) := by
  refine ⟨fun pins s σ H Q I h => ?_⟩
  refine wpAny_Call_Name_kw (ld_glob I hg hm ?_ hdb)
  obtain ⟨_, q⟩ := h
  exact PySem.W.callWith_K0 I.kIn hk (runX T hr hsup I .nil rfl q)
/-- C(k = e, ..) -/
theorem pe_mkXK (T : MkX X.K X.prog C (some ks) n fv) (hk : PySem.W.keepIn X.K (.ref C) = true) (hr : Room 2 X.A) (hsup : X.mg "super" = none) (hg : Gl X x) (hm : X.mg x = some (.ref C)) (hkw : PK X kws tk)
    (hall : (backToKw pos (keywordEach kws X.env)).all (·.1.isSome) = true := by rfl) (hks : (backToKw pos (keywordEach kws X.env)).filterMap (·.1) = ks := by rfl)
    (hdb : (x == ("__debug__" : Str)) = false := by decide) (hpl : ((backTo pos (starEach [] X.env)).any (·.1) || (backToKw pos (keywordEach kws X.env)).any (·.1.isNone)) = false := by rfl) :
    PE X (.Call (.Name x p) [] kws pos) (tMkX C n fv tk) := by
  refine ⟨fun pins s σ H Q I h => ?_⟩
  refine wpAny_Call_Name_kw (ld_glob I hg hm ?_ hdb)
  refine PySem.W.callWith_KW0 (h₀ := X.base) I.ok.mod.kin hk hall (thn (hkw.run pos pins s σ H _ I h) fun us s1 ⟨vs, H1, I1, r, hl, q⟩ => ⟨I1.kIn, ?_⟩) hpl
  rw [hks]
  exact runX (kw := some ks) T hr hsup I1 r (r.length.symm.trans hl) q
end
/-- what the written part says of a class of exceptions, for its fields and isinstance -/
structure ClsR (K : PySem.W.Frag) (C : Addr) : Prop where
  cl : (PySem.W.clsIn K C).isSome = true
  ga : PySem.W.findIn K (.ref C) "__getattribute__" = some (some (.builtin "BaseException.__getattribute__"))
  gt : PySem.W.findIn K (.ref C) "__getattr__" = some none
  sb : PySem.W.subIn K (.ref C) (.type "BaseException") = some true
  di : PySem.W.hasDictIn K C = true
  ca : PySem.W.findIn K (.ref C) "__class__" = some (some (.builtin "object.__class__"))
  sp : PySem.W.specialIn K (.builtin "object.__class__") "__get__" = some (some (.builtin "getset_descriptor.__get__"))
  tk : PySem.W.takesIn K (.builtin "object.__class__") = some true
  mo : PySem.W.mroIn K C (.type "object") = some true
section
variable {X : Cx} {pins : List (Addr × Obj)} {σ : St} {H : Hp} {s : Shared} {a C : Addr} {fs : List (Str × V)}
theorem instX (I : Inv X pins σ H s) (h : ExAt H a C fs) : ∃ (ox : Obj) (od : Option Obj), PySem.W.InstAt s.heap a ox C od ∧ ∀ v, fs.lookup v ≠ none → ∃ o, od = some o ∧ ∃ m : Str → Option Value, (∀ f, RelO (fs.lookup f) (m f)) ∧ ∀ f, PySem.W.lookIn f o = some (m f) := by
  rcases h with ⟨rfl, h⟩ | ⟨dx, h1, h2⟩
  · obtain ⟨t1, ho⟩ := exo_at I.hok h
    exact ⟨_, none, ⟨ho, rfl, rfl, trivial⟩, fun v hv => absurd rfl hv⟩
  · obtain ⟨t1, ho⟩ := exo_at I.hok h1
    obtain ⟨m, hn, hr⟩ := exd_at I.hok h2
    obtain ⟨od, hod, hl⟩ := lookIn_ns hn
    exact ⟨_, some od, ⟨ho, rfl, rfl, hod⟩, fun v _ => ⟨od, rfl, m, hr, hl⟩⟩
variable {e : Expr} {f : Str} {pos : Pos} {ta : TE}
def tExF (K : PySem.W.Frag) (ta : TE) (f : Str) : TE := fun σ H Q => ta σ H fun x H1 => ∃ a C fs v, x = .ref a ∧ ExAt H1 a C fs ∧ ClsR K C ∧ PySem.W.findIn K (.ref C) f = some none ∧ fs.lookup f = some v ∧ Q v H1
/-- e.f of an exception -/
theorem pe_exf (he : PE X e ta) (hb : attributeBase e f X.env (eval e X.env) = eval e X.env) : PE X (.Attribute e f pos) (tExF X.K ta f) := by
  refine ⟨fun pins s σ H Q I h => ?_⟩
  refine attr_of hb (thn (he.run pins s σ H _ I h) fun u s1 ⟨x, H1, I1, rx, a, C, fs, v, ex, ea, T, nf, l, q⟩ => ?_)
  subst ex
  obtain rfl : u = Value.ref a := rx
  obtain ⟨ox, od, J, hf⟩ := instX I1 ea
  obtain ⟨o, rfl, m, hr, hl⟩ := hf f (by rw [l]; exact Option.some_ne_none v)
  have hm := hr f
  rw [l] at hm
  obtain ⟨u, hu, ru⟩ := RelO.some_of hm
  have hl' := hl f
  rw [hu] at hl'
  refine PySem.PX.exc_get I1.kIn J T.ga T.gt T.sb (PySem.W.findObj_own T.di nf rfl hl') (handed_of ru) ?_
  exact ⟨v, H1, I1.tok _, ru, q⟩
/-- isinstance(e, c) -/
def rIsX (K : PySem.W.Frag) : List V → Hp → VK → Prop := fun xs H Q => ∃ (a C : Addr) (fs : List (Str × V)) (c : V) (cv : Value) (b : Bool), xs = [.ref a, c] ∧ ExAt H a C fs ∧ ClsR K C ∧ (∀ u, RelV c u → u = cv) ∧ PySem.W.kitOne K (.ref C) cv = some b ∧ Q (.bl b) H
theorem call_isX : CallR X (.builtin "isinstance") (rIsX X.K) := by
  intro pins s σ H xs us Q I r h
  obtain ⟨a, C, fs, c, cv, b, rfl, ea, T, hc, e, q⟩ := h
  obtain ⟨u1, u2, rfl, r1, r2⟩ := vals2 r
  cases r1
  obtain rfl := hc _ r2
  obtain ⟨ox, od, J, _⟩ := instX I ea
  exact PySem.W.kia_one (PySem.W.kitx_exc T.cl T.ga T.gt T.sb T.ca T.sp T.tk T.mo) I.kIn J e (fun z => nomatch z) fun tk => ⟨.bl b, H, I.kept (t' := tk) fun _ _ z => z, rfl, q⟩
end
end XR
/-! Law-independent: heaps alike but for one address, the pot of a law, what its draws promise. -/
namespace XR
open PySem L2
/-- all but a is as it was -/
def But (a : Addr) (H H' : Hp) : Prop := ∀ b o, H b = some o → b ≠ a → H' b = some o
theorem But.refl (a : Addr) (H : Hp) : But a H H := fun _ _ h _ => h
theorem But.trans {a : Addr} {H H1 H2 : Hp} (x : But a H H1) (y : But a H1 H2) : But a H H2 := fun b o h n => y b o (x b o h n) n
theorem But.same {a : Addr} {H H1 H2 : Hp} (x : But a H H1) (y : Same H1 H2) : But a H H2 := fun b o h n => y b o (x b o h n)
theorem same_upd {H : Hp} {p : Addr} {o : HO} (h : H p = none) : Same H (upd H p o) := fun b u e => by
  rw [upd_ne (ne_of_none e h)]
  exact e
theorem But.del {a : Addr} {H H' : Hp} (x : But a H H') : Same (L2.del H a) (L2.del H' a) := fun b o h => by
  by_cases e : b = a
  · rw [e, del_same] at h; cases h
  · rw [del_ne e] at h ⊢
    exact x b o h e
theorem del_sub {a : Addr} {H : Hp} : Same (L2.del H a) H := fun b o h => by
  by_cases e : b = a
  · rw [e, del_same] at h; cases h
  · rw [del_ne e] at h
    exact h
def PotAt (H : Hp) (a : Addr) : Prop := ∃ p q : Int, H a = some (.lst [.int p, .int q]) ∧ 0 ≤ p ∧ 0 ≤ q ∧ q < 2147483647
def spPot (K : PySem.W.Frag) : Sp := fun vs H Q _ => ∃ (a : Addr) (ns : List Int) (k : Nat), vs = [.ref a, .int k] ∧ SqL K H a (ns.map V.int) ∧ ns.length ≤ 63 ∧ k ≤ 100 ∧
  ∀ p H', Same H H' → H p = none → PotAt H' p → Q (.ref p) H'
def spDraw : Sp := fun vs H Q _ => ∃ (a : Addr) (m : Int), vs = [.ref a, .int m] ∧ PotAt H a ∧ 0 < m ∧ m ≤ 1000 ∧
  ∀ (r : Int) H', 0 ≤ r → r < m → PotAt H' a → But a H H' → Q (.int r) H'
def spPick : Sp := fun vs H Q _ => ∃ (a b : Addr) (xs : List V), vs = [.ref a, .ref b] ∧ PotAt H a ∧ H b = some (.lst xs) ∧ a ≠ b ∧ 0 < xs.length ∧ xs.length ≤ 1000 ∧
  ∀ (x : V) H', x ∈ xs → PotAt H' a → But a H H' → Q x H'
theorem int_of_map {ns : List Int} {i : Nat} (h : i < ns.length) : (ns.map V.int)[i]? = some (V.int (ns.getD i 0)) := by
  rw [List.getElem?_map, List.getD_eq_getElem?_getD]
  rw [List.getElem?_eq_getElem h]
  rfl
end XR
namespace K14
open PySem L2 XR
def top (i : Nat) : Stmt := PySem.Challenge.pw_alldiffs_k14_whole_diffs_taken_apart.main.body.getD i (.Pass ⟨0, 0, 0, 0⟩)
abbrev sPot : Stmt := top 36
abbrev sDraw : Stmt := top 37
abbrev sPick : Stmt := top 38
structure Blt (mg : Str → Option Value) : Prop where
  all : ∀ x : Str, x ∈ (["len", "abs", "max", "min", "int", "divmod", "repr", "isinstance", "enumerate", "range", "all", "super", "zip", "tuple", "dict", "bool", "str", "list"] : List Str) → mg x = none
def Blt.len {mg : Str → Option Value} (T : Blt mg) : mg "len" = none := T.all _ (by decide)
def Blt.abs {mg : Str → Option Value} (T : Blt mg) : mg "abs" = none := T.all _ (by decide)
def Blt.max {mg : Str → Option Value} (T : Blt mg) : mg "max" = none := T.all _ (by decide)
def Blt.min {mg : Str → Option Value} (T : Blt mg) : mg "min" = none := T.all _ (by decide)
def Blt.int {mg : Str → Option Value} (T : Blt mg) : mg "int" = none := T.all _ (by decide)
def Blt.divmod {mg : Str → Option Value} (T : Blt mg) : mg "divmod" = none := T.all _ (by decide)
def Blt.range {mg : Str → Option Value} (T : Blt mg) : mg "range" = none := T.all _ (by decide)
def Blt.enum {mg : Str → Option Value} (T : Blt mg) : mg "enumerate" = none := T.all _ (by decide)
section
variable {P : Program} {w : World} {K : PySem.W.Frag} {mg : Str → Option Value} {base : Heap}
theorem scPot : FnScope ["_law_script", "_law_index", "_law_cell"] ["_law_script", "_law_index"] (defScope sPot) := ⟨rfl, rfl, rfl, by decide +kernel, rfl, by decide +kernel, by decide +kernel⟩
theorem ok_pot {f : Addr} {fd : FuncData} (F : Fun K "_law_pot" "_law_pot" sPot f fd) (T : Blt mg) : FnOk P w K mg base CX0 1 f fd ["_law_script", "_law_index"] (spPot K) := by
  refine F.ok scPot (fun vs H Q E h => ?_) (fun cdv A outer s H vs Q E hr h => ?_)
  · obtain ⟨a, ns, k, rfl, _⟩ := h
    rfl
  · obtain ⟨a, ns, k, rfl, hS, hn, hk, q⟩ := h
    refine ⟨_, pss_cons (ps_set (i := 2) scPot.nd rfl (.inl rfl) (pe_ifExp (pt_cmpR op_lt (pv 1) (pe_callB call_len_seq (by rfl) T.len PySem.boot_len (pa_cons (pv 0) pa_nil)) (nomark _))
        (pe_callB call_abs (by rfl) T.abs (by decide +kernel) (pa_cons (pe_ix ix_list (pv 0) (pv 1) (fun _ _ => rfl)) pa_nil))
        (pe_op op_add (pe_op op_mul pe_int (pv 1)) pe_int)))
      (pss_one (ps_ret (pe_lst (pa_cons (pe_callB (call_max2 rfl) (by rfl) T.max (by decide +kernel) (pa_cons pe_int (pa_cons (pe_op op_sub (pv 2) (pe_op op_pow pe_int pe_int)) pa_nil)))
        (pa_cons (pe_op op_mod (pe_callTy call_int1 (by rfl) T.int (by decide +kernel) (pa_cons (pe_op op_add (pe_op op_add (pe_op op_mul (pe_op op_mod (pe_callTy call_int1 (by rfl) T.int (by decide +kernel) (pa_cons (pv 2) pa_nil)) pe_int) pe_int) (pe_op op_mul pe_int (pv 1))) pe_int) pa_nil)) pe_int) pa_nil))))), ?_⟩
    refine ⟨_, rfl, _, rfl, a, _, rfl, .inl hS, _, _, rfl, rfl, _, rfl, ?_⟩
    refine ite2 (fun h1 => ?_) (fun h1 => ?_)
    · have h2 : k < ns.length := by
        have h3 := of_decide_eq_true h1
        rw [List.length_map] at h3
        omega
      refine ⟨_, rfl, _, rfl, a, _, _, _, rfl, rfl, hS, atI_nat (int_of_map h2), _, rfl, ?_⟩
      have hc : (0 : Int) ≤ (if ns.getD k 0 < 0 then -(ns.getD k 0) else ns.getD k 0) := by split <;> omega
      revert hc
      generalize (if ns.getD k 0 < 0 then -(ns.getD k 0) else ns.getD k 0) = c
      intro hc
      refine ⟨_, rfl, _, _, rfl, rfl, ⟨by decide, by decide, by decide⟩, _, _, rfl, rfl, _, _, rfl, _, rfl, .inl ⟨_, rfl, _, _, rfl, rfl, by show (0 : Int) < 2147483629; decide, _, _, rfl, rfl, .inr ⟨by decide, by decide⟩, _, rfl, _, _, rfl, rfl, .inl ⟨by decide, by decide⟩, _, _, rfl, rfl, _, _, rfl, rfl,
        .inl ⟨_, rfl, _, _, rfl, rfl, by show (0 : Int) < 2147483647; decide, by show 2 ≤ sizeLine; decide, fun p hp => ?_⟩⟩⟩
      refine q p _ (same_upd hp) hp ⟨_, _, upd_same, ?_, Int.emod_nonneg _ (by decide), Int.emod_lt_of_pos _ (by decide)⟩

      split <;> omega
    · refine ⟨_, rfl, _, _, rfl, rfl, .inl ⟨by decide, by decide⟩, _, _, rfl, rfl, ?_⟩
      refine ⟨_, rfl, _, _, rfl, rfl, ⟨by decide, by decide, by decide⟩, _, _, rfl, rfl, _, _, rfl, _, rfl, .inl ⟨_, rfl, _, _, rfl, rfl, by show (0 : Int) < 2147483629; decide, _, _, rfl, rfl, .inr ⟨by decide, by decide⟩, _, rfl, _, _, rfl, rfl, .inl ⟨by decide, by decide⟩, _, _, rfl, rfl, _, _, rfl, rfl,
        .inl ⟨_, rfl, _, _, rfl, rfl, by show (0 : Int) < 2147483647; decide, by show 2 ≤ sizeLine; decide, fun p hp => ?_⟩⟩⟩
      refine q p _ (same_upd hp) hp ⟨_, _, upd_same, ?_, Int.emod_nonneg _ (by decide), Int.emod_lt_of_pos _ (by decide)⟩

      split <;> omega
theorem scDraw : FnScope ["_law_pot_here", "_law_many", "_law_digit"] ["_law_pot_here", "_law_many"] (defScope sDraw) := ⟨rfl, rfl, rfl, by decide +kernel, rfl, by decide +kernel, by decide +kernel⟩
theorem ok_draw {f : Addr} {fd : FuncData} (F : Fun K "_law_draw" "_law_draw" sDraw f fd) (T : Blt mg) : FnOk P w K mg base CX0 1 f fd ["_law_pot_here", "_law_many"] spDraw := by
  refine F.ok scDraw (fun vs H Q E h => ?_) (fun cdv A outer s H vs Q E hr h => ?_)
  · obtain ⟨a, m, rfl, _⟩ := h
    rfl
  · obtain ⟨a, m, rfl, ⟨p, q, ha, hp, hq, hq2⟩, hm, hm2, z⟩ := h
    refine ⟨_, pss_cons (ps_if (pt_cmpR op_gt (pe_ix ix_list (pv 0) pe_int (fun _ _ => rfl)) pe_int (nomark _))
        (pss_cons (ps_asg (pe_callB call_divmod (by rfl) T.divmod (by decide +kernel) (pa_cons (pe_ix ix_list (pv 0) pe_int (fun _ _ => rfl)) (pa_cons (pv 1) pa_nil)))
            (pg_tup rfl (pgs_cons (pg_sub (pv 0) pe_int set_list) (pgs_cons (pg_name (i := 2) scDraw.nd rfl (.inl rfl)) pgs_nil))))
          (pss_one (ps_ret (pv 2))))
        pss_nil)
      (pss_cons (ps_asg (pe_op op_mod (pe_callTy call_int1 (by rfl) T.int (by decide +kernel) (pa_cons (pe_op op_add (pe_op op_mul (pe_ix ix_list (pv 0) pe_int (fun _ _ => rfl)) pe_int) pe_int) pa_nil)) pe_int) (pg_sub (pv 0) pe_int set_list))
      (pss_one (ps_ret (pe_op op_mod (pe_callTy call_int1 (by rfl) T.int (by decide +kernel) (pa_cons (pe_op op_fdiv (pe_op op_mod (pe_callTy call_int1 (by rfl) T.int (by decide +kernel) (pa_cons (pe_op op_mul (pe_ix ix_list (pv 0) pe_int (fun _ _ => rfl)) (pe_ix ix_list (pv 0) pe_int (fun _ _ => rfl))) pa_nil)) pe_int) pe_int) pa_nil)) (pv 1))))), ?_⟩
    refine ⟨_, rfl, a, _, _, _, rfl, rfl, .inl (.inl ha), atI_nat (j := 0) rfl, _, _, rfl, rfl, _, rfl, ?_⟩
    refine ite2 (fun h1 => ?_) (fun h1 => ?_)
    · refine ⟨_, rfl, a, _, _, _, rfl, rfl, .inl (.inl ha), atI_nat (j := 0) rfl, _, rfl, _, _, rfl, ⟨hm, by omega⟩, fun t ht => ?_⟩
      refine ⟨t, _, rfl, .inl (.inl upd_same), rfl, ?_⟩
      have hat : a ≠ t := ne_of_none ha ht
      refine ⟨_, _, rfl, _, rfl, a, _, _, 0, rfl, rfl, (by rw [upd_ne hat]; exact ha), rfl, ?_⟩
      refine ⟨_, _, rfl, rfl, _, rfl, ?_⟩
      have hp1 : (0 : Int) < p := of_decide_eq_true h1
      refine z (p % m) _ (Int.emod_nonneg _ (by omega)) (Int.emod_lt_of_pos _ hm) ⟨p / m, q, upd_same, Int.ediv_nonneg hp (by omega), hq, hq2⟩ fun b o hb hn => ?_
      rw [upd_ne hn, upd_ne (ne_of_none hb ht)]
      exact hb
    · have m1 : (0 : Int) < 2147483629 := by decide
      have m2 : (0 : Int) < 2147483563 := by decide
      refine ⟨_, rfl, a, _, _, _, rfl, rfl, .inl (.inl ha), atI_nat (j := 1) rfl, _, _, rfl, rfl, .inr ⟨by decide, by decide⟩, _, _, rfl, rfl, .inl ⟨_, rfl, _, _, rfl, rfl, m1, _, rfl, a, _, _, 1, rfl, rfl, ha, rfl, ?_⟩⟩
      have q0 : 0 ≤ (q * 39373 + 12227) % 2147483629 := Int.emod_nonneg _ (by decide)
      have q1 : (q * 39373 + 12227) % 2147483629 < 2147483629 := Int.emod_lt_of_pos _ (by decide)
      refine ⟨_, rfl, a, _, _, _, rfl, rfl, .inl (.inl upd_same), atI_nat (j := 1) rfl, _, rfl, a, _, _, _, rfl, rfl, .inl (.inl upd_same), atI_nat (j := 1) rfl, _, _, rfl, rfl, .inl ⟨by omega, by omega⟩, .inl ⟨_, rfl, _, _, rfl, rfl, m2, _, _, rfl, rfl, ⟨by decide, by decide⟩, .inl ⟨_, rfl, _, rfl, _, _, rfl, rfl, hm, ?_⟩⟩⟩
      refine z _ _ (Int.emod_nonneg _ (by omega)) (Int.emod_lt_of_pos _ hm) ⟨p, (q * 39373 + 12227) % 2147483629, upd_same, hp, q0, by omega⟩ fun b o hb hn => ?_
      rw [upd_ne hn]
      exact hb
theorem scPick : FnScope ["_law_pot_here", "_law_some"] ["_law_pot_here", "_law_some"] (defScope sPick) := ⟨rfl, rfl, rfl, by decide +kernel, rfl, by decide +kernel, by decide +kernel⟩
theorem ok_pick {f fD : Addr} {fd fdD : FuncData} (F : Fun K "_law_pick" "_law_pick" sPick f fd) (T : Blt mg) (FD : Fun K "_law_draw" "_law_draw" sDraw fD fdD) (bD : Binds K fdD ["_law_pot_here", "_law_many"] []) (mD : mg "_law_draw" = some (.ref fD)) : FnOk P w K mg base CX0 2 f fd ["_law_pot_here", "_law_some"] spPick := by
  have GD : FnOk P w K mg base CX0 1 fD fdD ["_law_pot_here", "_law_many"] spDraw := ok_draw FD T
  refine F.ok scPick (fun vs H Q E h => ?_) (fun cdv A outer s H vs Q E hr h => ?_)
  · obtain ⟨a, b, xs, rfl, _⟩ := h
    rfl
  · obtain ⟨a, b, xs, rfl, hpot, hb, hab, h0, h1, z⟩ := h
    refine ⟨_, pss_one (ps_ret (pe_ix ix_list (pv 1) (pe_call GD hr rfl mD FD.kp bD .nil pass0 (pa_cons (pv 0) (pa_cons (pe_callB call_len_seq (by rfl) T.len PySem.boot_len (pa_cons (pv 1) pa_nil)) pa_nil))) (fun _ _ => rfl))), ?_⟩
    refine ⟨_, rfl, _, rfl, _, rfl, b, xs, rfl, .inl (.inl (.inl hb)), a, _, rfl, hpot, by omega, by omega, fun r H' r0 r1 hp' but => ?_⟩
    have hlt : r.toNat < xs.length := by omega
    have er : ((r.toNat : Nat) : Int) = r := by omega
    have ea : atI xs ((r.toNat : Nat) : Int) = some xs[r.toNat] := atI_nat (List.getElem?_eq_getElem hlt)
    rw [er] at ea
    exact ⟨b, xs, r, xs[r.toNat], rfl, rfl, .inl (.inl (but b _ hb (Ne.symm hab))), ea, z _ H' (List.getElem_mem hlt) hp' but⟩
end
end K14
namespace XR
open PySem L2
/-- the lines that a law draws -/
def words : List Str := ["a", "b", "c", "", " ", "a ", "keep", "-", "+a", "ab", "A", "new"]
def Wd (ss : List Str) : Prop := ∀ s, s ∈ ss → s ∈ words
theorem ll20 {n : Nat} (h : n ≤ 20) : n ≤ sizeLine := Nat.le_trans h (by decide)
/-- a drawn text: a new list of words -/
def spText : Sp := fun vs H Q _ => ∃ (a : Addr) (m : Int), vs = [.ref a, .int m] ∧ PotAt H a ∧ 0 ≤ m ∧ m ≤ 100 ∧
  ∀ (p : Addr) (ss : List Str) H', PotAt H' a → But a H H' → H p = none → H' p = some (.lst (ss.map V.str)) → Wd ss → (ss.length : Int) ≤ m → Q (.ref p) H'
theorem But.new {a p : Addr} {H H' : Hp} {o : HO} (b : But a H H') (h : H' p = none) : But a H (upd H' p o) := fun x u hx n => by
  have := b x u hx n
  rw [upd_ne (ne_of_none this h)]
  exact this
theorem PotAt.same {a : Addr} {H H' : Hp} (s : Same H H') (h : PotAt H a) : PotAt H' a := by
  obtain ⟨p, q, e, r⟩ := h
  exact ⟨p, q, s _ _ e, r⟩
theorem PotAt.ne {a p : Addr} {H : Hp} (h : PotAt H a) (n : H p = none) : a ≠ p := by
  obtain ⟨_, _, e, _⟩ := h
  exact ne_of_none e n
theorem PotAt.upd {a p : Addr} {H : Hp} {o : HO} (h : PotAt H a) (n : a ≠ p) : PotAt (L2.upd H p o) a := by
  obtain ⟨p', q, e, r⟩ := h
  exact ⟨p', q, by rw [upd_ne n]; exact e, r⟩
theorem Same.but {a : Addr} {H H' : Hp} (s : Same H H') : But a H H' := fun b o h _ => s b o h
end XR
namespace K14
open PySem L2 XR
abbrev sText : Stmt := top 39
section
variable {P : Program} {w : World} {K : PySem.W.Frag} {mg : Str → Option Value} {base : Heap}
theorem scText : FnScope ["_law_pot_here", "_law_most", "_law_words", "_law_turn"] ["_law_pot_here", "_law_most"] (defScope sText) := ⟨rfl, rfl, rfl, by decide +kernel, rfl, by decide +kernel, by decide +kernel⟩
structure Draws (P : Program) (w : World) (K : PySem.W.Frag) (mg : Str → Option Value) (base : Heap) (fD fP : Addr) (fdD fdP : FuncData) : Prop where
  FD : Fun K "_law_draw" "_law_draw" sDraw fD fdD
  GD : FnOk P w K mg base CX0 1 fD fdD ["_law_pot_here", "_law_many"] spDraw
  bD : Binds K fdD ["_law_pot_here", "_law_many"] []
  mD : mg "_law_draw" = some (.ref fD)
  FP : Fun K "_law_pick" "_law_pick" sPick fP fdP
  GP : FnOk P w K mg base CX0 2 fP fdP ["_law_pot_here", "_law_some"] spPick
  bP : Binds K fdP ["_law_pot_here", "_law_some"] []
  mP : mg "_law_pick" = some (.ref fP)
theorem ok_text {f fD fP : Addr} {fd fdD fdP : FuncData} (F : Fun K "_law_text" "_law_text" sText f fd) (T : Blt mg) (D : Draws P w K mg base fD fP fdD fdP) : FnOk P w K mg base CX0 3 f fd ["_law_pot_here", "_law_most"] spText := by
  refine F.ok scText (fun vs H Q E h => ?_) (fun cdv A outer s H vs Q E hr h => ?_)
  · obtain ⟨a, m, rfl, _⟩ := h
    rfl
  · obtain ⟨a, m, rfl, hpot, m0, m1, z⟩ := h
    refine ⟨_, pss_cons (ps_set (i := 2) scText.nd rfl (.inr rfl) (pe_call D.GP hr rfl D.mP D.FP.kp D.bP .nil pass0 (pa_cons (pv 0) (pa_cons (pe_lst
          (pa_cons (pe_lst (pa_cons pe_str (pa_cons pe_str pa_nil)))
          (pa_cons (pe_lst (pa_cons pe_str (pa_cons pe_str (pa_cons pe_str pa_nil))))
          (pa_cons (pe_lst (pa_cons pe_str (pa_cons pe_str (pa_cons pe_str (pa_cons pe_str (pa_cons pe_str pa_nil))))))
          (pa_cons (pe_lst (pa_cons pe_str (pa_cons pe_str (pa_cons pe_str (pa_cons pe_str (pa_cons pe_str pa_nil)))))) pa_nil))))) pa_nil))))
      (pss_one (ps_ret (pe_lc (own := [("_law_turn", 3)]) (g := gName 3) (tt := tYes) (te := tCall spPick [] E0 (tCons (tVar 0) (tCons (tVar 2) tNil))) rfl scText.nd
          (pi_range1 rfl T.range (pa_cons (pe_call D.GD (hr.mono (by decide)) rfl D.mD D.FD.kp D.bD .nil pass0 (pa_cons (pv 0) (pa_cons (pe_op op_add (pv 1) pe_int) pa_nil))) pa_nil))
          (blkOk_by (own := [("_law_turn", 3)]) (N := ["_law_pot_here", "_law_most", "_law_words", "_law_turn"]) (sc := defScope sText) (by decide +kernel))
          (fun _ _ _ _ _ => pg_name (i := 3) scText.nd rfl (Or.inl rfl)) (fun _ _ _ _ _ => pts_nil)
          (fun _ _ _ _ _ => pe_call D.GP hr rfl D.mP D.FP.kp D.bP .nil pass0 (pa_cons (pv 0) (pa_cons (pv 2) pa_nil)))))), ?_⟩
    refine ⟨_, rfl, ll20 (by show 2 ≤ 20; decide), fun p0 n0 => ⟨ll20 (by show 3 ≤ 20; decide), fun p1 n1 => ⟨ll20 (by show 5 ≤ 20; decide), fun p2 n2 => ⟨ll20 (by show 5 ≤ 20; decide), fun p3 n3 => ⟨ll20 (by show 4 ≤ 20; decide), fun p4 n4 => ?_⟩⟩⟩⟩⟩
    have s0 := same_upd (o := .lst [V.str "a", V.str "b"]) n0
    have s1 := same_upd (o := .lst [V.str "a", V.str "b", V.str "c"]) n1
    have s2 := same_upd (o := .lst [V.str "a", V.str "", V.str " ", V.str "a ", V.str "keep"]) n2
    have s3 := same_upd (o := .lst [V.str "-", V.str "+a", V.str "ab", V.str "a", V.str "A"]) n3
    have s4 := same_upd (o := .lst [V.ref p0, V.ref p1, V.ref p2, V.ref p3]) n4
    have g4 := upd_same (H := upd (upd (upd (upd H p0 (.lst [V.str "a", V.str "b"])) p1 (.lst [V.str "a", V.str "b", V.str "c"])) p2 (.lst [V.str "a", V.str "", V.str " ", V.str "a ", V.str "keep"])) p3 (.lst [V.str "-", V.str "+a", V.str "ab", V.str "a", V.str "A"])) (a := p4) (o := .lst [V.ref p0, V.ref p1, V.ref p2, V.ref p3])
    have a0 := hpot.ne n0
    have a1 := (hpot.same s0).ne n1
    have a2 := ((hpot.same s0).same s1).ne n2
    have a3 := (((hpot.same s0).same s1).same s2).ne n3
    have a4 := ((((hpot.same s0).same s1).same s2).same s3).ne n4
    have g0 := s4 _ _ (s3 _ _ (s2 _ _ (s1 _ _ (upd_same (H := H) (a := p0) (o := .lst [V.str "a", V.str "b"])))))
    have g1 := s4 _ _ (s3 _ _ (s2 _ _ (upd_same (a := p1) (o := .lst [V.str "a", V.str "b", V.str "c"]))))
    have g2 := s4 _ _ (s3 _ _ (upd_same (a := p2) (o := .lst [V.str "a", V.str "", V.str " ", V.str "a ", V.str "keep"])))
    have g3 := s4 _ _ (upd_same (a := p3) (o := .lst [V.str "-", V.str "+a", V.str "ab", V.str "a", V.str "A"]))
    have sm := s0.trans (s1.trans (s2.trans (s3.trans s4)))
    have hpG := hpot.same sm
    refine ⟨a, p4, [V.ref p0, V.ref p1, V.ref p2, V.ref p3], rfl, hpG, g4, a4, by show 0 < 4; decide, by show 4 ≤ 1000; decide, fun x H1 hx hp1 b1 => ?_⟩
    clear s0 s1 s2 s3 s4 n1 n2 n3 n4
    generalize upd (upd (upd (upd (upd H p0 (.lst [V.str "a", V.str "b"])) p1 (.lst [V.str "a", V.str "b", V.str "c"])) p2 (.lst [V.str "a", V.str "", V.str " ", V.str "a ", V.str "keep"])) p3 (.lst [V.str "-", V.str "+a", V.str "ab", V.str "a", V.str "A"])) p4 (.lst [V.ref p0, V.ref p1, V.ref p2, V.ref p3]) = G at g0 g1 g2 g3 g4 sm hpG b1
    obtain ⟨pw, ws, rfl, hw, hne, w0, w5, hwd⟩ : ∃ pw ws, x = .ref pw ∧ G pw = some (.lst (ws.map V.str)) ∧ a ≠ pw ∧ 0 < ws.length ∧ ws.length ≤ 5 ∧ Wd ws := by
      simp only [List.mem_cons, List.not_mem_nil, or_false] at hx
      rcases hx with rfl | rfl | rfl | rfl
      · exact ⟨p0, ["a", "b"], rfl, g0, a0, by decide, by decide, by unfold Wd; decide⟩
      · exact ⟨p1, ["a", "b", "c"], rfl, g1, a1, by decide, by decide, by unfold Wd; decide⟩
      · exact ⟨p2, ["a", "", " ", "a ", "keep"], rfl, g2, a2, by decide, by decide, by unfold Wd; decide⟩
      · exact ⟨p3, ["-", "+a", "ab", "a", "A"], rfl, g3, a3, by decide, by decide, by unfold Wd; decide⟩
    have hw1 := b1 _ _ hw hne.symm
    refine ⟨_, rfl, _, rfl, _, _, rfl, rfl, a, m + 1, rfl, hp1, by omega, by omega, fun r H2 r0 r1 hp2 b2 => ?_⟩
    have hw2 := b2 _ _ hw1 hne.symm
    refine ⟨r, rfl, by omega, by omega, fun c nc => ?_⟩
    have hac := hp2.ne nc
    have hHc : H c = none := by
      cases e : H c with
      | none => rfl
      | some o =>
        have := b2 _ _ (b1 _ _ (sm _ _ e) hac.symm) hac.symm
        rw [nc] at this; cases this
    refine lc_range (n := r.toNat) (fun j H' => PotAt H' a ∧ But a H2 H' ∧ ∃ ss : List Str, H' c = some (.lst (ss.map V.str)) ∧ Wd ss ∧ ss.length = j) ⟨hp2.upd hac, (But.refl a H2).new nc, [], upd_same, (fun s h => by cases h), rfl⟩ ?_ ?_
    · rintro j H' hj ⟨hp', b', ss, hc, hwd', hl⟩
      refine ⟨rfl, ?_⟩
      unfold tYes
      dsimp only
      rw [if_pos rfl]
      have hw' := b' _ _ hw2 hne.symm
      refine ⟨_, rfl, _, rfl, a, pw, ws.map V.str, rfl, hp', hw', hne, by rw [List.length_map]; exact w0, by rw [List.length_map]; omega, fun x H3 hx hp3 b3 => ?_⟩
      obtain ⟨s, hs, rfl⟩ := List.mem_map.mp hx
      have hc3 := b3 _ _ hc hac.symm
      refine ⟨_, hc3, ?_, hp3.upd hac, ?_, ss ++ [s], ?_, ?_, ?_⟩
      · rw [List.length_map, hl]
        exact Nat.lt_of_lt_of_le hj (Nat.le_trans (show r.toNat ≤ 101 by omega) (by decide))
      · intro b o hb hn
        have hb' := b3 _ _ (b' _ _ hb hn) hn
        by_cases e : b = c
        · subst e; rw [nc] at hb; cases hb
        · rw [upd_ne e]; exact hb'
      · rw [upd_same, List.map_append]; rfl
      · intro y hy
        rcases List.mem_append.mp hy with hy | hy
        · exact hwd' y hy
        · rw [List.mem_singleton.mp hy]; exact hwd s hs
      · rw [List.length_append, hl]; rfl
    · rintro H' ⟨hp', b', ss, hc, hwd', hl⟩
      exact z c ss H' hp' (fun b o hb hn => b' _ _ (b2 _ _ (b1 _ _ (sm _ _ hb) hn) hn) hn) hHc hc hwd' (by omega)
end
end K14
namespace XR
open PySem L2
theorem But.fresh {a p : Addr} {H H' : Hp} (b : But a H H') (h : PotAt H' a) (n : H' p = none) : H p = none := by
  cases e : H p with
  | none => rfl
  | some o =>
    have := b _ _ e (h.ne n).symm
    rw [n] at this; cases this
theorem cut_to (ss : List Str) {m : Int} (h : 0 ≤ m) : cutV (ss.map V.str) none (some m) = (ss.take m.toNat).map V.str := by
  unfold cutV HT.sIx
  simp only [List.drop_zero, Nat.sub_zero, if_neg (show ¬ m < 0 by omega), List.length_map]
  rw [← List.map_take]
  congr 1
  by_cases q : m.toNat ≤ ss.length
  · rw [Nat.min_eq_left q]
  · rw [Nat.min_eq_right (by omega), List.take_of_length_le (Nat.le_refl _), List.take_of_length_le (by omega)]
theorem Wd.take {ss : List Str} (h : Wd ss) (n : Nat) : Wd (ss.take n) := fun s hs => h s (List.mem_of_mem_take hs)
theorem Wd.append {ss ts : List Str} (h : Wd ss) (k : Wd ts) : Wd (ss ++ ts) := fun s hs => by
  rcases List.mem_append.mp hs with hs | hs
  · exact h s hs
  · exact k s hs
theorem Wd.one {s : Str} (h : s ∈ words) : Wd [s] := fun x hx => by rw [List.mem_singleton.mp hx]; exact h
theorem Wd.two {s t : Str} (h : s ∈ words) (k : t ∈ words) : Wd [s, t] := fun x hx => by
  simp only [List.mem_cons, List.not_mem_nil, or_false] at hx
  rcases hx with rfl | rfl
  · exact h
  · exact k
/-- a text near another one -/
def spNear : Sp := fun vs H Q _ => ∃ (a l : Addr) (ls : List Str) (m : Int), vs = [.ref a, .ref l, .int m] ∧ PotAt H a ∧ H l = some (.lst (ls.map V.str)) ∧ a ≠ l ∧ Wd ls ∧ ls.length ≤ 60 ∧ 0 ≤ m ∧ m ≤ 100 ∧
  ∀ (p : Addr) (ss : List Str) H', PotAt H' a → But a H H' → H p = none → H' p = some (.lst (ss.map V.str)) → Wd ss → (ss.length : Int) ≤ m → Q (.ref p) H'
end XR
namespace K14
open PySem L2 XR
abbrev sNear : Stmt := top 40
section
variable {P : Program} {w : World} {K : PySem.W.Frag} {mg : Str → Option Value} {base : Heap}
theorem scNear : FnScope ["_law_pot_here", "_law_lines", "_law_most", "_law_found", "_law_line", "_law_way"] ["_law_pot_here", "_law_lines", "_law_most"] (defScope sNear) := ⟨rfl, rfl, rfl, by decide +kernel, rfl, by decide +kernel, by decide +kernel⟩
theorem ok_near {f fD fP : Addr} {fd fdD fdP : FuncData} (F : Fun K "_law_near" "_law_near" sNear f fd) (T : Blt mg) (D : Draws P w K mg base fD fP fdD fdP) : FnOk P w K mg base CX0 3 f fd ["_law_pot_here", "_law_lines", "_law_most"] spNear := by
  refine F.ok scNear (fun vs H Q E h => ?_) (fun cdv A outer s H vs Q E hr h => ?_)
  · obtain ⟨a, l, ls, m, rfl, _⟩ := h
    rfl
  · obtain ⟨a, l, ls, m, rfl, hpot, hl, hal, wl, l60, m0, m1, z⟩ := h
    refine ⟨_, pss_cons (ps_set (i := 3) scNear.nd rfl (.inl rfl) (pe_lst pa_nil))
      (pss_cons (ps_for PassesOwn.never rfl (pi_list (pv 1)) (pg_name (i := 4) scNear.nd rfl (.inl rfl))
        (pss_cons (ps_set (i := 5) scNear.nd rfl (.inl rfl) (pe_call D.GD (hr.mono (by decide)) rfl D.mD D.FD.kp D.bD .nil pass0 (pa_cons (pv 0) (pa_cons pe_int pa_nil))))
        (pss_one (ps_set (i := 3) scNear.nd rfl (.inl rfl) (pe_op op_cat (pv 3) (pe_ix ix_list (pe_lst
          (pa_cons (pe_lst (pa_cons (pv 4) pa_nil)) (pa_cons (pe_lst (pa_cons (pv 4) pa_nil)) (pa_cons (pe_lst (pa_cons (pv 4) pa_nil)) (pa_cons (pe_lst pa_nil) (pa_cons (pe_lst (pa_cons (pv 4) (pa_cons (pv 4) pa_nil)))
          (pa_cons (pe_lst (pa_cons (pe_call D.GP hr rfl D.mP D.FP.kp D.bP .nil pass0 (pa_cons (pv 0) (pa_cons (pe_lst (pa_cons pe_str (pa_cons pe_str (pa_cons pe_str pa_nil)))) pa_nil))) (pa_cons (pv 4) pa_nil))) pa_nil))))))) (pv 5) (fun _ _ => rfl)))))))
      (pss_one (ps_ret (pe_slice sl_list (pv 3) po_none (po_some (pv 2)))))), ?_⟩
    refine ⟨ll20 (by decide), fun p0 n0 => ?_⟩
    refine ⟨_, rfl, l, rfl, ⟨_, SqL.of ((same_upd n0) _ _ hl)⟩, ?_⟩
    refine for_list (xs := ls.map V.str) (fun i σ H' => PotAt H' a ∧ But a H H' ∧ ∃ pf fs x4 x5, σ = [some (V.ref a), some (V.ref l), some (V.int m), some (V.ref pf), x4, x5] ∧ H pf = none ∧ H' pf = some (.lst (fs.map V.str)) ∧ Wd fs ∧ fs.length ≤ 2 * i)
      ⟨hpot.upd (hpot.ne n0), (But.refl a H).new n0, p0, [], _, _, rfl, n0, upd_same, (fun s h => by cases h), Nat.le_refl _⟩ (fun i σ H' hi ⟨_, hb, _⟩ => SqL.of (hb _ _ hl hal.symm)) ?_ ?_
    · rintro i x σ G hx ⟨hp, hb, pf, fs, x4, x5, rfl, npf, hpf, wf, lf⟩
      rw [List.getElem?_map] at hx
      obtain ⟨ln, hln, rfl⟩ := Option.map_eq_some_iff.mp hx
      have hi : i < ls.length := (List.getElem?_eq_some_iff.mp hln).1
      have lnw : ln ∈ words := wl _ (List.mem_of_getElem? hln)
      have haf : a ≠ pf := by
        intro e
        obtain ⟨_, _, e2, _⟩ := hpot
        rw [e, npf] at e2; cases e2
      refine ⟨_, rfl, a, 6, rfl, hp, by decide, by decide, fun r G1 r0 r1 hp1 b1 => ?_⟩
      have hf1 := b1 _ _ hpf haf.symm
      refine ⟨_, rfl, _, rfl, ll20 (by show 1 ≤ 20; decide), fun q0 k0 => ⟨_, rfl, ll20 (by show 1 ≤ 20; decide), fun q1 k1 => ⟨_, rfl, ll20 (by show 1 ≤ 20; decide), fun q2 k2 => ⟨ll20 (by decide), fun q3 k3 => ⟨_, rfl, _, rfl, ll20 (by show 2 ≤ 20; decide), fun q4 k4 => ⟨_, rfl, ll20 (by show 3 ≤ 20; decide), fun q5 k5 => ?_⟩⟩⟩⟩⟩⟩
      have s0 := same_upd (o := .lst [V.str ln]) k0
      have s1 := same_upd (o := .lst [V.str ln]) k1
      have s2 := same_upd (o := .lst [V.str ln]) k2
      have s3 := same_upd (o := .lst []) k3
      have s4 := same_upd (o := .lst [V.str ln, V.str ln]) k4
      have s5 := same_upd (o := .lst [V.str "a", V.str "b", V.str "new"]) k5
      have g0 := s5 _ _ (s4 _ _ (s3 _ _ (s2 _ _ (s1 _ _ (upd_same (H := G1) (a := q0) (o := .lst [V.str ln]))))))
      have g1 := s5 _ _ (s4 _ _ (s3 _ _ (s2 _ _ (upd_same (a := q1) (o := .lst [V.str ln])))))
      have g2 := s5 _ _ (s4 _ _ (s3 _ _ (upd_same (a := q2) (o := .lst [V.str ln]))))
      have g3 := s5 _ _ (s4 _ _ (upd_same (a := q3) (o := .lst [])))
      have g4 := s5 _ _ (upd_same (a := q4) (o := .lst [V.str ln, V.str ln]))
      have g5 := upd_same (H := upd (upd (upd (upd (upd G1 q0 (.lst [V.str ln])) q1 (.lst [V.str ln])) q2 (.lst [V.str ln])) q3 (.lst [])) q4 (.lst [V.str ln, V.str ln])) (a := q5) (o := .lst [V.str "a", V.str "b", V.str "new"])
      have a0 := hp1.ne k0
      have a1 := (hp1.same s0).ne k1
      have a2 := ((hp1.same s0).same s1).ne k2
      have a3 := (((hp1.same s0).same s1).same s2).ne k3
      have a4 := ((((hp1.same s0).same s1).same s2).same s3).ne k4
      have a5 := (((((hp1.same s0).same s1).same s2).same s3).same s4).ne k5
      have sm := s0.trans (s1.trans (s2.trans (s3.trans (s4.trans s5))))
      have hpG := hp1.same sm
      have hfG := sm _ _ hf1
      refine ⟨a, q5, [V.str "a", V.str "b", V.str "new"], rfl, hpG, g5, a5, by show 0 < 3; decide, by show 3 ≤ 1000; decide, fun x G3 hx3 hp3 b3 => ?_⟩
      clear s0 s1 s2 s3 s4 s5 k0 k1 k2 k3 k4 k5
      generalize upd (upd (upd (upd (upd (upd G1 q0 (.lst [V.str ln])) q1 (.lst [V.str ln])) q2 (.lst [V.str ln])) q3 (.lst [])) q4 (.lst [V.str ln, V.str ln])) q5 (.lst [V.str "a", V.str "b", V.str "new"]) = G2 at g0 g1 g2 g3 g4 g5 sm hpG hfG b3
      obtain ⟨xs, rfl, xw⟩ : ∃ xs : Str, x = .str xs ∧ xs ∈ words := by
        simp only [List.mem_cons, List.not_mem_nil, or_false] at hx3
        rcases hx3 with rfl | rfl | rfl
        · exact ⟨_, rfl, by decide⟩
        · exact ⟨_, rfl, by decide⟩
        · exact ⟨_, rfl, by decide⟩
      refine ⟨_, rfl, ll20 (by show 2 ≤ 20; decide), fun q6 k6 => ⟨ll20 (by show 6 ≤ 20; decide), fun q7 k7 => ?_⟩⟩
      have s6 := same_upd (o := .lst [V.str xs, V.str ln]) k6
      have s7 := same_upd (o := .lst [V.ref q0, V.ref q1, V.ref q2, V.ref q3, V.ref q4, V.ref q6]) k7
      have s67 := s6.trans s7
      have h0 := s67 _ _ (b3 _ _ g0 a0.symm)
      have h1 := s67 _ _ (b3 _ _ g1 a1.symm)
      have h2 := s67 _ _ (b3 _ _ g2 a2.symm)
      have h3 := s67 _ _ (b3 _ _ g3 a3.symm)
      have h4 := s67 _ _ (b3 _ _ g4 a4.symm)
      have h6 := s7 _ _ (upd_same (H := G3) (a := q6) (o := .lst [V.str xs, V.str ln]))
      have h7 := upd_same (H := upd G3 q6 (.lst [V.str xs, V.str ln])) (a := q7) (o := .lst [V.ref q0, V.ref q1, V.ref q2, V.ref q3, V.ref q4, V.ref q6])
      have hf7 := s67 _ _ (b3 _ _ hfG haf.symm)
      have hp7 := hp3.same s67
      have b7 : But a H (upd (upd G3 q6 (.lst [V.str xs, V.str ln])) q7 (.lst [V.ref q0, V.ref q1, V.ref q2, V.ref q3, V.ref q4, V.ref q6])) := fun b o e n => s67 _ _ (b3 _ _ (sm _ _ (b1 _ _ (hb _ _ e n) n)) n)
      clear s6 s7 s67 k6 k7
      generalize upd (upd G3 q6 (.lst [V.str xs, V.str ln])) q7 (.lst [V.ref q0, V.ref q1, V.ref q2, V.ref q3, V.ref q4, V.ref q6]) = G7 at h0 h1 h2 h3 h4 h6 h7 hf7 hp7 b7
      obtain ⟨v, pl, lz, hv, rfl, hz, wz, lz2⟩ : ∃ v pl lz, ([V.ref q0, V.ref q1, V.ref q2, V.ref q3, V.ref q4, V.ref q6] : List V)[r.toNat]? = some v ∧ v = .ref pl ∧ G7 pl = some (.lst (lz.map V.str)) ∧ Wd lz ∧ lz.length ≤ 2 := by
        have hr6 : r.toNat = 0 ∨ r.toNat = 1 ∨ r.toNat = 2 ∨ r.toNat = 3 ∨ r.toNat = 4 ∨ r.toNat = 5 := by omega
        rcases hr6 with e | e | e | e | e | e <;> rw [e]
        · exact ⟨_, q0, [ln], rfl, rfl, h0, .one lnw, by show 1 ≤ 2; decide⟩
        · exact ⟨_, q1, [ln], rfl, rfl, h1, .one lnw, by show 1 ≤ 2; decide⟩
        · exact ⟨_, q2, [ln], rfl, rfl, h2, .one lnw, by show 1 ≤ 2; decide⟩
        · exact ⟨_, q3, [], rfl, rfl, h3, (fun s h => by cases h), by decide⟩
        · exact ⟨_, q4, [ln, ln], rfl, rfl, h4, .two lnw lnw, by show 2 ≤ 2; decide⟩
        · exact ⟨_, q6, [xs, ln], rfl, rfl, h6, .two xw lnw, by show 2 ≤ 2; decide⟩
      have er : ((r.toNat : Nat) : Int) = r := by omega
      have ea := atI_nat hv
      rw [er] at ea
      refine ⟨_, rfl, q7, _, r, _, rfl, rfl, SqL.of h7, ea, ?_⟩
      refine ⟨pf, pl, _, _, rfl, rfl, hf7, hz, ?_, fun q8 k8 => ?_⟩
      · rw [List.length_map, List.length_map]
        exact Nat.le_trans (show fs.length + lz.length ≤ 200 by omega) (by decide)
      · refine ⟨hp7.upd (hp7.ne k8), b7.new k8, q8, fs ++ lz, _, _, rfl, b7.fresh hp7 k8, ?_, wf.append wz, ?_⟩
        · rw [upd_same, List.map_append]
        · rw [List.length_append]; omega
    · rintro σ G ⟨hp, hb, pf, fs, x4, x5, rfl, npf, hpf, wf, lf⟩
      refine ⟨_, rfl, _, rfl, m, rfl, pf, fs.map V.str, rfl, SqL.of hpf, fun q nq => ?_⟩
      refine z q (fs.take m.toNat) _ (hp.upd (hp.ne nq)) (hb.new nq) (hb.fresh hp nq) ?_ (wf.take _) ?_
      · rw [upd_same, cut_to fs m0]
      · rw [List.length_take]; omega
end
end K14
namespace XR
open PySem L2
/-- two drawn texts, in a new tuple -/
def spTwo : Sp := fun vs H Q _ => ∃ (a : Addr) (m : Int), vs = [.ref a, .int m] ∧ PotAt H a ∧ 0 ≤ m ∧ m ≤ 60 ∧
  ∀ (t p1 p2 : Addr) (ss1 ss2 : List Str) H', PotAt H' a → But a H H' → H t = none → H p1 = none → H p2 = none → H' t = some (.tup [.ref p1, .ref p2]) → H' p1 = some (.lst (ss1.map V.str)) → H' p2 = some (.lst (ss2.map V.str)) →
    Wd ss1 → Wd ss2 → (ss1.length : Int) ≤ m → (ss2.length : Int) ≤ m → Q (.ref t) H'
theorem But.ne {a p : Addr} {H H' : Hp} (b : But a H H') (h : PotAt H a) (n : H p = none) : a ≠ p := h.ne n
end XR
namespace K14
open PySem L2 XR
abbrev sTwo : Stmt := top 41
section
variable {P : Program} {w : World} {K : PySem.W.Frag} {mg : Str → Option Value} {base : Heap}
theorem scTwo : FnScope ["_law_pot_here", "_law_most", "_law_elder"] ["_law_pot_here", "_law_most"] (defScope sTwo) := ⟨rfl, rfl, rfl, by decide +kernel, rfl, by decide +kernel, by decide +kernel⟩
theorem ok_two {f fD fP fT fN : Addr} {fd fdD fdP fdT fdN : FuncData} (F : Fun K "_law_two" "_law_two" sTwo f fd) (T : Blt mg) (D : Draws P w K mg base fD fP fdD fdP)
    (FT : Fun K "_law_text" "_law_text" sText fT fdT) (bT : Binds K fdT ["_law_pot_here", "_law_most"] []) (mT : mg "_law_text" = some (.ref fT))
    (FN : Fun K "_law_near" "_law_near" sNear fN fdN) (bN : Binds K fdN ["_law_pot_here", "_law_lines", "_law_most"] []) (mN : mg "_law_near" = some (.ref fN)) : FnOk P w K mg base CX0 4 f fd ["_law_pot_here", "_law_most"] spTwo := by
  have GT := ok_text (P := P) (w := w) (base := base) FT T D
  have GN := ok_near (P := P) (w := w) (base := base) FN T D
  refine F.ok scTwo (fun vs H Q E h => ?_) (fun cdv A outer s H vs Q E hr h => ?_)
  · obtain ⟨a, m, rfl, _⟩ := h
    rfl
  · obtain ⟨a, m, rfl, hpot, m0, m1, z⟩ := h
    refine ⟨_, pss_cons (ps_set (i := 2) scTwo.nd rfl (.inl rfl) (pe_call GT hr rfl mT FT.kp bT .nil pass0 (pa_cons (pv 0) (pa_cons (pv 1) pa_nil))))
      (pss_one (ps_ret (pe_tup (pa_cons (pv 2) (pa_cons (pe_ifExp (pt_cmpR op_eq (pe_call D.GD (hr.mono (by decide)) rfl D.mD D.FD.kp D.bD .nil pass0 (pa_cons (pv 0) (pa_cons pe_int pa_nil))) pe_int (nomark _))
        (pe_call GT hr rfl mT FT.kp bT .nil pass0 (pa_cons (pv 0) (pa_cons (pv 1) pa_nil)))
        (pe_call GN hr rfl mN FN.kp bN .nil pass0 (pa_cons (pv 0) (pa_cons (pv 2) (pa_cons (pv 1) pa_nil))))) pa_nil))))), ?_⟩
    refine ⟨_, rfl, _, rfl, a, m, rfl, hpot, m0, by omega, fun p1 ss1 H1 hp1 b1 n1 h1 w1 l1 => ?_⟩
    have a1 := hpot.ne n1
    refine ⟨_, rfl, _, rfl, a, 3, rfl, hp1, by decide, by decide, fun r H2 r0 r1 hp2 b2 => ⟨rfl, _, rfl, ?_⟩⟩
    have h2 := b2 _ _ h1 a1.symm
    have fin : ∀ (p2 : Addr) (ss2 : List Str) H3, PotAt H3 a → But a H2 H3 → H2 p2 = none → H3 p2 = some (.lst (ss2.map V.str)) → Wd ss2 → (ss2.length : Int) ≤ m →
        ∀ t, H3 t = none → Q (.ref t) (upd H3 t (.tup [.ref p1, .ref p2])) := fun p2 ss2 H3 hp3 b3 n2 h3 w2 l2 t nt => by
      have s := same_upd (o := .tup [V.ref p1, V.ref p2]) nt
      have b13 : But a H H3 := (b1.trans b2).trans b3
      exact z t p1 p2 ss1 ss2 _ (hp3.same s) (b13.same s) (b13.fresh hp3 nt) n1 ((b1.trans b2).fresh hp2 n2) upd_same (s _ _ (b3 _ _ h2 a1.symm)) (s _ _ h3) w1 w2 l1 l2
    refine ite2 (fun _ => ?_) (fun _ => ?_)
    · refine ⟨_, rfl, _, rfl, a, m, rfl, hp2, m0, by omega, fun p2 ss2 H3 hp3 b3 n2 h3 w2 l2 => ⟨ll20 (by show 2 ≤ 20; decide), fun t nt => fin p2 ss2 H3 hp3 b3 n2 h3 w2 l2 t nt⟩⟩
    · refine ⟨_, rfl, _, rfl, _, rfl, a, p1, ss1, m, rfl, hp2, h2, a1, w1, by omega, m0, by omega, fun p2 ss2 H3 hp3 b3 n2 h3 w2 l2 => ⟨ll20 (by show 2 ≤ 20; decide), fun t nt => fin p2 ss2 H3 hp3 b3 n2 h3 w2 l2 t nt⟩⟩
end
end K14
namespace XR
open PySem L2
/-- a diff of two texts, as pairs of numbers -/
def IsDf (ss1 ss2 : List Str) (ps : List (Nat × Nat)) : Prop :=
  (∀ q, q ∈ ps → 1 ≤ q.1 ∧ q.1 ≤ ss1.length ∧ 1 ≤ q.2 ∧ q.2 ≤ ss2.length ∧ ∃ s : Str, ss1[q.1 - 1]? = some s ∧ ss2[q.2 - 1]? = some s) ∧ ps.Pairwise fun x y => x.1 < y.1 ∧ x.2 < y.2
def tupV (q : Nat × Nat) : HO := .tup [.int (q.1 : Int), .int (q.2 : Int)]
/-- rs: where the pairs stand -/
def PsAt (H : Hp) (rs : List Addr) (ps : List (Nat × Nat)) : Prop := rs.length = ps.length ∧ ∀ (i : Nat) (q : Nat × Nat), ps[i]? = some q → ∃ r : Addr, rs[i]? = some r ∧ H r = some (tupV q)
def refs (rs : List Addr) : List V := rs.map V.ref
/-- the diff at t -/
def DfAt (H : Hp) (t : Addr) (ps : List (Nat × Nat)) : Prop := ∃ rs, H t = some (.tup (refs rs)) ∧ PsAt H rs ps
theorem PsAt.same {H H' : Hp} {rs : List Addr} {ps : List (Nat × Nat)} (s : Same H H') (h : PsAt H rs ps) : PsAt H' rs ps :=
  ⟨h.1, fun i q hq => let ⟨r, h1, h2⟩ := h.2 i q hq; ⟨r, h1, s _ _ h2⟩⟩
theorem PsAt.but {a : Addr} {H H' : Hp} {rs : List Addr} {ps : List (Nat × Nat)} (b : But a H H') (hp : PotAt H a) (h : PsAt H rs ps) : PsAt H' rs ps :=
  ⟨h.1, fun i q hq => let ⟨r, h1, h2⟩ := h.2 i q hq; ⟨r, h1, b _ _ h2 (fun e => by obtain ⟨_, _, e2, _⟩ := hp; rw [e] at h2; rw [e2] at h2; cases h2)⟩⟩
theorem DfAt.same {H H' : Hp} {t : Addr} {ps : List (Nat × Nat)} (s : Same H H') (h : DfAt H t ps) : DfAt H' t ps :=
  let ⟨rs, h1, h2⟩ := h; ⟨rs, s _ _ h1, h2.same s⟩
theorem DfAt.but {a t : Addr} {H H' : Hp} {ps : List (Nat × Nat)} (b : But a H H') (hp : PotAt H a) (h : DfAt H t ps) : DfAt H' t ps :=
  let ⟨rs, h1, h2⟩ := h
  ⟨rs, b _ _ h1 (fun e => by obtain ⟨_, _, e2, _⟩ := hp; rw [e, e2] at h1; cases h1), h2.but b hp⟩
theorem PsAt.snoc {H : Hp} {rs : List Addr} {ps : List (Nat × Nat)} {r : Addr} {q : Nat × Nat} (h : PsAt H rs ps) (k : H r = some (tupV q)) : PsAt H (rs ++ [r]) (ps ++ [q]) := by
  refine ⟨by rw [List.length_append, List.length_append, h.1]; rfl, fun i q' hq => ?_⟩
  by_cases hi : i < ps.length
  · rw [List.getElem?_append_left hi] at hq
    obtain ⟨r', h1, h2⟩ := h.2 i q' hq
    exact ⟨r', by rw [List.getElem?_append_left (by rw [h.1]; exact hi)]; exact h1, h2⟩
  · have e : i = ps.length := by
      have := (List.getElem?_eq_some_iff.mp hq).1
      rw [List.length_append] at this
      have h2 : i < ps.length + 1 := this
      omega
    subst e
    rw [List.getElem?_append_right (Nat.le_refl _), Nat.sub_self] at hq
    have e2 : q = q' := Option.some.inj hq
    subst e2
    exact ⟨r, by rw [← h.1, List.getElem?_append_right (Nat.le_refl _), Nat.sub_self]; rfl, k⟩
theorem IsDf.snoc {ss1 ss2 : List Str} {ps : List (Nat × Nat)} {i j : Nat} {s : Str} (h : IsDf ss1 ss2 ps) (h1 : ss1[i]? = some s) (hj : 1 ≤ j) (h2 : ss2[j - 1]? = some s) (lt : ∀ q, q ∈ ps → q.1 < i + 1 ∧ q.2 < j) : IsDf ss1 ss2 (ps ++ [(i + 1, j)]) := by
  refine ⟨fun q hq => ?_, ?_⟩
  · rcases List.mem_append.mp hq with hq | hq
    · exact h.1 q hq
    · rw [List.mem_singleton.mp hq]
      have l1 := (List.getElem?_eq_some_iff.mp h1).1
      have l2 := (List.getElem?_eq_some_iff.mp h2).1
      refine ⟨by show 1 ≤ i + 1; omega, by show i + 1 ≤ _; omega, hj, by show j ≤ _; omega, s, ?_, h2⟩
      show ss1[i + 1 - 1]? = some s
      rw [Nat.add_sub_cancel]; exact h1
  · rw [List.pairwise_append]
    refine ⟨h.2, List.pairwise_singleton _ _, fun x hx y hy => ?_⟩
    rw [List.mem_singleton.mp hy]
    exact lt x hx
/-- a drawn diff, new -/
def spDiff : Sp := fun vs H Q _ => ∃ (a p1 p2 : Addr) (ss1 ss2 : List Str), vs = [.ref a, .ref p1, .ref p2] ∧ PotAt H a ∧ H p1 = some (.lst (ss1.map V.str)) ∧ H p2 = some (.lst (ss2.map V.str)) ∧ ss1.length ≤ 60 ∧ ss2.length ≤ 60 ∧
  ∀ (t : Addr) (ps : List (Nat × Nat)) H', PotAt H' a → But a H H' → H t = none → DfAt H' t ps → IsDf ss1 ss2 ps → Q (.ref t) H'
theorem lst_ne {a p : Addr} {H : Hp} {ss : List Str} (h : PotAt H a) (k : H p = some (.lst (ss.map V.str))) : a ≠ p := fun e => by
  obtain ⟨x, y, e2, _⟩ := h
  rw [← e, e2] at k
  have k2 := Option.some.inj k
  injection k2 with k2
  cases ss with
  | nil => cases k2
  | cons s ss => injection k2 with k3 _; cases k3
theorem lay_all : ∀ js : List Int, PyData.canLayAll0 (js.map PyData.int) = true ∧ PyData.depthAll (js.map PyData.int) ≤ 1
  | [] => ⟨by simp [PyData.canLayAll0], by simp [PyData.depthAll]⟩
  | j :: js => by
    obtain ⟨h1, h2⟩ := lay_all js
    exact ⟨by simp [PyData.canLayAll0, PyData.canLay0, h1], by simp [PyData.depthAll, PyData.depth]; omega⟩
theorem int_lay (js : List Int) : SeqAt.shaped (.list (js.map PyData.int)) = true := by
  obtain ⟨h1, h2⟩ := lay_all js
  unfold SeqAt.shaped
  rw [Bool.and_eq_true]
  refine ⟨by simp only [PyData.canLay0, h1], ?_⟩
  rw [decide_eq_true_eq]
  have e : (PyData.list (js.map PyData.int)).depth = PyData.depthAll (js.map PyData.int) + 1 := by simp only [PyData.depth]
  have e2 : (64 : Nat) = 64 := rfl
  omega
theorem dpInts {K : PySem.W.Frag} {H : Hp} : ∀ js : List Int, DpAll K H (js.map V.int) (js.map PyData.int)
  | [] => .nil
  | j :: js => .cons (.int j) (dpInts js)
end XR
namespace K14
open PySem L2 XR
abbrev sDiff : Stmt := top 42
section
variable {P : Program} {w : World} {K : PySem.W.Frag} {mg : Str → Option Value} {base : Heap}
theorem scDiff : FnScope ["_law_pot_here", "_law_elder", "_law_newer", "_law_found", "_law_last", "_law_far", "_law_k", "_law_line", "_law_some", "_law_j"] ["_law_pot_here", "_law_elder", "_law_newer"] (defScope sDiff) := ⟨rfl, rfl, rfl, by decide +kernel, rfl, by decide +kernel, by decide +kernel⟩
end
end K14
namespace XR
open PySem L2
theorem PotAt.lst_ne {a p : Addr} {H : Hp} {xs : List V} (h : PotAt H a) (k : H p = some (.tup xs)) : a ≠ p := fun e => by
  obtain ⟨x, y, e2, _⟩ := h
  rw [← e, e2] at k
  cases k
theorem cut_ints (js : List Int) {m : Int} (h : 0 ≤ m) : cutV (js.map V.int) none (some m) = (js.take m.toNat).map V.int := by
  unfold cutV HT.sIx
  simp only [List.drop_zero, Nat.sub_zero, if_neg (show ¬ m < 0 by omega), List.length_map]
  rw [← List.map_take]
  congr 1
  by_cases q : m.toNat ≤ js.length
  · rw [Nat.min_eq_left q]
  · rw [Nat.min_eq_right (by omega), List.take_of_length_le (Nat.le_refl _), List.take_of_length_le (by omega)]
theorem str_of_map {ss : List Str} {i : Nat} {v : V} (h : (ss.map V.str)[i]? = some v) : ∃ s : Str, v = .str s ∧ ss[i]? = some s := by
  rw [List.getElem?_map] at h
  obtain ⟨s, h1, rfl⟩ := Option.map_eq_some_iff.mp h
  exact ⟨s, rfl, h1⟩
theorem PsAt.nil {H : Hp} : PsAt H [] [] := ⟨rfl, fun i q h => by simp at h⟩
theorem IsDf.nil {ss1 ss2 : List Str} : IsDf ss1 ss2 [] := ⟨fun q h => (by cases h), List.Pairwise.nil⟩
theorem PsAt.updL {H : Hp} {rs : List Addr} {ps : List (Nat × Nat)} {p : Addr} {xs ys : List V} (h : PsAt H rs ps) (k : H p = some (.lst xs)) : PsAt (upd H p (.lst ys)) rs ps :=
  ⟨h.1, fun i q hq => let ⟨r, h1, h2⟩ := h.2 i q hq; ⟨r, h1, by rw [upd_ne (fun e => by rw [e, k] at h2; cases h2)]; exact h2⟩⟩
theorem eqv_nil (x : PyData) (xs : List PyData) : PyData.eqv (.list (x :: xs)) (.list []) = false := by simp [PyData.eqv, PyData.eqvAll]
theorem eqv_nil0 : PyData.eqv (.list []) (.list []) = true := by simp [PyData.eqv, PyData.eqvAll]
end XR
namespace K14
open PySem L2 XR
section
variable {P : Program} {w : World} {K : PySem.W.Frag} {mg : Str → Option Value} {base : Heap}
theorem ok_diff {f fD fP : Addr} {fd fdD fdP : FuncData} (F : Fun K "_law_diff" "_law_diff" sDiff f fd) (T : Blt mg) (D : Draws P w K mg base fD fP fdD fdP) : FnOk P w K mg base CX0 3 f fd ["_law_pot_here", "_law_elder", "_law_newer"] spDiff := by
  refine F.ok scDiff (fun vs H Q E h => ?_) (fun cdv A outer s H vs Q E hr h => ?_)
  · obtain ⟨a, p1, p2, ss1, ss2, rfl, _⟩ := h
    rfl
  · obtain ⟨a, p1, p2, ss1, ss2, rfl, hpot, hl1, hl2, l1, l2, z⟩ := h
    refine ⟨_, pss_cons (ps_par3 (i := 3) (j := 4) (l := 5) rfl scDiff.nd rfl rfl rfl (by decide) (by decide) (by decide) rfl rfl rfl (pa_cons (pe_lst pa_nil) (pa_cons pe_int (pa_cons (pe_call D.GP hr rfl D.mP D.FP.kp D.bP .nil pass0 (pa_cons (pv 0) (pa_cons (pe_lst (pa_cons pe_int (pa_cons pe_int (pa_cons pe_int pa_nil)))) pa_nil))) pa_nil))) rfl)
      (pss_cons (ps_for PassesOwn.never rfl (pi_enum (by rfl) T.enum (pa_cons (pv 1) pa_nil)) (pg_tup rfl (pgs_cons (pg_name (i := 6) scDiff.nd rfl (.inl rfl)) (pgs_cons (pg_name (i := 7) scDiff.nd rfl (.inr rfl)) pgs_nil)))
        (pss_cons (ps_set (i := 8) scDiff.nd rfl (.inl rfl) (pe_slice sl_list (pe_lc (own := [("_law_j", 9)]) (g := gName 9) (tt := tTest (tOp rEq (tOp (rIxL K) (tVar 2) (tOp (rI0 fun i j => V.int (i - j)) (tVar 9) (tC (V.int 1)))) (tVar 7))) (te := tVar 9) rfl scDiff.nd
            (pi_range2 rfl T.range (pa_cons (pe_op op_add (pv 4) pe_int) (pa_cons (pe_op op_add (pe_callB call_len_seq (by rfl) T.len PySem.boot_len (pa_cons (pv 2) pa_nil)) pe_int) pa_nil)))
            (blkOk_by (own := [("_law_j", 9)]) (N := ["_law_pot_here", "_law_elder", "_law_newer", "_law_found", "_law_last", "_law_far", "_law_k", "_law_line", "_law_some", "_law_j"]) (sc := defScope sDiff) (by decide +kernel))
            (fun _ _ _ _ _ => pg_name (i := 9) scDiff.nd rfl (Or.inl rfl)) (fun _ _ _ _ _ => pts_one (pt_cmpR op_eq (pe_ix ix_list (pv 2) (pe_op op_sub (pv 9) pe_int) (fun _ _ => rfl)) (pv 7) (nomark _))) (fun _ _ _ _ _ => pv 9)) po_none (po_some (pv 5))))
        (pss_one (ps_if (PW.pt (pw_and (pt_cmpR (op_neD hr.units) (pv 8) (pe_lst pa_nil) (nomark _)) (pw_and1 (pt_cmpR op_gt (pe_call D.GD (hr.mono (by decide)) rfl D.mD D.FD.kp D.bD .nil pass0 (pa_cons (pv 0) (pa_cons pe_int pa_nil))) pe_int (nomark _)))))
          (pss_cons (ps_set (i := 4) scDiff.nd rfl (.inl rfl) (pe_call D.GP hr rfl D.mP D.FP.kp D.bP .nil pass0 (pa_cons (pv 0) (pa_cons (pv 8) pa_nil))))
          (pss_one (ps_expr (pe_bm PySem.F.plainAttrs_list PySem.F.slot_list_append PySem.F.type_list_append mt_append (pv 3) (pa_cons (pe_tup (pa_cons (pe_op op_add (pv 6) pe_int) (pa_cons (pv 4) pa_nil))) pa_nil)))))
          pss_nil))))
      (pss_one (ps_ret (pe_callTy call_tuple_of (by rfl) (T.all "tuple" (by decide)) (by decide +kernel) (pa_cons (pv 3) pa_nil))))), ?_⟩
    refine ⟨ll20 (by decide), fun pf nf => ⟨_, rfl, ll20 (by show 3 ≤ 20; decide), fun q k => ?_⟩⟩
    have s0 := same_upd (o := .lst []) nf
    have s1 := same_upd (o := .lst [V.int 1, V.int 2, V.int 60]) k
    have af := hpot.ne nf
    have aq := (hpot.same s0).ne k
    have hpf := s1 _ _ (upd_same (H := H) (a := pf) (o := .lst []))
    have hq := upd_same (H := upd H pf (.lst [])) (a := q) (o := .lst [V.int 1, V.int 2, V.int 60])
    have sm := s0.trans s1
    refine ⟨a, q, [V.int 1, V.int 2, V.int 60], rfl, hpot.same sm, hq, aq, by show 0 < 3; decide, by show 3 ≤ 1000; decide, fun x G hx hp0 b0 => ?_⟩
    generalize upd (upd H pf (.lst [])) q (.lst [V.int 1, V.int 2, V.int 60]) = G0 at sm hpf hq b0
    obtain ⟨fr, rfl, fr1⟩ : ∃ fr : Int, x = .int fr ∧ 0 ≤ fr := by
      simp only [List.mem_cons, List.not_mem_nil, or_false] at hx
      rcases hx with rfl | rfl | rfl
      · exact ⟨1, rfl, by decide⟩
      · exact ⟨2, rfl, by decide⟩
      · exact ⟨60, rfl, by decide⟩
    have bG : But a H G := fun b o h n => b0 _ _ (sm _ _ h) n
    have hpfG := b0 _ _ hpf af.symm
    clear s0 s1 k hq
    refine ⟨_, _, _, rfl, ?_⟩
    refine ⟨_, rfl, p1, _, rfl, SqL.of (bG _ _ hl1 (lst_ne hpot hl1).symm), ?_⟩
    refine for_it walk_enum (fun i σ H' => PotAt H' a ∧ But a H H' ∧ ∃ (rs : List Addr) (ps : List (Nat × Nat)) (last : Nat) (x6 x7 x8 x9 : Option V), σ = [some (V.ref a), some (V.ref p1), some (V.ref p2), some (V.ref pf), some (V.int (last : Int)), some (V.int fr), x6, x7, x8, x9] ∧
      H' pf = some (.lst (refs rs)) ∧ PsAt H' rs ps ∧ IsDf ss1 ss2 ps ∧ (∀ q, q ∈ ps → q.1 ≤ i ∧ q.2 ≤ last) ∧ last ≤ 60 ∧ ps.length ≤ i)
      ⟨hp0, bG, [], [], 0, _, _, _, _, rfl, hpfG, .nil, .nil, (fun q h => nomatch h), by decide, Nat.le_refl _⟩
      (fun i σ H' hi ⟨_, hb, _⟩ => SqL.of (hb _ _ hl1 (lst_ne hpot hl1).symm)) ?_ ?_
    · rintro i x σ Ha Hb hi ⟨hp, hb, rs, ps, last, x6, x7, x8, x9, rfl, hf, hps, hdf, hlast, last60, psl⟩ ⟨t, y1, y2, rfl, nt, rfl, hy1, hy2⟩
      cases hy1
      obtain ⟨ln, rfl, hln⟩ := str_of_map hy2
      rw [List.length_map] at hi
      have st := same_upd (o := .tup [V.int (i : Nat), V.str ln]) nt
      have hp1 := hp.same st
      have hb1 := hb.same st
      have hf1 := st _ _ hf
      have hps1 := hps.same st
      refine ⟨t, _, rfl, .inl (.inl upd_same), rfl, ?_⟩
      generalize upd Ha t (.tup [V.int (i : Nat), V.str ln]) = Hb at st hp1 hb1 hf1 hps1 ⊢
      have hl2b := hb1 _ _ hl2 (lst_ne hpot hl2).symm
      refine ⟨_, _, rfl, _, _, rfl, rfl, ?_⟩
      refine ⟨_, rfl, _, _, rfl, rfl, _, rfl, p2, _, rfl, .inl (SqL.of hl2b), _, _, rfl, rfl, ?_⟩
      rw [List.length_map]
      refine ⟨_, _, rfl, ⟨by omega, by omega, by omega, by omega⟩, fun c nc => ?_⟩
      have sc0 := same_upd (o := .lst []) nc
      refine lc_range (lo := (last : Int) + 1) (n := (((ss2.length : Nat) : Int) + 1 - ((last : Int) + 1)).toNat) (fun j H' => PotAt H' a ∧ Same Hb H' ∧ ∃ js : List Int, H' c = some (.lst (js.map V.int)) ∧ (∀ x, x ∈ js → (last : Int) < x ∧ ss2[(x - 1).toNat]? = some ln) ∧ js.length ≤ j)
        ⟨hp1.same sc0, sc0, [], upd_same, (fun x h => nomatch h), Nat.le_refl _⟩ ?_ ?_
      · rintro j H' hj ⟨hp', sm', js, hc, hjs, ljs⟩
        have hl2' := sm' _ _ hl2b
        have hlt : last + j < ss2.length := by omega
        have ei : (last : Int) + 1 + (j : Int) - 1 = ((last + j : Nat) : Int) := by omega
        refine ⟨rfl, ?_⟩
        refine ⟨_, rfl, _, rfl, _, _, rfl, rfl, p2, _, _, V.str ss2[last + j], rfl, rfl, SqL.of hl2', ?_, _, rfl, rfl, _, rfl, ?_⟩
        · rw [ei]
          exact atI_nat (by rw [List.getElem?_map, List.getElem?_eq_getElem hlt]; rfl)
        · have nc' : ∀ b o, Hb b = some o → b ≠ c := fun b o h => ne_of_none h nc
          refine ite2 (fun h1 => ?_) (fun h1 => ?_)
          · have h2 : ss2[last + j] = ln := by
              have := of_decide_eq_true h1
              injection this
            refine ⟨_, rfl, _, hc, ?_, hp'.upd (fun e => ?_), fun b o h => ?_, js ++ [(last : Int) + 1 + (j : Int)], ?_, ?_, ?_⟩
            · rw [List.length_map]
              exact Nat.lt_of_le_of_lt ljs (Nat.lt_of_lt_of_le (show j < 61 by omega) (by decide))
            · obtain ⟨x, y, e2, _⟩ := hp1
              rw [e, nc] at e2; cases e2
            · rw [upd_ne (nc' b o h)]; exact sm' _ _ h
            · rw [upd_same, List.map_append]; rfl
            · intro x hx
              rcases List.mem_append.mp hx with hx | hx
              · exact hjs x hx
              · rw [List.mem_singleton.mp hx]
                refine ⟨by omega, ?_⟩
                rw [show ((last : Int) + 1 + (j : Int) - 1).toNat = last + j by omega, List.getElem?_eq_getElem hlt, h2]
            · rw [List.length_append]; simp; omega
          · exact ⟨hp', sm', js, hc, hjs, by omega⟩
      · rintro Hd ⟨hp', sm', js, hc, hjs, ljs⟩
        refine ⟨_, rfl, fr, rfl, c, _, rfl, SqL.of hc, fun u nu => ?_⟩
        rw [cut_ints js fr1]
        have hjt : ∀ x, x ∈ js.take fr.toNat → (last : Int) < x ∧ ss2[(x - 1).toNat]? = some ln := fun x hx => hjs x (List.mem_of_mem_take hx)
        have ljt : (js.take fr.toNat).length ≤ 61 := by rw [List.length_take]; omega
        have hu := upd_same (H := Hd) (a := u) (o := .lst ((js.take fr.toNat).map V.int))
        have su := same_upd (o := .lst ((js.take fr.toNat).map V.int)) nu
        have sall := sm'.trans su
        have hpu := hp'.same su
        have au : a ≠ u := hp'.ne nu
        generalize js.take fr.toNat = jt at hjt ljt hu su sall hpu ⊢
        generalize upd Hd u (.lst (jt.map V.int)) = He at hu su sall hpu ⊢
        clear su hc nu
        refine ⟨_, rfl, ll20 (by decide), fun e1 ne1 => ?_⟩
        have se := same_upd (o := .lst []) ne1
        refine ⟨.list (jt.map .int), .list [], .lst (SqL.of (se _ _ hu)) (dpInts _), .lst (SqL.of upd_same) .nil, int_lay _, int_lay [], _, rfl, ?_⟩
        have sf := sall.trans se
        have hpf' := hpu.same se
        have huf := se _ _ hu
        generalize upd He e1 (.lst []) = Hf at sf hpf' huf ⊢
        clear se ne1 hu
        have bf := hb1.same sf
        have stay : ∀ (Hz : Hp), PotAt Hz a → But a Hf Hz → (Hz pf = some (.lst (refs rs)) ∧ PsAt Hz rs ps ∧ IsDf ss1 ss2 ps ∧ (∀ q, q ∈ ps → q.1 ≤ i + 1 ∧ q.2 ≤ last) ∧ last ≤ 60 ∧ ps.length ≤ i + 1) := fun Hz hz bz =>
          ⟨bz _ _ (sf _ _ hf1) af.symm, (hps1.same sf).but bz hpf', hdf, fun q hq => ⟨Nat.le_succ_of_le (hlast q hq).1, (hlast q hq).2⟩, last60, by omega⟩
        cases jt with
        | nil =>
          rw [show PyData.eqv (.list ([].map PyData.int)) (.list []) = true from eqv_nil0]
          exact iteF (iteF ⟨hpf', bf, rs, ps, last, _, _, _, _, rfl, stay Hf hpf' (But.refl a Hf)⟩)
        | cons j0 jt =>
          rw [show PyData.eqv (.list ((j0 :: jt).map PyData.int)) (.list []) = false from eqv_nil _ _]
          refine iteT ⟨_, rfl, a, 4, rfl, hpf', by decide, by decide, fun r Hg r0 r1 hpg bg => ⟨_, _, rfl, rfl, _, rfl, ?_⟩⟩
          have hug := bg _ _ huf au.symm
          refine ite2 (fun _ => ?_) (fun _ => ?_)
          · refine ⟨_, rfl, _, rfl, a, u, _, rfl, hpg, hug, au, by simp, by rw [List.length_map]; exact Nat.le_trans ljt (by decide), fun x Hh hx hph bh => ?_⟩
            obtain ⟨jv, hjv, rfl⟩ := List.mem_map.mp hx
            obtain ⟨jl, jm⟩ := hjt jv hjv
            obtain ⟨jn, rfl⟩ : ∃ jn : Nat, jv = (jn : Int) := ⟨jv.toNat, by omega⟩
            have bgh := bg.trans bh
            obtain ⟨st1, st2, st3, st4, st5, st6⟩ := stay Hh hph bgh
            refine ⟨_, rfl, .inl ⟨rfl, _, SqL.of st1⟩, ?_⟩
            refine ⟨_, rfl, _, _, rfl, rfl, _, rfl, ll20 (by show 2 ≤ 20; decide), fun v nv => ?_⟩
            have sv := same_upd (o := .tup [V.int ((i : Int) + 1), V.int (jn : Int)]) nv
            have hfv := sv _ _ st1
            have jlen : jn ≤ ss2.length := by
              have := (List.getElem?_eq_some_iff.mp jm).1
              omega
            refine ⟨pf, _, _, rfl, rfl, hfv, ?_, ?_⟩
            · unfold refs
              rw [List.length_map, st2.1]
              exact Nat.lt_of_le_of_lt st6 (Nat.lt_of_lt_of_le (show i + 1 < 62 by omega) (by decide))
            · have hv : upd Hh v (.tup [V.int ((i : Int) + 1), V.int (jn : Int)]) v = some (tupV (i + 1, jn)) := by
                rw [upd_same]; rfl
              have ps2 := ((st2.same sv).snoc hv).updL (ys := refs rs ++ [V.ref v]) hfv
              refine ⟨(hph.same sv).upd af, fun b o h n => ?_, rs ++ [v], ps ++ [(i + 1, jn)], jn, _, _, _, _, rfl, ?_, ps2, st3.snoc hln (by omega) ?_ (fun q hq => ⟨?_, ?_⟩), fun q hq => ?_, by omega, ?_⟩
              · have e := sv _ _ ((bf.trans bgh) b o h n)
                rw [upd_ne (fun e2 => by rw [e2, nf] at h; cases h)]
                exact e
              · rw [upd_same]
                unfold refs
                rw [List.map_append]
                rfl
              · rw [show ((jn : Int) - 1).toNat = jn - 1 by omega] at jm
                exact jm
              · have := (hlast q hq).1; omega
              · have := (hlast q hq).2; omega
              · rcases List.mem_append.mp hq with hq | hq
                · have := hlast q hq
                  exact ⟨by omega, by omega⟩
                · rw [List.mem_singleton.mp hq]
                  exact ⟨Nat.le_refl _, Nat.le_refl _⟩
              · rw [List.length_append]; simp; omega
          · exact ⟨hpg, bf.trans bg, rs, ps, last, _, _, _, _, rfl, stay Hg hpg bg⟩
    · rintro σ G' ⟨hp, hb, rs, ps, last, x6, x7, x8, x9, rfl, hf, hps, hdf, hlast, last60, psl⟩
      refine ⟨_, rfl, pf, _, rfl, .inl ⟨SqL.of hf, fun u nu => ?_⟩⟩
      have su := same_upd (o := .tup (refs rs)) nu
      exact z u ps _ (hp.same su) (hb.same su) (hb.fresh hp nu) ⟨rs, upd_same, hps.same su⟩ hdf
end
end K14
/-! Raising an exception of the text whose __init__ calls super().__init__ and stores its parameters; its field in a handler. -/
namespace XR
open PySem PySem.Spec L2
section
variable {X : Cx} {n : Nat} {C : Addr} {fv : List V → List (Str × V)} {x : Str} {p pos : Pos} {e : Expr} {es : List Expr} {t : TA}
/-- C(e, ..), to be raised -/
def tPmX (C : Addr) (n : Nat) (fv : List V → List (Str × V)) (t : TA) : St → Hp → XK → Prop := fun σ H Q => t σ H fun vs H1 => vs.length = n ∧ ∀ d, H1 d = none → Q (.ref C) (some d) (upd H1 d (.xd (fv vs)))
theorem pmkX (T : MkX X.K X.prog C none n fv) (h0 : ∀ vs : List V, vs.length = n → fv vs ≠ []) (hk : PySem.W.keepIn X.K (.ref C) = true) (hr : Room 2 X.A) (hsup : X.mg "super" = none) (bP : PySem.W.subIn X.K (.ref C) (.type "BaseException") = some true) (tP : PySem.W.typeIn X.K (.ref C) = some (.type "type"))
    (hg : Gl X x) (hm : X.mg x = some (.ref C)) (ha : PA X (e :: es) t)
    (hdb : (x == ("__debug__" : Str)) = false := by decide) (he : starEach (e :: es) X.env = (false, eval e X.env) :: starEach es X.env := by rfl) (hpl : (backTo pos (starEach es X.env)).any (·.1) = false := by rfl) :
    PMk X (.Call (.Name x p) (e :: es) [] pos) (tPmX C n fv t) := by
  intro pins s σ H Q I h
  refine wpAny_Call_Name_kw (ld_glob I hg hm ?_ hdb)
  refine PySem.W.callWith_K (h₀ := X.base) I.ok.mod.kin hk (thn (ha.run pos pins s σ H _ I h) fun us s1 ⟨vs, H1, I1, r, hl, q⟩ => ⟨I1.kIn, ?_⟩) he hpl
  have hlu : us.length = n := r.length.symm.trans hl
  obtain ⟨fI, cc, cda, B, newId, initId, bmB, fd, txt, kk, p0, p1, p2, p3, p4, p5, l, gb, T1, T2⟩ := T.ex
  obtain ⟨S, hl9, bt, hloc, hself, hx, hfv⟩ := T2 us hlu
  obtain ⟨mb, hb, hbb⟩ := I1.ok.mod.blt
  have hn : us.length ≤ sizeLine := by rw [hlu, sizeLine_eq]; have := T.n1; omega
  have m2 : mb "super" = some (.type "super") := (hbb _ (by decide +kernel)).trans (by decide +kernel)
  obtain ⟨hp, g, dr, tk, os⟩ := s1
  have hm' := I1.ok.mod.glob.keeps I1.bk
  have hb' := hb.keeps I1.bk
  have dep : (X.A.under (.builtin "type.__call__" ⟨.ref C :: us, []⟩)).depth < recursionLimit := by
    have := hr.dp
    rw [make_depth]
    omega
  show wpAny _ _ (call (.ref C) us) _ _ _
  refine made T1 S hl9 I1.kIn hm' hb' hsup m2 I1.nolimit dep hn (bt _) (hloc _) (hself _) (hx _) fun h' tk' L k F => ?_
  obtain ⟨t1, ⟨hf, ho⟩ | ⟨dx, hf, hd0, hde, hdL, ho, hns⟩⟩ := F
  · exact absurd ((hfv vs r).nil_iff hf) (h0 vs hl)
  · obtain ⟨G', g1, g2⟩ := restrict h' fun b => decide (b ≠ hp.objs.size + 1)
    have gk : ∀ b, b ≠ hp.objs.size + 1 → G'.get? b = h'.get? b := fun b hb => g1 b (decide_eq_true hb)
    have ge : G'.get? (hp.objs.size + 1) = none := g2 (hp.objs.size + 1) (by simp)
    have old : ∀ b o, hp.get? b = some o → G'.get? b = some o := fun b o q => (gk b (Nat.ne_of_lt (Nat.lt_succ_of_lt (Heap.lt_size q)))).trans (k b o q)
    have ob : ObjOk X.prog X.w (upd H1 dx (.xd (fv vs))) G' dx (.xd (fv vs)) := ⟨_, hns.at (fun o q => (gk dx hde).trans q), (hfv vs r).rel⟩
    have J : Inv X pins σ (upd H1 dx (.xd (fv vs))) ⟨G', g, dr, tk', os⟩ := I1.laid (t' := tk') old hd0 ob
    refine ⟨hp.objs.size + 1, _, _, ⟨G', g, dr, tk', os⟩, _, .ref C, some dx, rfl, J, fun b o q => ?_, ge, ho, ⟨rfl, rfl⟩, rfl, rfl, ?_, rfl, I1.bare, raises_own bP tP, q dx (I1.hok.fresh hd0)⟩
    · by_cases hb : b = hp.objs.size + 1
      · have q' : G'.get? b = some o := q
        rw [hb, ge] at q'; cases q'
      · exact (gk b hb).symm.trans q
    · rw [upd_ne (Ne.symm hde)]
      exact I1.hok.fresh (Nat.le_succ _)
/-- raise C(e, ..) -/
theorem ps_raiseX {W : WX} {pos2 : Pos} (hc : X.calm = true) (tk : Takes X W) (T : MkX X.K X.prog C none n fv) (h0 : ∀ vs : List V, vs.length = n → fv vs ≠ []) (hk : PySem.W.keepIn X.K (.ref C) = true) (hr : Room 2 X.A) (hsup : X.mg "super" = none) (bP : PySem.W.subIn X.K (.ref C) (.type "BaseException") = some true) (tP : PySem.W.typeIn X.K (.ref C) = some (.type "type"))
    (hg : Gl X x) (hm : X.mg x = some (.ref C)) (ha : PA X (e :: es) t)
    (hdb : (x == ("__debug__" : Str)) = false := by decide) (he : starEach (e :: es) X.env = (false, eval e X.env) :: starEach es X.env := by rfl) (hpl : (backTo pos (starEach es X.env)).any (·.1) = false := by rfl) :
    PS X (.Raise (some (.Call (.Name x p) (e :: es) [] pos)) none pos2) (fun _ σ H => tPmX C n fv t σ H fun cls d H' => W cls d σ H') := ps_raise hc tk (pmkX T h0 hk hr hsup bP tP hg hm ha hdb he hpl)
/-- e.f in a handler, e the exception that it holds (at a; its class cls, its dict d) -/
def tByX (K : PySem.W.Frag) (a : Addr) (cls : Value) (d : Option Addr) (f : Str) (te : TE) : TE := fun σ H Q => te σ H fun x H1 => x = .ref a ∧ ∃ (C dd : Addr) (fs : List (Str × V)) (v : V), cls = .ref C ∧ d = some dd ∧ ClsR K C ∧ PySem.W.findIn K (.ref C) f = some none ∧ H1 dd = some (.xd fs) ∧ fs.lookup f = some v ∧ Q v H1
theorem pe_byX {a : Addr} {oe : Obj} {cls : Value} {d : Option Addr} {pn : List (Addr × Obj)} {e : Expr} {f : Str} {te : TE} {pos : Pos} (hz : Zc cls d oe) (hf : ∃ vs, oe.data = .fields vs) (he : PE (X.suite a ((a, oe) :: pn)) e te)
    (hb : attributeBase e f X.env (eval e X.env) = eval e X.env) :
    PE (X.suite a ((a, oe) :: pn)) (.Attribute e f pos) (tByX X.K a cls d f te) := by
  refine ⟨fun pins s σ H Q I h => ?_⟩
  refine attr_of hb (thn (he.run pins s σ H _ I h) fun u s1 hh => ?_)
  obtain ⟨x, H1, I1, rx, ex, C, dd, fs, v, ec, ed, T, nf, ea, lk, q⟩ := hh
  subst ex
  obtain rfl : u = Value.ref a := rx
  subst ec
  subst ed
  obtain ⟨ha, _⟩ := I1.pin (a, oe) (List.mem_append_left _ List.mem_cons_self)
  obtain ⟨vs, hd⟩ := hf
  have hx : ObjOk X.prog X.w H1 s1.heap dd (.xd fs) := I1.hok dd _ ea
  obtain ⟨mA, hns, hr⟩ := hx
  obtain ⟨od, ho, hl⟩ := lookIn_ns hns
  obtain ⟨u, hu, ru⟩ := RelO.some_of (v := v) (o := mA f) (by rw [← lk]; exact hr f)
  have J : PySem.W.InstAt s1.heap a oe C (some od) := ⟨ha, hz.1, by unfold PySem.W.notCls; rw [hd] <;> rfl, by rw [hz.2]; exact ho⟩
  exact PySem.PX.exc_get I1.kIn J T.ga T.gt T.sb (PySem.W.findObj_own T.di nf rfl (by rw [hl, hu])) (handed_of ru) ⟨v, H1, I1.tok _, ru, q⟩
end
end XR
namespace XR
open PySem L2
def tyN : PyData → String
  | .none => "NoneType"
  | .bool _ => "bool"
  | .int _ => "int"
  | .str _ => "str"
  | .list _ => "list"
  | .tuple _ => "tuple"
  | .dict _ => "dict"
theorem Dq.ty {K : PySem.W.Frag} {H : Hp} {x : V} {d : PyData} (h : Dq K H x d) : TyX K H x (.type (tyN d)) := by
  cases h with
  | non => exact .base .non
  | bl b => exact .base (.bl b)
  | int i => exact .base (.int i)
  | str s => exact .base (.str s)
  | lst h1 h2 =>
    rcases h1 with (h | ⟨o, h⟩) | ⟨o, _, _, h, hc, _⟩
    · exact .base (.lst h)
    · exact .base (.frz h)
    · exact .kList h hc
  | tup h1 h2 =>
    rcases h1 with (h | ⟨o, h⟩) | ⟨o, _, _, h, hc, _⟩
    · exact .base (.tup h)
    · exact .fTuple h
    · exact .kTuple h hc
  | dct h1 _ _ => exact .base (.dK h1)
/-- a judge of any value -/
def spJudge (K : PySem.W.Frag) (p : PyData → Bool) : Sp := fun vs H Q _ => ∃ (x : V) (d : PyData), vs = [x] ∧ Dq K H x d ∧ ∀ H', Same H H' → Q (.bl (p d)) H'
def isWhole : PyData → Bool
  | .int _ => true
  | _ => false
def isSeq : PyData → Bool
  | .list _ => true
  | .tuple _ => true
  | _ => false
def isLine : PyData → Bool
  | .str s => !decide ((10 : Nat) ∈ s.cps.toList)
  | _ => false
def itemsOf : PyData → List PyData
  | .list ds => ds
  | .tuple ds => ds
  | _ => []
def isText (d : PyData) : Bool := isSeq d && (decide ((itemsOf d).length ≤ 60) && (itemsOf d).all isLine)
theorem kit_int (d : PyData) : kitB (tyN d) "int" = some (isWhole d || (match d with | .bool _ => true | _ => false)) := by
  cases d <;> kernel_rfl
theorem kit_bool (d : PyData) : kitB (tyN d) "bool" = some (match d with | .bool _ => true | _ => false) := by
  cases d <;> kernel_rfl
theorem kit_str (d : PyData) : kitB (tyN d) "str" = some (match d with | .str _ => true | _ => false) := by
  cases d <;> kernel_rfl
theorem kit_tuple (d : PyData) : kitB (tyN d) "tuple" = some (match d with | .tuple _ => true | _ => false) := by
  cases d <;> kernel_rfl
end XR
namespace K14
open PySem L2 XR
abbrev sWhole : Stmt := top 8
abbrev sWithin : Stmt := top 9
abbrev sIsList : Stmt := top 10
abbrev sIsTuple : Stmt := top 11
abbrev sSpot : Stmt := top 12
abbrev sLine : Stmt := top 15
abbrev sIsText : Stmt := top 16
section
variable {P : Program} {w : World} {K : PySem.W.Frag} {mg : Str → Option Value} {base : Heap}
theorem scWhole : FnScope ["value"] ["value"] (defScope sWhole) := ⟨rfl, rfl, rfl, by decide +kernel, rfl, by decide +kernel, by decide +kernel⟩
def Blt.isin {mg : Str → Option Value} (T : Blt mg) : mg "isinstance" = none := T.all _ (by decide)
theorem ok_whole {f : Addr} {fd : FuncData} (F : Fun K "is_whole" "is_whole" sWhole f fd) (T : Blt mg) : FnOk P w K mg base CX0 1 f fd ["value"] (spJudge K isWhole) := by
  refine F.ok scWhole (fun vs H Q E h => ?_) (fun cdv A outer s H vs Q E hr h => ?_)
  · obtain ⟨x, d, rfl, _⟩ := h
    rfl
  · obtain ⟨x, d, rfl, hd, z⟩ := h
    refine ⟨_, pss_one (ps_ret (pe_and (pe_callB call_isi (by rfl) T.isin (by decide +kernel) (pa_cons (pv 0) (pa_cons (pe_bltn (v := .ty "int") (u := .type "int") (by rfl) T.int (by decide +kernel) rfl) pa_nil)))
      (pe_one (pe_not (pe_callB call_isi (by rfl) T.isin (by decide +kernel) (pa_cons (pv 0) (pa_cons (pe_bltn (v := .ty "bool") (u := .type "bool") (by rfl) (T.all "bool" (by decide)) (by decide +kernel) rfl) pa_nil))))))), ?_⟩
    refine ⟨_, rfl, x, _, _, _, _, rfl, .ty "int", hd.ty, kit_ty (kit_int d), _, rfl, ?_⟩
    have zz := z H (fun _ _ e => e)
    cases d <;> first
      | exact iteF zz
      | exact iteT ⟨_, rfl, x, _, _, _, _, rfl, .ty "bool", hd.ty, kit_ty (kit_bool _), _, rfl, zz⟩
theorem scIsList : FnScope ["value"] ["value"] (defScope sIsList) := ⟨rfl, rfl, rfl, by decide +kernel, rfl, by decide +kernel, by decide +kernel⟩
theorem kit_seq {K : PySem.W.Frag} (d : PyData) : PySem.W.kitAny K (.type (tyN d)) [.type "list", .type "tuple"] = some (isSeq d) := by
  cases d <;> kernel_rfl
theorem ok_isList {f : Addr} {fd : FuncData} (F : Fun K "is_list" "is_list" sIsList f fd) (T : Blt mg) : FnOk P w K mg base CX0 1 f fd ["value"] (spJudge K isSeq) := by
  refine F.ok scIsList (fun vs H Q E h => ?_) (fun cdv A outer s H vs Q E hr h => ?_)
  · obtain ⟨x, d, rfl, _⟩ := h
    rfl
  · obtain ⟨x, d, rfl, hd, z⟩ := h
    refine ⟨_, pss_one (ps_ret (pe_callB call_isiT (by rfl) T.isin (by decide +kernel) (pa_cons (pv 0) (pa_cons (pe_tup (pa_cons (pe_bltn (v := .ty "list") (u := .type "list") (by rfl) (T.all "list" (by decide)) (by decide +kernel) rfl) (pa_cons (pe_bltn (v := .ty "tuple") (u := .type "tuple") (by rfl) (T.all "tuple" (by decide)) (by decide +kernel) rfl) pa_nil))) pa_nil)))), ?_⟩
    refine ⟨_, rfl, ll20 (by show 2 ≤ 20; decide), fun t nt => ?_⟩
    have s := same_upd (o := .tup [V.ty "list", V.ty "tuple"]) nt
    exact ⟨x, t, _, _, _, _, rfl, upd_same, .cons (.ty "list") (.cons (.ty "tuple") .nil), (hd.same s).ty, kit_seq d, z _ s⟩
theorem scLine : FnScope ["value"] ["value"] (defScope sLine) := ⟨rfl, rfl, rfl, by decide +kernel, rfl, by decide +kernel, by decide +kernel⟩
theorem ok_line {f : Addr} {fd : FuncData} (F : Fun K "is_line" "is_line" sLine f fd) (T : Blt mg) : FnOk P w K mg base CX0 1 f fd ["value"] (spJudge K isLine) := by
  refine F.ok scLine (fun vs H Q E h => ?_) (fun cdv A outer s H vs Q E hr h => ?_)
  · obtain ⟨x, d, rfl, _⟩ := h
    rfl
  · obtain ⟨x, d, rfl, hd, z⟩ := h
    refine ⟨_, pss_one (ps_ret (pe_and (pe_callB call_isi (by rfl) T.isin (by decide +kernel) (pa_cons (pv 0) (pa_cons (pe_bltn (v := .ty "str") (u := .type "str") (by rfl) (T.all "str" (by decide)) (by decide +kernel) rfl) pa_nil)))
      (pe_one (pe_cmpR op_notIn_sign pe_str (pv 0) (by rfl))))), ?_⟩
    refine ⟨_, rfl, x, _, _, _, _, rfl, .ty "str", hd.ty, kit_ty (kit_str d), _, rfl, ?_⟩
    have zz := z H (fun _ _ e => e)
    cases d <;> first
      | exact iteF zz
      | skip
    cases hd
    exact iteT ⟨_, rfl, _, _, rfl, rfl, zz⟩
end
end K14
namespace XR
open PySem L2
theorem DqAll.get {K : PySem.W.Frag} {H : Hp} : ∀ {xs : List V} {ds : List PyData} {i : Nat} {x : V}, DqAll K H xs ds → xs[i]? = some x → ∃ d, ds[i]? = some d ∧ Dq K H x d
  | _, _, _, _, .nil, h => by simp at h
  | _, _, 0, _, .cons (d := d) a b, h => by
    have e := Option.some.inj h
    subst e
    exact ⟨d, rfl, a⟩
  | _, _, i + 1, _, .cons a b, h => b.get (i := i) h
end XR
namespace K14
open PySem L2 XR
section
variable {P : Program} {w : World} {K : PySem.W.Frag} {mg : Str → Option Value} {base : Heap}
theorem scIsText : FnScope ["value", "line"] ["value"] (defScope sIsText) := ⟨rfl, rfl, rfl, by decide +kernel, rfl, by decide +kernel, by decide +kernel⟩
theorem ok_isText {f fL fI : Addr} {fd fdL fdI : FuncData} {tm : Nat} (F : Fun K "is_text" "is_text" sIsText f fd) (T : Blt mg) (mM : mg "MOST" = some (.int 60 tm))
    (FL : Fun K "is_list" "is_list" sIsList fL fdL) (bL : Binds K fdL ["value"] []) (mL : mg "is_list" = some (.ref fL))
    (FI : Fun K "is_line" "is_line" sLine fI fdI) (bI : Binds K fdI ["value"] []) (mI : mg "is_line" = some (.ref fI)) : FnOk P w K mg base CX0 2 f fd ["value"] (spJudge K isText) := by
  have GL := ok_isList (P := P) (w := w) (base := base) FL T
  have GI := ok_line (P := P) (w := w) (base := base) FI T
  refine F.ok scIsText (fun vs H Q E h => ?_) (fun cdv A outer s H vs Q E hr h => ?_)
  · obtain ⟨x, d, rfl, _⟩ := h
    rfl
  · obtain ⟨x, d, rfl, hd, z⟩ := h
    cases hd with
    | @lst a xs ds h1 h2 =>
      refine ⟨_, pss_one (ps_ret (pe_and (pe_call GL hr rfl mL FL.kp bL .nil pass0 (pa_cons (pv 0) pa_nil)) (pe_and (pe_cmpR op_le (pe_callB call_len_seq (by rfl) T.len PySem.boot_len (pa_cons (pv 0) pa_nil)) (pe_glob (v := .int 60) (by rfl) mM ⟨_, rfl⟩) (nomark _))
        (pe_one (pe_callB (cr_all rfl) (by rfl) (T.all "all" (by decide)) (by decide +kernel) (pa_cons (pe_lc (own := [("line", 1)]) (g := gName 1) (tt := tYes) (te := tCall (spJudge K isLine) [] E0 (tCons (tVar 1) tNil)) rfl scIsText.nd (pi_list (pv 0))
          (blkOk_by (own := [("line", 1)]) (N := ["value", "line"]) (sc := defScope sIsText) (by decide +kernel)) (fun _ _ _ _ _ => pg_name (i := 1) scIsText.nd rfl (Or.inl rfl)) (fun _ _ _ _ _ => pts_nil)
          (fun _ _ _ _ _ => pe_call GI hr rfl mI FI.kp bI .nil pass0 (pa_cons (pv 1) pa_nil))) pa_nil)))))), ?_⟩
      refine ⟨_, rfl, _, _, rfl, .lst h1 h2, fun H1 s1 => ⟨_, rfl, iteT ⟨_, rfl, a, xs, rfl, .inl (s1.seq h1), _, _, rfl, rfl, _, rfl, ?_⟩⟩⟩
      have hlen := h2.length
      refine ite2 (fun c1 => ?_) (fun c1 => ?_)
      · have c2 : xs.length ≤ 60 := by have := of_decide_eq_true c1; omega
        refine ⟨_, rfl, a, rfl, ⟨_, s1.seq h1⟩, fun D nD => ?_⟩
        have sD := same_upd (o := .lst []) nD
        refine lc_list (K := K) (a := a) (xs := xs) (fun i H' => Same H1 H' ∧ H' D = some (.lst (((ds.take i).map isLine).map V.bl))) ⟨sD, upd_same⟩ (fun i H' _ hh => (hh.1).seq (s1.seq h1)) ?_ ?_
        · rintro i x H' hx ⟨sm, hD⟩
          obtain ⟨d, hd1, hd2⟩ := h2.get hx
          refine ⟨rfl, ?_⟩
          unfold tYes
          dsimp only
          rw [if_pos rfl]
          refine ⟨_, rfl, x, d, rfl, (hd2.same s1).same sm, fun H2 s2 => ⟨_, s2 _ _ hD, ?_, fun b o h => ?_, ?_⟩⟩
          · rw [List.length_map, List.length_map]
            have c3 : (ds.take i).length ≤ 60 := by rw [List.length_take]; omega
            exact Nat.lt_of_le_of_lt c3 (by decide)
          · rw [upd_ne (ne_of_none h nD)]
            exact s2 _ _ (sm _ _ h)
          · rw [upd_same, List.take_add_one, hd1, List.map_append, List.map_append]
            rfl
        · rintro H' ⟨sm, hD⟩
          refine ⟨D, ds.map isLine, rfl, SqL.of (by rw [hD, hlen, List.take_length]), ?_⟩
          have e : (ds.map isLine).all id = isText (.list ds) := by
            unfold isText isSeq itemsOf
            rw [List.all_map, decide_eq_true (show ds.length ≤ 60 by omega)]
            rfl
          rw [e]
          exact z _ (s1.trans sm)
      · have e : isText (.list ds) = false := by
          have c2 : ¬ ds.length ≤ 60 := fun h => c1 (decide_eq_true (by omega))
          unfold isText isSeq itemsOf
          rw [decide_eq_false c2]
          rfl
        have zz := z _ s1
        rw [e] at zz
        exact zz
    | @tup a xs ds h1 h2 =>
      refine ⟨_, pss_one (ps_ret (pe_and (pe_call GL hr rfl mL FL.kp bL .nil pass0 (pa_cons (pv 0) pa_nil)) (pe_and (pe_cmpR op_le (pe_callB call_len_seq (by rfl) T.len PySem.boot_len (pa_cons (pv 0) pa_nil)) (pe_glob (v := .int 60) (by rfl) mM ⟨_, rfl⟩) (nomark _))
        (pe_one (pe_callB (cr_all rfl) (by rfl) (T.all "all" (by decide)) (by decide +kernel) (pa_cons (pe_lc (own := [("line", 1)]) (g := gName 1) (tt := tYes) (te := tCall (spJudge K isLine) [] E0 (tCons (tVar 1) tNil)) rfl scIsText.nd (pi_tup (pv 0))
          (blkOk_by (own := [("line", 1)]) (N := ["value", "line"]) (sc := defScope sIsText) (by decide +kernel)) (fun _ _ _ _ _ => pg_name (i := 1) scIsText.nd rfl (Or.inl rfl)) (fun _ _ _ _ _ => pts_nil)
          (fun _ _ _ _ _ => pe_call GI hr rfl mI FI.kp bI .nil pass0 (pa_cons (pv 1) pa_nil))) pa_nil)))))), ?_⟩
      refine ⟨_, rfl, _, _, rfl, .tup h1 h2, fun H1 s1 => ⟨_, rfl, iteT ⟨_, rfl, a, xs, rfl, .inr (XR.Same.tup s1 h1), _, _, rfl, rfl, _, rfl, ?_⟩⟩⟩
      have hlen := h2.length
      refine ite2 (fun c1 => ?_) (fun c1 => ?_)
      · have c2 : xs.length ≤ 60 := by have := of_decide_eq_true c1; omega
        refine ⟨_, rfl, a, rfl, ⟨_, XR.Same.tup s1 h1⟩, fun D nD => ?_⟩
        have sD := same_upd (o := .lst []) nD
        refine lc_tup (K := K) (a := a) (xs := xs) (fun i H' => Same H1 H' ∧ H' D = some (.lst (((ds.take i).map isLine).map V.bl))) ⟨sD, upd_same⟩ (fun i H' _ hh => XR.Same.tup hh.1 (XR.Same.tup s1 h1)) ?_ ?_
        · rintro i x H' hx ⟨sm, hD⟩
          obtain ⟨d, hd1, hd2⟩ := h2.get hx
          refine ⟨rfl, ?_⟩
          unfold tYes
          dsimp only
          rw [if_pos rfl]
          refine ⟨_, rfl, x, d, rfl, (hd2.same s1).same sm, fun H2 s2 => ⟨_, s2 _ _ hD, ?_, fun b o h => ?_, ?_⟩⟩
          · rw [List.length_map, List.length_map]
            have c3 : (ds.take i).length ≤ 60 := by rw [List.length_take]; omega
            exact Nat.lt_of_le_of_lt c3 (by decide)
          · rw [upd_ne (ne_of_none h nD)]
            exact s2 _ _ (sm _ _ h)
          · rw [upd_same, List.take_add_one, hd1, List.map_append, List.map_append]
            rfl
        · rintro H' ⟨sm, hD⟩
          refine ⟨D, ds.map isLine, rfl, SqL.of (by rw [hD, hlen, List.take_length]), ?_⟩
          have e : (ds.map isLine).all id = isText (.tuple ds) := by
            unfold isText isSeq itemsOf
            rw [List.all_map, decide_eq_true (show ds.length ≤ 60 by omega)]
            rfl
          rw [e]
          exact z _ (s1.trans sm)
      · have e : isText (.tuple ds) = false := by
          have c2 : ¬ ds.length ≤ 60 := fun h => c1 (decide_eq_true (by omega))
          unfold isText isSeq itemsOf
          rw [decide_eq_false c2]
          rfl
        have zz := z _ s1
        rw [e] at zz
        exact zz
    | non =>
      refine ⟨_, pss_one (ps_ret (pe_and (pe_call GL hr rfl mL FL.kp bL .nil pass0 (pa_cons (pv 0) pa_nil)) (pe_and (pe_cmpR op_le (pe_callB call_len_seq (by rfl) T.len PySem.boot_len (pa_cons (pv 0) pa_nil)) (pe_glob (v := .int 60) (by rfl) mM ⟨_, rfl⟩) (nomark _))
        (pe_one (pe_callB (cr_all rfl) (by rfl) (T.all "all" (by decide)) (by decide +kernel) (pa_cons (pe_lc (own := [("line", 1)]) (g := gName 1) (tt := tYes) (te := tCall (spJudge K isLine) [] E0 (tCons (tVar 1) tNil)) rfl scIsText.nd (pi_list (pv 0))
          (blkOk_by (own := [("line", 1)]) (N := ["value", "line"]) (sc := defScope sIsText) (by decide +kernel)) (fun _ _ _ _ _ => pg_name (i := 1) scIsText.nd rfl (Or.inl rfl)) (fun _ _ _ _ _ => pts_nil)
          (fun _ _ _ _ _ => pe_call GI hr rfl mI FI.kp bI .nil pass0 (pa_cons (pv 1) pa_nil))) pa_nil)))))), ?_⟩
      exact ⟨_, rfl, _, _, rfl, .non, fun H1 s1 => ⟨_, rfl, iteF (z _ s1)⟩⟩
    | bl b =>
      refine ⟨_, pss_one (ps_ret (pe_and (pe_call GL hr rfl mL FL.kp bL .nil pass0 (pa_cons (pv 0) pa_nil)) (pe_and (pe_cmpR op_le (pe_callB call_len_seq (by rfl) T.len PySem.boot_len (pa_cons (pv 0) pa_nil)) (pe_glob (v := .int 60) (by rfl) mM ⟨_, rfl⟩) (nomark _))
        (pe_one (pe_callB (cr_all rfl) (by rfl) (T.all "all" (by decide)) (by decide +kernel) (pa_cons (pe_lc (own := [("line", 1)]) (g := gName 1) (tt := tYes) (te := tCall (spJudge K isLine) [] E0 (tCons (tVar 1) tNil)) rfl scIsText.nd (pi_list (pv 0))
          (blkOk_by (own := [("line", 1)]) (N := ["value", "line"]) (sc := defScope sIsText) (by decide +kernel)) (fun _ _ _ _ _ => pg_name (i := 1) scIsText.nd rfl (Or.inl rfl)) (fun _ _ _ _ _ => pts_nil)
          (fun _ _ _ _ _ => pe_call GI hr rfl mI FI.kp bI .nil pass0 (pa_cons (pv 1) pa_nil))) pa_nil)))))), ?_⟩
      exact ⟨_, rfl, _, _, rfl, .bl b, fun H1 s1 => ⟨_, rfl, iteF (z _ s1)⟩⟩
    | int i =>
      refine ⟨_, pss_one (ps_ret (pe_and (pe_call GL hr rfl mL FL.kp bL .nil pass0 (pa_cons (pv 0) pa_nil)) (pe_and (pe_cmpR op_le (pe_callB call_len_seq (by rfl) T.len PySem.boot_len (pa_cons (pv 0) pa_nil)) (pe_glob (v := .int 60) (by rfl) mM ⟨_, rfl⟩) (nomark _))
        (pe_one (pe_callB (cr_all rfl) (by rfl) (T.all "all" (by decide)) (by decide +kernel) (pa_cons (pe_lc (own := [("line", 1)]) (g := gName 1) (tt := tYes) (te := tCall (spJudge K isLine) [] E0 (tCons (tVar 1) tNil)) rfl scIsText.nd (pi_list (pv 0))
          (blkOk_by (own := [("line", 1)]) (N := ["value", "line"]) (sc := defScope sIsText) (by decide +kernel)) (fun _ _ _ _ _ => pg_name (i := 1) scIsText.nd rfl (Or.inl rfl)) (fun _ _ _ _ _ => pts_nil)
          (fun _ _ _ _ _ => pe_call GI hr rfl mI FI.kp bI .nil pass0 (pa_cons (pv 1) pa_nil))) pa_nil)))))), ?_⟩
      exact ⟨_, rfl, _, _, rfl, .int i, fun H1 s1 => ⟨_, rfl, iteF (z _ s1)⟩⟩
    | str s =>
      refine ⟨_, pss_one (ps_ret (pe_and (pe_call GL hr rfl mL FL.kp bL .nil pass0 (pa_cons (pv 0) pa_nil)) (pe_and (pe_cmpR op_le (pe_callB call_len_seq (by rfl) T.len PySem.boot_len (pa_cons (pv 0) pa_nil)) (pe_glob (v := .int 60) (by rfl) mM ⟨_, rfl⟩) (nomark _))
        (pe_one (pe_callB (cr_all rfl) (by rfl) (T.all "all" (by decide)) (by decide +kernel) (pa_cons (pe_lc (own := [("line", 1)]) (g := gName 1) (tt := tYes) (te := tCall (spJudge K isLine) [] E0 (tCons (tVar 1) tNil)) rfl scIsText.nd (pi_list (pv 0))
          (blkOk_by (own := [("line", 1)]) (N := ["value", "line"]) (sc := defScope sIsText) (by decide +kernel)) (fun _ _ _ _ _ => pg_name (i := 1) scIsText.nd rfl (Or.inl rfl)) (fun _ _ _ _ _ => pts_nil)
          (fun _ _ _ _ _ => pe_call GI hr rfl mI FI.kp bI .nil pass0 (pa_cons (pv 1) pa_nil))) pa_nil)))))), ?_⟩
      exact ⟨_, rfl, _, _, rfl, .str s, fun H1 s1 => ⟨_, rfl, iteF (z _ s1)⟩⟩
    | dct h1 h2 h3 =>
      refine ⟨_, pss_one (ps_ret (pe_and (pe_call GL hr rfl mL FL.kp bL .nil pass0 (pa_cons (pv 0) pa_nil)) (pe_and (pe_cmpR op_le (pe_callB call_len_seq (by rfl) T.len PySem.boot_len (pa_cons (pv 0) pa_nil)) (pe_glob (v := .int 60) (by rfl) mM ⟨_, rfl⟩) (nomark _))
        (pe_one (pe_callB (cr_all rfl) (by rfl) (T.all "all" (by decide)) (by decide +kernel) (pa_cons (pe_lc (own := [("line", 1)]) (g := gName 1) (tt := tYes) (te := tCall (spJudge K isLine) [] E0 (tCons (tVar 1) tNil)) rfl scIsText.nd (pi_list (pv 0))
          (blkOk_by (own := [("line", 1)]) (N := ["value", "line"]) (sc := defScope sIsText) (by decide +kernel)) (fun _ _ _ _ _ => pg_name (i := 1) scIsText.nd rfl (Or.inl rfl)) (fun _ _ _ _ _ => pts_nil)
          (fun _ _ _ _ _ => pe_call GI hr rfl mI FI.kp bI .nil pass0 (pa_cons (pv 1) pa_nil))) pa_nil)))))), ?_⟩
      exact ⟨_, rfl, _, _, rfl, .dct h1 h2 h3, fun H1 s1 => ⟨_, rfl, iteF (z _ s1)⟩⟩
end
end K14
namespace XR
open PySem PySem.Spec L2
/-- a call that raises nothing of a def that may raise -/
theorem passF {X : Cx} (σ : St) : PassesAt (L2.CX X.prog X.w) X σ E0 := fun pins H s e s' I h => by
  obtain ⟨_, _, _, _, _, _, _, _, _, _, _, _, z⟩ := h
  exact z.elim
section
variable {X : Cx} {CX : CXT} {k : Nat} {f : Addr} {sp : Sp} {E : St → XK} {x : Str} {p pos : Pos} {e : Expr} {es : List Expr} {t : TA}
/-- the plain call of a def that is known by its promise for any arguments -/
theorem pe_callR (F : FnR X.prog X.w X.K X.mg X.base CX k f sp) (hr : Room k X.A) (hgl : Gl X x) (hm : X.mg x = some (.ref f)) (hk : PySem.W.keepIn X.K (.ref f) = true) (hx : ∀ σ, PassesAt CX X σ (E σ)) (ha : PA X (e :: es) t)
    (hdb : (x == ("__debug__" : Str)) = false := by decide) (he : starEach (e :: es) X.env = (false, eval e X.env) :: starEach es X.env := by rfl) (hpl : (backTo pos (starEach es X.env)).any (·.1) = false := by rfl) :
    PE X (.Call (.Name x p) (e :: es) [] pos) (fun σ H Q => t σ H fun vs H1 => sp vs H1 Q (E σ)) := by
  refine ⟨fun pins s σ H Q I h => ?_⟩
  refine wpAny_Call_Name_kw (ld_glob I hgl hm ?_ hdb)
  refine PySem.W.callWith_K (h₀ := X.base) I.ok.mod.kin hk (thn (ha.run pos pins s σ H _ I h) fun us s1 ⟨vs, H1, I1, r, q⟩ => ⟨I1.kIn, ?_⟩) he hpl
  refine wpAny_call (codeAny_mono (F X.A X.stack s1 H1 us vs Q (E σ) hr I1.env0 r q) fun r' s' hq => ?_)
  cases r' with
  | error e => exact hx σ pins H1 s1 e s' I1 hq
  | ok fl =>
    cases fl with
    | ret u => exact I1.after hq
    | next => exact False.elim hq
    | brk => exact False.elim hq
    | cont => exact False.elim hq
end
/-- what is known of a class of exceptions with n fields -/
structure XOk (P : Program) (K : PySem.W.Frag) (mg : Str → Option Value) (x : Str) (C : Addr) (n : Nat) (fv : List V → List (Str × V)) : Prop where
  mx : MkX K P C none n fv
  ne : ∀ vs : List V, vs.length = n → fv vs ≠ []
  kp : PySem.W.keepIn K (.ref C) = true
  bP : PySem.W.subIn K (.ref C) (.type "BaseException") = some true
  tP : PySem.W.typeIn K (.ref C) = some (.type "type")
  g : mg x = some (.ref C)
  rd : ClsR K C
  nf : ∀ vs : List V, ∀ q, q ∈ fv vs → PySem.W.findIn K (.ref C) q.1 = some none
def fvOne (f : Str) : List V → List (Str × V) := fun vs => [(f, vs.getD 0 .non)]
/-- a judge of texts: it raises with the first that is none -/
def spCheck (K : PySem.W.Frag) (C : Addr) : Sp := fun vs H Q E => ∃ ds : List PyData, DqAll K H vs ds ∧ vs.length ≤ 100 ∧ (ds.all isText = true → ∀ H', Same H H' → Q .non H') ∧
  (∀ i x d, vs[i]? = some x → ds[i]? = some d → isText d = false → (∀ d', d' ∈ ds.take i → isText d' = true) → ∀ H' dd, Same H H' → H dd = none → H' dd = some (.xd [("value", x)]) → E (.ref C) (some dd) H')
end XR
namespace K14
open PySem L2 XR
abbrev sCheck : Stmt := top 17
section
variable {P : Program} {w : World} {K : PySem.W.Frag} {mg : Str → Option Value} {base : Heap}
theorem scCheck : FnScope ["texts", "text"] ["texts"] (defScope sCheck) := ⟨rfl, rfl, rfl, by decide +kernel, rfl, by decide +kernel, by decide +kernel⟩
theorem ok_check {f fI CT : Addr} {fdI : FuncData} {oc kV doc pm cdv ct : Value} {an od : Option Addr} {osl : Array (Option Value)}
    (lk : List.lookup f K = some { cls := oc, dict := od, data := Data.func (PySem.W.fnOf "check_texts" "check_texts" (defArgs sCheck) (defBody sCheck) (defScope sCheck) .none kV doc pm an cdv ct), slots := osl }) (hc : PySem.W.codeIn K cdv "check_texts" = true)
    (hsup : mg "super" = none) (XT : XOk P K mg "InvalidText" CT 1 (fvOne "value"))
    (FI : Fun K "is_text" "is_text" sIsText fI fdI) (GI : FnOk P w K mg base CX0 2 fI fdI ["value"] (spJudge K isText)) (bI : Binds K fdI ["value"] []) (mI : mg "is_text" = some (.ref fI)) : FnR P w K mg base (L2.CX P w) 3 f (spCheck K CT) := by
  have R := StX.fn_star (CX := L2.CX P w) (P := P) (w := w) (K := K) (mg := mg) (base := base) (k := 2) (ps := []) (pv := "texts") (N := ["texts", "text"])
    (sp := fun vs H Q E => ∃ (p : Addr) (xs : List V) (ds : List PyData), vs = [.ref p] ∧ H p = some (.tup xs) ∧ DqAll K H xs ds ∧ (ds.all isText = true → ∀ H', Same H H' → Q .non H') ∧
      (∀ i x d, xs[i]? = some x → ds[i]? = some d → isText d = false → (∀ d', d' ∈ ds.take i → isText d' = true) → ∀ H' dd, Same H H' → H dd = none → H' dd = some (.xd [("value", x)]) → E (.ref CT) (some dd) H'))
    lk hc scCheck StX.cxUp (fun us rest hl => by
      cases us with
      | nil => cases rest with
        | nil => rfl
        | cons r rs => rfl
      | cons a b => cases hl) (fun A outer s H vs Q E hr h => ?_)
  · intro A outer s H us vs Q E hr he r h
    refine R A outer s H us vs Q E hr he r ?_
    obtain ⟨ds, hd, hl, h1, h2⟩ := h
    refine ⟨[], vs, rfl, rfl, Nat.le_trans hl (by decide), fun p hp => ⟨p, vs, ds, rfl, upd_same, hd.same (same_upd hp), fun e H' s' => h1 e H' ((same_upd hp).trans s'), fun i x d a b c e H' dd s' n k => h2 i x d a b c e H' dd ((same_upd hp).trans s') ?_ k⟩⟩
    by_cases e : dd = p
    · rw [e]; exact hp
    · rw [upd_ne e] at n; exact n
  · obtain ⟨p, xs, ds, rfl, hp, hd, h1, h2⟩ := h
    refine ⟨_, pss_one (ps_for PySem.PassesOwn.leaving rfl (pi_tup (pv 0)) (pg_name (i := 1) scCheck.nd rfl (.inl rfl)) (pss_one (ps_if (pt_not (pt_val (pe_call GI hr rfl mI FI.kp bI .nil pass0 (pa_cons (pv 1) pa_nil))))
      (pss_one (ps_raiseX rfl (takes_of rfl rfl rfl rfl) XT.mx XT.ne XT.kp hr hsup XT.bP XT.tP rfl XT.g (pa_cons (pv 1) pa_nil))) pss_nil))), ?_⟩
    refine ⟨_, rfl, p, rfl, ⟨_, .inl (.inl hp)⟩, ?_⟩
    refine for_tup (K := K) (a := p) (xs := xs) (fun i σ H' => Same H H' ∧ (∃ x1, σ = [some (V.ref p), x1]) ∧ (∀ d', d' ∈ ds.take i → isText d' = true)) ⟨fun _ _ e => e, ⟨_, rfl⟩, fun d' h => by simp at h⟩ (fun i σ H' _ hh => .inl (.inl (hh.1 _ _ hp))) ?_ ?_
    · rintro i x σ H' hx ⟨sm, ⟨x1, rfl⟩, ht⟩
      obtain ⟨d, hd1, hd2⟩ := hd.get hx
      refine ⟨_, rfl, x, d, rfl, hd2.same sm, fun H2 s2 => ⟨_, rfl, ?_⟩⟩
      cases e : isText d with
      | true =>
        refine iteF ⟨sm.trans s2, ⟨_, rfl⟩, fun d' hd' => ?_⟩
        rw [List.take_add_one, hd1] at hd'
        rcases List.mem_append.mp hd' with h | h
        · exact ht d' h
        · have : d' = d := by simpa using h
          rw [this]; exact e
      | false =>
        refine iteT ⟨_, rfl, rfl, fun dd ndd => ?_⟩
        have s3 := sm.trans s2
        refine h2 i x d hx hd1 e ht _ dd (s3.trans (same_upd ndd)) ?_ upd_same
        cases q : H dd with
        | none => rfl
        | some o => rw [s3 _ _ q] at ndd; cases ndd
    · rintro σ H' ⟨sm, ⟨x1, rfl⟩, ht⟩
      refine h1 ?_ H' sm
      rw [List.all_eq_true]
      intro d' hd'
      refine ht d' ?_
      rw [hd.length, List.take_length]
      exact hd'
end
end K14
namespace XR
open PySem L2
/-- a text, a list or a tuple -/
def TxA (K : PySem.W.Frag) (H : Hp) (x : V) (ss : List Str) : Prop := ∃ a, x = .ref a ∧ (SqL K H a (ss.map V.str) ∨ SqT K H a (ss.map V.str))
theorem TxA.same {K : PySem.W.Frag} {H H' : Hp} {x : V} {ss : List Str} (s : Same H H') (h : TxA K H x ss) : TxA K H' x ss := by
  obtain ⟨a, e, h | h⟩ := h
  · exact ⟨a, e, .inl (s.seq h)⟩
  · exact ⟨a, e, .inr (XR.Same.tup s h)⟩
theorem dqStrs {K : PySem.W.Frag} {H : Hp} : ∀ ss : List Str, DqAll K H (ss.map V.str) (ss.map PyData.str)
  | [] => .nil
  | s :: ss => .cons (.str s) (dqStrs ss)
theorem TxA.dq {K : PySem.W.Frag} {H : Hp} {x : V} {ss : List Str} (h : TxA K H x ss) : ∃ d, Dq K H x d ∧ itemsOf d = ss.map PyData.str ∧ isSeq d = true := by
  obtain ⟨a, rfl, h | h⟩ := h
  · exact ⟨.list (ss.map .str), .lst h (dqStrs ss), rfl, rfl⟩
  · exact ⟨.tuple (ss.map .str), .tup h (dqStrs ss), rfl, rfl⟩
theorem word_line : ∀ s, s ∈ words → isLine (.str s) = true := by decide +kernel
theorem text_ok {d : PyData} {ss : List Str} (h1 : itemsOf d = ss.map PyData.str) (h2 : isSeq d = true) (w : Wd ss) (l : ss.length ≤ 60) : isText d = true := by
  unfold isText
  rw [h1, h2, List.length_map, decide_eq_true l, List.all_map]
  simp only [Bool.true_and]
  rw [List.all_eq_true]
  exact fun s hs => word_line s (w s hs)
def isTup (n : Int) : PyData → Bool
  | .tuple ds => decide ((ds.length : Int) = n)
  | _ => false
def isSpot : PyData → Bool
  | .tuple [a, b] => isWhole a && isWhole b
  | _ => false
def pairOk (ss1 ss2 : List Str) : PyData → Bool
  | .tuple [.int i, .int j] => decide (1 ≤ i) && (decide (i ≤ ss1.length) && (decide (1 ≤ j) && (decide (j ≤ ss2.length) && decide (ss1[(i - 1).toNat]? = ss2[(j - 1).toNat]?))))
  | _ => false
def spPair (K : PySem.W.Frag) : Sp := fun vs H Q _ => ∃ (x1 x2 v : V) (ss1 ss2 : List Str) (d : PyData), vs = [x1, x2, v] ∧ TxA K H x1 ss1 ∧ TxA K H x2 ss2 ∧ Dq K H v d ∧ ∀ H', Same H H' → Q (.bl (pairOk ss1 ss2 d)) H'
def spTup (K : PySem.W.Frag) : Sp := fun vs H Q _ => ∃ (x : V) (d : PyData) (n : Int), vs = [x, .int n] ∧ Dq K H x d ∧ ∀ H', Same H H' → Q (.bl (isTup n d)) H'
end XR
namespace K14
open PySem L2 XR
abbrev sPair : Stmt := top 25
section
variable {P : Program} {w : World} {K : PySem.W.Frag} {mg : Str → Option Value} {base : Heap}
theorem scTup : FnScope ["value", "many"] ["value", "many"] (defScope sIsTuple) := ⟨rfl, rfl, rfl, by decide +kernel, rfl, by decide +kernel, by decide +kernel⟩
theorem ok_tup {f : Addr} {fd : FuncData} (F : Fun K "is_tuple" "is_tuple" sIsTuple f fd) (T : Blt mg) : FnOk P w K mg base CX0 1 f fd ["value", "many"] (spTup K) := by
  refine F.ok scTup (fun vs H Q E h => ?_) (fun cdv A outer s H vs Q E hr h => ?_)
  · obtain ⟨x, d, n, rfl, _⟩ := h
    rfl
  · obtain ⟨x, d, n, rfl, hd, z⟩ := h
    refine ⟨_, pss_one (ps_ret (pe_and (pe_callB call_isi (by rfl) T.isin (by decide +kernel) (pa_cons (pv 0) (pa_cons (pe_bltn (v := .ty "tuple") (u := .type "tuple") (by rfl) (T.all "tuple" (by decide)) (by decide +kernel) rfl) pa_nil)))
      (pe_one (pe_cmpR op_eq (pe_callB call_len_seq (by rfl) T.len PySem.boot_len (pa_cons (pv 0) pa_nil)) (pv 1) (nomark _))))), ?_⟩
    refine ⟨_, rfl, x, _, _, _, _, rfl, .ty "tuple", hd.ty, kit_ty (kit_tuple d), _, rfl, ?_⟩
    have zz := z H (fun _ _ e => e)
    cases hd with
    | @tup a xs ds h1 h2 =>
      refine iteT ⟨_, rfl, a, xs, rfl, .inr h1, _, rfl, rfl, ?_⟩
      have e : decide (V.int ((xs.length : Nat) : Int) = V.int n) = isTup n (.tuple ds) := by
        show _ = decide ((ds.length : Int) = n)
        rw [h2.length]
        by_cases q : ((ds.length : Nat) : Int) = n
        · rw [decide_eq_true q, q]; simp
        · rw [decide_eq_false q]; simp [q]
      rw [e]
      exact zz
    | non => exact iteF zz
    | bl b => exact iteF zz
    | int i => exact iteF zz
    | str s => exact iteF zz
    | lst h1 h2 => exact iteF zz
    | dct h1 h2 h3 => exact iteF zz
end
end K14
namespace XR
open PySem L2
theorem DqAll.two {K : PySem.W.Frag} {H : Hp} {xs : List V} {ds : List PyData} (h : DqAll K H xs ds) (e : ds.length = 2) : ∃ d1 d2 y1 y2, ds = [d1, d2] ∧ xs = [y1, y2] ∧ Dq K H y1 d1 ∧ Dq K H y2 d2 := by
  cases h with
  | nil => cases e
  | cons a h =>
    cases h with
    | nil => cases e
    | cons b h =>
      cases h with
      | nil => exact ⟨_, _, _, _, rfl, rfl, a, b⟩
      | cons c h => simp at e
end XR
namespace K14
open PySem L2 XR
section
variable {P : Program} {w : World} {K : PySem.W.Frag} {mg : Str → Option Value} {base : Heap}
theorem scSpot : FnScope ["value"] ["value"] (defScope sSpot) := ⟨rfl, rfl, rfl, by decide +kernel, rfl, by decide +kernel, by decide +kernel⟩
theorem ok_spot {f fT fW : Addr} {fd fdT fdW : FuncData} (F : Fun K "is_spot" "is_spot" sSpot f fd) (T : Blt mg) (FT : Fun K "is_tuple" "is_tuple" sIsTuple fT fdT) (bT : Binds K fdT ["value", "many"] []) (mT : mg "is_tuple" = some (.ref fT))
    (FW : Fun K "is_whole" "is_whole" sWhole fW fdW) (bW : Binds K fdW ["value"] []) (mW : mg "is_whole" = some (.ref fW)) : FnOk P w K mg base CX0 2 f fd ["value"] (spJudge K isSpot) := by
  have GT := ok_tup (P := P) (w := w) (base := base) FT T
  have GW := ok_whole (P := P) (w := w) (base := base) FW T
  refine F.ok scSpot (fun vs H Q E h => ?_) (fun cdv A outer s H vs Q E hr h => ?_)
  · obtain ⟨x, d, rfl, _⟩ := h
    rfl
  · obtain ⟨x, d, rfl, hd, z⟩ := h
    refine ⟨_, pss_one (ps_ret (pe_and (pe_call GT hr rfl mT FT.kp bT .nil pass0 (pa_cons (pv 0) (pa_cons pe_int pa_nil))) (pe_and (pe_call GW hr rfl mW FW.kp bW .nil pass0 (pa_cons (pe_ix ix_tup (pv 0) pe_int (fun _ _ => rfl)) pa_nil))
      (pe_one (pe_call GW hr rfl mW FW.kp bW .nil pass0 (pa_cons (pe_ix ix_tup (pv 0) pe_int (fun _ _ => rfl)) pa_nil)))))), ?_⟩
    refine ⟨_, rfl, x, d, 2, rfl, hd, fun H1 s1 => ⟨_, rfl, ?_⟩⟩
    have zz := z H1 s1
    have no : isTup 2 d = false → isSpot d = false := by
      intro h
      cases d with
      | tuple ds =>
        have h' : decide ((ds.length : Int) = 2) = false := h
        rcases ds with _ | ⟨d1, _ | ⟨d2, _ | ⟨d3, ds⟩⟩⟩
        · rfl
        · rfl
        · exact absurd rfl (of_decide_eq_false h')
        · rfl
      | _ => rfl
    cases e : isTup 2 d with
    | false =>
      rw [no e] at zz
      exact iteF zz
    | true =>
      cases hd with
      | @tup a xs ds h1 h2 =>
        have e2 : ds.length = 2 := by
          have : ((ds.length : Nat) : Int) = 2 := of_decide_eq_true e
          omega
        obtain ⟨d1, d2, y1, y2, rfl, rfl, k1, k2⟩ := h2.two e2
        refine iteT ⟨_, rfl, a, _, _, _, rfl, rfl, XR.Same.tup s1 h1, atI_nat (j := 0) rfl, y1, d1, rfl, k1.same s1, fun H2 s2 => ⟨_, rfl, ?_⟩⟩
        have zz2 := z H2 (s1.trans s2)
        cases e3 : isWhole d1 with
        | false =>
          have e4 : isSpot (.tuple [d1, d2]) = false := by show (isWhole d1 && isWhole d2) = false; rw [e3]; rfl
          rw [e4] at zz2
          exact iteF zz2
        | true =>
          refine iteT ⟨_, rfl, a, _, _, _, rfl, rfl, XR.Same.tup s2 (XR.Same.tup s1 h1), atI_nat (j := 1) rfl, y2, d2, rfl, (k2.same s1).same s2, fun H3 s3 => ?_⟩
          have e4 : isSpot (.tuple [d1, d2]) = isWhole d2 := by show (isWhole d1 && isWhole d2) = _; rw [e3]; rfl
          have zz3 := z H3 (s1.trans (s2.trans s3))
          rw [e4] at zz3
          exact zz3
      | non => cases e
      | bl b => cases e
      | int i => cases e
      | str s => cases e
      | lst h1 h2 => cases e
      | dct h1 h2 h3 => cases e
end
end K14
namespace XR
open PySem L2
theorem spot_is {K : PySem.W.Frag} {H : Hp} {v : V} {d : PyData} (h : Dq K H v d) (e : isSpot d = true) : ∃ (a : Addr) (i j : Int), v = .ref a ∧ d = .tuple [.int i, .int j] ∧ SqT K H a [.int i, .int j] := by
  cases h with
  | @tup a xs ds h1 h2 =>
    rcases ds with _ | ⟨d1, _ | ⟨d2, _ | ⟨d3, ds⟩⟩⟩
    · cases e
    · cases e
    · obtain ⟨d1', d2', y1, y2, e1, rfl, k1, k2⟩ := h2.two rfl
      injection e1 with e1 e3
      injection e3 with e3 _
      subst e1 e3
      have e4 : (isWhole d1 && isWhole d2) = true := e
      rw [Bool.and_eq_true] at e4
      cases k1 with
      | int i =>
        cases k2 with
        | int j => exact ⟨a, _, _, rfl, rfl, h1⟩
        | _ => exact absurd (show false = true from e4.2) Bool.false_ne_true
      | _ => exact absurd (show false = true from e4.1) Bool.false_ne_true
    · cases e
  | _ => cases e
theorem not_spot {ss1 ss2 : List Str} {d : PyData} (e : isSpot d = false) : pairOk ss1 ss2 d = false := by
  unfold pairOk
  split
  · cases e
  · rfl
/-- text[i] -/
theorem TxA.ix {K : PySem.W.Frag} {H : Hp} {x : V} {ss : List Str} {Q : VK} {i : Nat} {s : Str} (h : TxA K H x ss) (e : ss[i]? = some s) {z : Int} (hz : z = (i : Int)) (q : Q (.str s) H) : rIx K x (.int z) H Q := by
  obtain ⟨a, rfl, h | h⟩ := h
  · exact .inl ⟨a, _, z, .str s, rfl, rfl, h, by rw [hz]; exact atI_nat (by rw [List.getElem?_map, e]; rfl), q⟩
  · exact .inr (.inl ⟨a, _, z, .str s, rfl, rfl, h, by rw [hz]; exact atI_nat (by rw [List.getElem?_map, e]; rfl), q⟩)
/-- len(text) -/
theorem TxA.len {K : PySem.W.Frag} {H : Hp} {x : V} {ss : List Str} (h : TxA K H x ss) {Q : VK} (q : Q (.int (ss.length : Nat)) H) : ∃ p ys, [x] = [V.ref p] ∧ (SqL K H p ys ∨ SqT K H p ys) ∧ Q (.int (ys.length : Nat)) H := by
  obtain ⟨a, rfl, h⟩ := h
  exact ⟨a, ss.map V.str, rfl, h, by rw [List.length_map]; exact q⟩
end XR
namespace K14
open PySem L2 XR
section
variable {P : Program} {w : World} {K : PySem.W.Frag} {mg : Str → Option Value} {base : Heap}
theorem scPair : FnScope ["old", "new", "value", "i", "j"] ["old", "new", "value"] (defScope sPair) := ⟨rfl, rfl, rfl, by decide +kernel, rfl, by decide +kernel, by decide +kernel⟩
theorem ok_pair {f fS : Addr} {fd fdS : FuncData} (F : Fun K "is_pair" "is_pair" sPair f fd) (T : Blt mg) (FS : Fun K "is_spot" "is_spot" sSpot fS fdS) (GS : FnOk P w K mg base CX0 2 fS fdS ["value"] (spJudge K isSpot)) (bS : Binds K fdS ["value"] []) (mS : mg "is_spot" = some (.ref fS)) : FnOk P w K mg base CX0 3 f fd ["old", "new", "value"] (spPair K) := by
  refine F.ok scPair (fun vs H Q E h => ?_) (fun cdv A outer s H vs Q E hr h => ?_)
  · obtain ⟨x1, x2, v, ss1, ss2, d, rfl, _⟩ := h
    rfl
  · obtain ⟨x1, x2, v, ss1, ss2, d, rfl, t1, t2, hd, z⟩ := h
    refine ⟨_, pss_cons (ps_if (pt_not (pt_val (pe_call GS hr rfl mS FS.kp bS .nil pass0 (pa_cons (pv 2) pa_nil)))) (pss_one (ps_ret pe_bl)) pss_nil)
      (pss_cons (ps_asg (pv 2) (pg_tup rfl (pgs_cons (pg_name (i := 3) scPair.nd rfl (.inl rfl)) (pgs_cons (pg_name (i := 4) scPair.nd rfl (.inl rfl)) pgs_nil))))
      (pss_one (ps_ret (pe_and (pe_chain op_le op_le pe_int (pv 3) (pe_callB call_len_seq (by rfl) T.len PySem.boot_len (pa_cons (pv 0) pa_nil))) (pe_and (pe_chain op_le op_le pe_int (pv 4) (pe_callB call_len_seq (by rfl) T.len PySem.boot_len (pa_cons (pv 1) pa_nil)))
        (pe_one (pe_cmpR op_eq (pe_ix ix_seq (pv 0) (pe_op op_sub (pv 3) pe_int) (fun _ _ => rfl)) (pe_ix ix_seq (pv 1) (pe_op op_sub (pv 4) pe_int) (fun _ _ => rfl)) (nomark _)))))))), ?_⟩
    refine ⟨_, rfl, v, d, rfl, hd, fun H1 s1 => ⟨_, rfl, ?_⟩⟩
    have zz := z H1 s1
    cases e : isSpot d with
    | false =>
      rw [not_spot e] at zz
      exact iteT zz
    | true =>
      obtain ⟨a, i, j, rfl, rfl, hs⟩ := spot_is hd e
      have hs1 := XR.Same.tup s1 hs
      refine iteF ⟨_, rfl, a, _, rfl, hs1, rfl, _, _, rfl, _, _, rfl, rfl, ?_⟩
      have t1' := t1.same s1
      have t2' := t2.same s1
      obtain ⟨a1, rfl, ha1⟩ := id t1'
      obtain ⟨a2, rfl, ha2⟩ := id t2'
      have hz : pairOk ss1 ss2 (.tuple [.int i, .int j]) = (decide (1 ≤ i) && (decide (i ≤ ss1.length) && (decide (1 ≤ j) && (decide (j ≤ ss2.length) && decide (ss1[(i - 1).toNat]? = ss2[(j - 1).toNat]?))))) := rfl
      rw [hz] at zz
      refine ⟨_, rfl, _, _, rfl, rfl, _, rfl, ?_⟩
      by_cases c1 : (1 : Int) ≤ i
      · rw [decide_eq_true c1] at zz ⊢
        refine iteT ⟨_, rfl, a1, _, rfl, ha1, _, _, rfl, rfl, _, rfl, ?_⟩
        rw [List.length_map]
        by_cases c2 : i ≤ (ss1.length : Int)
        · rw [decide_eq_true c2] at zz ⊢
          refine iteT ⟨_, rfl, _, _, rfl, rfl, _, rfl, ?_⟩
          by_cases c3 : (1 : Int) ≤ j
          · rw [decide_eq_true c3] at zz ⊢
            refine iteT ⟨_, rfl, a2, _, rfl, ha2, _, _, rfl, rfl, _, rfl, ?_⟩
            rw [List.length_map]
            by_cases c4 : j ≤ (ss2.length : Int)
            · rw [decide_eq_true c4] at zz ⊢
              have l1 : (i - 1).toNat < ss1.length := by omega
              have l2 : (j - 1).toNat < ss2.length := by omega
              refine iteT ⟨_, rfl, _, rfl, _, _, rfl, rfl, TxA.ix t1' (List.getElem?_eq_getElem l1) (by omega) ⟨_, rfl, _, rfl, _, _, rfl, rfl, TxA.ix t2' (List.getElem?_eq_getElem l2) (by omega) ⟨rfl, ?_⟩⟩⟩
              have e5 : decide (V.str ss1[(i - 1).toNat] = V.str ss2[(j - 1).toNat]) = decide (ss1[(i - 1).toNat]? = ss2[(j - 1).toNat]?) := by
                rw [List.getElem?_eq_getElem l1, List.getElem?_eq_getElem l2]
                by_cases q : ss1[(i - 1).toNat] = ss2[(j - 1).toNat]
                · rw [q]; simp
                · rw [decide_eq_false (fun h => q (by injection h)), decide_eq_false (fun h => q (Option.some.inj h))]
              rw [e5]
              exact zz
            · rw [decide_eq_false c4] at zz ⊢
              exact iteF zz
          · rw [decide_eq_false c3] at zz ⊢
            exact iteF ⟨_, rfl, iteF zz⟩
        · rw [decide_eq_false c2] at zz ⊢
          exact iteF zz
      · rw [decide_eq_false c1] at zz ⊢
        exact iteF ⟨_, rfl, iteF zz⟩
end
end K14
namespace XR
open PySem L2
/-- a zip of two tuples -/
theorem walk_zipT {K : PySem.W.Frag} {a b : Addr} {xs ys : List V} {n : Nat} (hn : n = min xs.length ys.length) : Walk (RZ.ItzT K a b) n (fun H => SqT K H a xs ∧ SqT K H b ys) (YPair (fun i => xs[i]?) fun i => ys[i]?) := by
  refine ⟨fun i H hi ⟨h1, h2⟩ => ?_, fun H ⟨h1, h2⟩ => ⟨xs, ys, h1, h2, ?_⟩, fun i H x H' hi ⟨h1, h2⟩ h => ?_⟩
  · have l1 : i < xs.length := by omega
    have l2 : i < ys.length := by omega
    exact ⟨xs, ys, xs[i], ys[i], h1, h2, List.getElem?_eq_getElem l1, List.getElem?_eq_getElem l2⟩
  · omega
  · obtain ⟨T, x, y, e1, e2, e3, q1, q2⟩ := h
    exact ⟨T, x, y, e1, e2, e3, q1 xs h1, q2 ys h2⟩
/-- the items of a tuple are pairs of whole numbers -/
def Prs (K : PySem.W.Frag) (H : Hp) (xs : List V) (ps : List (Int × Int)) : Prop := xs.length = ps.length ∧ ∀ (i : Nat) (q : Int × Int), ps[i]? = some q → ∃ a : Addr, xs[i]? = some (V.ref a) ∧ SqT K H a [.int q.1, .int q.2]
theorem Prs.same {K : PySem.W.Frag} {H H' : Hp} {xs : List V} {ps : List (Int × Int)} (s : Same H H') (h : Prs K H xs ps) : Prs K H' xs ps :=
  ⟨h.1, fun i q hq => let ⟨a, h1, h2⟩ := h.2 i q hq; ⟨a, h1, XR.Same.tup s h2⟩⟩
def riseB (p q : Int × Int) : Bool := decide (p.1 < q.1) && decide (p.2 < q.2)
def rising (ps : List (Int × Int)) : Bool := (List.zipWith riseB ps (ps.drop 1)).all id
def spRise (K : PySem.W.Frag) : Sp := fun vs H Q _ => ∃ (t : Addr) (xs : List V) (ps : List (Int × Int)), vs = [.ref t] ∧ SqT K H t xs ∧ Prs K H xs ps ∧ ps.length ≤ 1000 ∧ ∀ H', Same H H' → Q (.bl (rising ps)) H'
theorem cut_one (xs : List V) : cutV xs (some 1) none = xs.drop 1 := by
  unfold cutV HT.sIx
  simp only [if_neg (show ¬ (1 : Int) < 0 by decide)]
  rcases xs with _ | ⟨x, xs⟩
  · rfl
  · have e : min (1 : Int).toNat (x :: xs).length = 1 := by
      show min 1 (xs.length + 1) = 1
      omega
    rw [e]
    show List.take (xs.length + 1 - 1) xs = xs
    rw [Nat.add_sub_cancel, List.take_length]
theorem tup_upd {K : PySem.W.Frag} {H : Hp} {a p : Addr} {xs ys zs : List V} (h : SqT K H a xs) (k : H p = some (.lst ys)) : SqT K (upd H p (.lst zs)) a xs := by
  rcases h with (h | ⟨o, h⟩) | h
  · exact .inl (.inl (by rw [upd_ne (fun e => by rw [e, k] at h; cases h)]; exact h))
  · exact .inl (.inr ⟨o, by rw [upd_ne (fun e => by rw [e, k] at h; cases h)]; exact h⟩)
  · exact .inr h
end XR
namespace K14
open PySem L2 XR
abbrev sRising : Stmt := top 26
section
variable {P : Program} {w : World} {K : PySem.W.Frag} {mg : Str → Option Value} {base : Heap}
theorem scRising : FnScope ["pairs", "i", "j", "k", "n"] ["pairs"] (defScope sRising) := ⟨rfl, rfl, rfl, by decide +kernel, rfl, by decide +kernel, by decide +kernel⟩
theorem ok_rising {f : Addr} {fd : FuncData} (F : Fun K "is_rising" "is_rising" sRising f fd) (T : Blt mg) : FnOk P w K mg base CX0 1 f fd ["pairs"] (spRise K) := by
  refine F.ok scRising (fun vs H Q E h => ?_) (fun cdv A outer s H vs Q E hr h => ?_)
  · obtain ⟨t, xs, ps, rfl, _⟩ := h
    rfl
  · obtain ⟨t, xs, ps, rfl, ht, hp, hl, z⟩ := h
    refine ⟨_, pss_one (ps_ret (pe_callB (cr_all rfl) (by rfl) (T.all "all" (by decide)) (by decide +kernel) (pa_cons (pe_lc (own := [("i", 1), ("j", 2), ("k", 3), ("n", 4)]) (g := gTup K 2 (gCons (gTup K 2 (gCons (gName 1) (gCons (gName 2) gNil))) (gCons (gTup K 2 (gCons (gName 3) (gCons (gName 4) gNil))) gNil))) (tt := tYes)
        (te := tAndV (tOp (rI0 fun i j => V.bl (decide (i < j))) (tVar 1) (tVar 3)) (tOp (rI0 fun i j => V.bl (decide (i < j))) (tVar 2) (tVar 4))) rfl scRising.nd
        (RZ.pi_zipA rfl (T.all "zip" (by decide)) (pa_cons (pv 0) (pa_cons (pe_slice sl_tupA (pv 0) (po_some pe_int) po_none) pa_nil)))
        (blkOk_by (own := [("i", 1), ("j", 2), ("k", 3), ("n", 4)]) (N := ["pairs", "i", "j", "k", "n"]) (sc := defScope sRising) (by decide +kernel))
        (fun _ _ _ _ _ => pg_tup rfl (pgs_cons (pg_tup rfl (pgs_cons (pg_name (i := 1) scRising.nd rfl (.inl rfl)) (pgs_cons (pg_name (i := 2) scRising.nd rfl (.inl rfl)) pgs_nil))) (pgs_cons (pg_tup rfl (pgs_cons (pg_name (i := 3) scRising.nd rfl (.inl rfl)) (pgs_cons (pg_name (i := 4) scRising.nd rfl (.inl rfl)) pgs_nil))) pgs_nil))) (fun _ _ _ _ _ => pts_nil)
        (fun _ _ _ _ _ => pe_and (pe_cmpR op_lt (pv 1) (pv 3) (nomark _)) (pe_one (pe_cmpR op_lt (pv 2) (pv 4) (nomark _))))) pa_nil))), ?_⟩
    refine ⟨_, rfl, _, rfl, 1, rfl, t, xs, rfl, ht, fun hw => ?_, fun hn p np => ?_⟩
    · have e0 : xs.drop 1 = xs := by
        have h0 : (if (1 : Int) < 0 then ((1 : Int) + (xs.length : Nat)).toNat else min (1 : Int).toNat xs.length) = 0 := hw.1
        rw [if_neg (by decide)] at h0
        have h1 : min 1 xs.length = 0 := h0
        have h2 : xs.length = 0 := by omega
        rw [List.eq_nil_of_length_eq_zero h2]
        rfl
      have hmin : (ps.drop 1).length = min xs.length (xs.drop 1).length := by rw [List.length_drop, List.length_drop, hp.1]; omega
      have s1 : Same H H := fun _ _ e => e
      have h1 := ht
      have hu : SqT K H t (xs.drop 1) := by rw [e0]; exact ht
      refine ⟨t, t, xs, xs.drop 1, rfl, .inr ⟨h1, hu, fun D nD => ?_⟩⟩
      have sD := same_upd (o := .lst []) nD
      refine lc_it (walk_zipT (n := (ps.drop 1).length) hmin) (fun i H' => Same H H' ∧ SqT K H' t xs ∧ SqT K H' t (xs.drop 1) ∧ H' D = some (.lst (((List.zipWith riseB ps (ps.drop 1)).take i).map V.bl))) ⟨s1.trans sD, XR.Same.tup sD h1, XR.Same.tup sD hu, upd_same⟩ (fun i H' _ hh => ⟨hh.2.1, hh.2.2.1⟩) ?_ ?_
      · rintro i x Ha Hb hi ⟨sm, h1', h2', hD⟩ ⟨T0, y1, y2, rfl, nT, rfl, e1, e2⟩
        rw [List.length_drop] at hi
        have i1 : i < ps.length := by omega
        have i2 : i + 1 < ps.length := by omega
        obtain ⟨a1, x1, k1⟩ := hp.2 i _ (List.getElem?_eq_getElem i1)
        obtain ⟨a2, x2, k2⟩ := hp.2 (i + 1) _ (List.getElem?_eq_getElem i2)
        have e2' : xs[1 + i]? = some y2 := by rw [← List.getElem?_drop]; exact e2
        rw [Nat.add_comm 1 i] at e2'
        obtain rfl : y1 = V.ref a1 := Option.some.inj (e1.symm.trans x1)
        obtain rfl : y2 = V.ref a2 := Option.some.inj (e2'.symm.trans x2)
        have sT := same_upd (o := .tup [V.ref a1, V.ref a2]) nT
        have sa := sm.trans sT
        refine ⟨T0, _, rfl, .inl (.inl upd_same), rfl, _, _, rfl, a1, _, rfl, XR.Same.tup sa k1, rfl, _, _, rfl, _, _, rfl, rfl, _, _, rfl, a2, _, rfl, XR.Same.tup sa k2, rfl, _, _, rfl, _, _, rfl, rfl, rfl, rfl, ?_⟩
        unfold tYes
        dsimp only
        rw [if_pos rfl]
        have hD' := sT _ _ hD
        have hz : (List.zipWith riseB ps (ps.drop 1))[i]? = some (riseB ps[i] ps[i + 1]) := by
          rw [List.getElem?_zipWith, List.getElem?_eq_getElem i1, List.getElem?_drop, Nat.add_comm 1 i, List.getElem?_eq_getElem i2]
        have fin : ∀ c : Bool, c = riseB ps[i] ps[i + 1] → ∃ acc, upd Ha T0 (.tup [V.ref a1, V.ref a2]) D = some (.lst acc) ∧ acc.length < sizeLine ∧ (Same H (upd (upd Ha T0 (.tup [V.ref a1, V.ref a2])) D (.lst (acc ++ [V.bl c]))) ∧ SqT K (upd (upd Ha T0 (.tup [V.ref a1, V.ref a2])) D (.lst (acc ++ [V.bl c]))) t xs ∧ SqT K (upd (upd Ha T0 (.tup [V.ref a1, V.ref a2])) D (.lst (acc ++ [V.bl c]))) t (xs.drop 1) ∧ upd (upd Ha T0 (.tup [V.ref a1, V.ref a2])) D (.lst (acc ++ [V.bl c])) D = some (.lst (((List.zipWith riseB ps (ps.drop 1)).take (i + 1)).map V.bl))) := fun c hc => by
          refine ⟨_, hD', ?_, fun b o h => ?_, XR.tup_upd (XR.Same.tup sT h1') hD', XR.tup_upd (XR.Same.tup sT h2') hD', ?_⟩
          · rw [List.length_map, List.length_take]
            exact Nat.lt_of_le_of_lt (Nat.min_le_left _ _) (Nat.lt_of_lt_of_le i1 (Nat.le_trans hl (by decide)))
          · have hb := s1 _ _ h
            rw [upd_ne (ne_of_none hb nD)]
            exact sa _ _ h
          · rw [upd_same, List.take_add_one, hz, List.map_append, hc]
            rfl
        refine ⟨_, rfl, _, rfl, _, _, rfl, rfl, _, rfl, ?_⟩
        by_cases c1 : ps[i].1 < ps[i + 1].1
        · rw [decide_eq_true c1]
          refine iteT ⟨_, rfl, _, rfl, _, _, rfl, rfl, fin _ ?_⟩
          unfold riseB
          rw [decide_eq_true c1]
          rfl
        · rw [decide_eq_false c1]
          refine iteF (fin _ ?_)
          unfold riseB
          rw [decide_eq_false c1]
          rfl
      · rintro H' ⟨sm, _, _, hD⟩
        refine ⟨D, List.zipWith riseB ps (ps.drop 1), rfl, SqL.of ?_, z _ sm⟩
        rw [hD, List.take_of_length_le]
        rw [List.length_zipWith]
        exact Nat.min_le_right _ _
    · have hmin : (ps.drop 1).length = min xs.length (xs.drop 1).length := by rw [List.length_drop, List.length_drop, hp.1]; omega
      rw [cut_one]
      have s1 := same_upd (o := .tup (xs.drop 1)) np
      have h1 := XR.Same.tup s1 ht
      have hu : SqT K (upd H p (.tup (xs.drop 1))) p (xs.drop 1) := .inl (.inl upd_same)
      generalize upd H p (.tup (xs.drop 1)) = H1 at s1 h1 hu ⊢
      refine ⟨t, p, xs, xs.drop 1, rfl, .inr ⟨h1, hu, fun D nD => ?_⟩⟩
      have sD := same_upd (o := .lst []) nD
      refine lc_it (walk_zipT (n := (ps.drop 1).length) hmin) (fun i H' => Same H H' ∧ SqT K H' t xs ∧ SqT K H' p (xs.drop 1) ∧ H' D = some (.lst (((List.zipWith riseB ps (ps.drop 1)).take i).map V.bl))) ⟨s1.trans sD, XR.Same.tup sD h1, XR.Same.tup sD hu, upd_same⟩ (fun i H' _ hh => ⟨hh.2.1, hh.2.2.1⟩) ?_ ?_
      · rintro i x Ha Hb hi ⟨sm, h1', h2', hD⟩ ⟨T0, y1, y2, rfl, nT, rfl, e1, e2⟩
        rw [List.length_drop] at hi
        have i1 : i < ps.length := by omega
        have i2 : i + 1 < ps.length := by omega
        obtain ⟨a1, x1, k1⟩ := hp.2 i _ (List.getElem?_eq_getElem i1)
        obtain ⟨a2, x2, k2⟩ := hp.2 (i + 1) _ (List.getElem?_eq_getElem i2)
        have e2' : xs[1 + i]? = some y2 := by rw [← List.getElem?_drop]; exact e2
        rw [Nat.add_comm 1 i] at e2'
        obtain rfl : y1 = V.ref a1 := Option.some.inj (e1.symm.trans x1)
        obtain rfl : y2 = V.ref a2 := Option.some.inj (e2'.symm.trans x2)
        have sT := same_upd (o := .tup [V.ref a1, V.ref a2]) nT
        have sa := sm.trans sT
        refine ⟨T0, _, rfl, .inl (.inl upd_same), rfl, _, _, rfl, a1, _, rfl, XR.Same.tup sa k1, rfl, _, _, rfl, _, _, rfl, rfl, _, _, rfl, a2, _, rfl, XR.Same.tup sa k2, rfl, _, _, rfl, _, _, rfl, rfl, rfl, rfl, ?_⟩
        unfold tYes
        dsimp only
        rw [if_pos rfl]
        have hD' := sT _ _ hD
        have hz : (List.zipWith riseB ps (ps.drop 1))[i]? = some (riseB ps[i] ps[i + 1]) := by
          rw [List.getElem?_zipWith, List.getElem?_eq_getElem i1, List.getElem?_drop, Nat.add_comm 1 i, List.getElem?_eq_getElem i2]
        have fin : ∀ c : Bool, c = riseB ps[i] ps[i + 1] → ∃ acc, upd Ha T0 (.tup [V.ref a1, V.ref a2]) D = some (.lst acc) ∧ acc.length < sizeLine ∧ (Same H (upd (upd Ha T0 (.tup [V.ref a1, V.ref a2])) D (.lst (acc ++ [V.bl c]))) ∧ SqT K (upd (upd Ha T0 (.tup [V.ref a1, V.ref a2])) D (.lst (acc ++ [V.bl c]))) t xs ∧ SqT K (upd (upd Ha T0 (.tup [V.ref a1, V.ref a2])) D (.lst (acc ++ [V.bl c]))) p (xs.drop 1) ∧ upd (upd Ha T0 (.tup [V.ref a1, V.ref a2])) D (.lst (acc ++ [V.bl c])) D = some (.lst (((List.zipWith riseB ps (ps.drop 1)).take (i + 1)).map V.bl))) := fun c hc => by
          refine ⟨_, hD', ?_, fun b o h => ?_, XR.tup_upd (XR.Same.tup sT h1') hD', XR.tup_upd (XR.Same.tup sT h2') hD', ?_⟩
          · rw [List.length_map, List.length_take]
            exact Nat.lt_of_le_of_lt (Nat.min_le_left _ _) (Nat.lt_of_lt_of_le i1 (Nat.le_trans hl (by decide)))
          · have hb := s1 _ _ h
            rw [upd_ne (ne_of_none hb nD)]
            exact sa _ _ h
          · rw [upd_same, List.take_add_one, hz, List.map_append, hc]
            rfl
        refine ⟨_, rfl, _, rfl, _, _, rfl, rfl, _, rfl, ?_⟩
        by_cases c1 : ps[i].1 < ps[i + 1].1
        · rw [decide_eq_true c1]
          refine iteT ⟨_, rfl, _, rfl, _, _, rfl, rfl, fin _ ?_⟩
          unfold riseB
          rw [decide_eq_true c1]
          rfl
        · rw [decide_eq_false c1]
          refine iteF (fin _ ?_)
          unfold riseB
          rw [decide_eq_false c1]
          rfl
      · rintro H' ⟨sm, _, _, hD⟩
        refine ⟨D, List.zipWith riseB ps (ps.drop 1), rfl, SqL.of ?_, z _ sm⟩
        rw [hD, List.take_of_length_le]
        rw [List.length_zipWith]
        exact Nat.min_le_right _ _
end
end K14
namespace XR
open PySem L2
def strOf : PyData → Str
  | .str s => s
  | _ => ""
def strsOf (d : PyData) : List Str := (itemsOf d).map strOf
def pairOf : PyData → Int × Int
  | .tuple [.int i, .int j] => (i, j)
  | _ => (0, 0)
def isDiffB (ss1 ss2 : List Str) : PyData → Bool
  | .tuple ds => ds.all (pairOk ss1 ss2) && rising (ds.map pairOf)
  | _ => false
theorem all_line : ∀ (ds : List PyData), ds.all isLine = true → ds = (ds.map strOf).map PyData.str
  | [], _ => rfl
  | d :: ds, h => by
    rw [List.all_cons, Bool.and_eq_true] at h
    have ih := all_line ds h.2
    have e : d = PyData.str (strOf d) := by
      cases d with
      | str s => rfl
      | _ => exact absurd (show false = true from h.1) Bool.false_ne_true
    show d :: ds = PyData.str (strOf d) :: ((ds.map strOf).map PyData.str)
    rw [← ih, ← e]
theorem dq_strs {K : PySem.W.Frag} {H : Hp} : ∀ {xs : List V} {ss : List Str}, DqAll K H xs (ss.map PyData.str) → xs = ss.map V.str
  | [], [], _ => rfl
  | x :: xs, s :: ss, .cons a b => by
    have e := dq_strs (ss := ss) b
    cases a
    rw [e]
    rfl
theorem text_is {K : PySem.W.Frag} {H : Hp} {x : V} {d : PyData} (h : Dq K H x d) (e : isText d = true) : TxA K H x (strsOf d) := by
  unfold isText at e
  rw [Bool.and_eq_true, Bool.and_eq_true] at e
  obtain ⟨e1, e2, e3⟩ := e
  cases h with
  | @lst a xs ds h1 h2 =>
    have k : ds = (ds.map strOf).map PyData.str := all_line ds e3
    rw [k] at h2
    have q := dq_strs h2
    rw [q] at h1
    exact ⟨a, rfl, .inl h1⟩
  | @tup a xs ds h1 h2 =>
    have k : ds = (ds.map strOf).map PyData.str := all_line ds e3
    rw [k] at h2
    have q := dq_strs h2
    rw [q] at h1
    exact ⟨a, rfl, .inr h1⟩
  | _ => exact absurd (show false = true from e1) Bool.false_ne_true
theorem pairOk_spot {ss1 ss2 : List Str} {d : PyData} (e : pairOk ss1 ss2 d = true) : isSpot d = true := by
  cases q : isSpot d with
  | true => rfl
  | false => rw [not_spot q] at e; cases e
theorem prs_of {K : PySem.W.Frag} {H : Hp} {xs : List V} {ds : List PyData} {ss1 ss2 : List Str} (h : DqAll K H xs ds) (e : ds.all (pairOk ss1 ss2) = true) : Prs K H xs (ds.map pairOf) := by
  refine ⟨by rw [List.length_map, h.length], fun i q hq => ?_⟩
  rw [List.getElem?_map] at hq
  obtain ⟨d, hd, rfl⟩ := Option.map_eq_some_iff.mp hq
  have hi : i < xs.length := by rw [h.length]; exact (List.getElem?_eq_some_iff.mp hd).1
  obtain ⟨d', hd', hdq⟩ := h.get (List.getElem?_eq_getElem hi)
  obtain rfl : d = d' := Option.some.inj (hd.symm.trans hd')
  have ed := (List.all_eq_true.mp e) d (List.mem_of_getElem? hd)
  obtain ⟨a, i', j', e1, rfl, hs⟩ := spot_is hdq (pairOk_spot ed)
  exact ⟨a, by rw [List.getElem?_eq_getElem hi, e1], hs⟩
/-- the way out of a judge of texts -/
def BadT (C : Addr) (vs : List V) (ds : List PyData) (H : Hp) (E : XK) : Prop :=
  ∀ (i : Nat) (x : V) (d : PyData), vs[i]? = some x → ds[i]? = some d → isText d = false → (∀ d', d' ∈ ds.take i → isText d' = true) → ∀ H' dd, Same H H' → H dd = none → H' dd = some (.xd [("value", x)]) → E (.ref C) (some dd) H'
theorem BadT.none {C : Addr} {vs : List V} {ds : List PyData} {H : Hp} {E : XK} (h : ds.all isText = true) : BadT C vs ds H E := fun i x d _ hd e _ => by
  have := (List.all_eq_true.mp h) d (List.mem_of_getElem? hd)
  rw [e] at this; cases this
theorem BadT.same {C : Addr} {vs : List V} {ds : List PyData} {H H1 : Hp} {E : XK} (s : Same H H1) (h : BadT C vs ds H E) : BadT C vs ds H1 E := fun i x d a b c e H' dd s' n k => by
  refine h i x d a b c e H' dd (s.trans s') ?_ k
  cases q : H dd with
  | none => rfl
  | some o => rw [s _ _ q] at n; cases n
def spIsDiff (K : PySem.W.Frag) (CT : Addr) : Sp := fun vs H Q E => ∃ (x1 x2 v : V) (d1 d2 dv : PyData), vs = [x1, x2, v] ∧ Dq K H x1 d1 ∧ Dq K H x2 d2 ∧ Dq K H v dv ∧ (itemsOf dv).length ≤ 1000 ∧
  (isText d1 = true → isText d2 = true → ∀ H', Same H H' → Q (.bl (isDiffB (strsOf d1) (strsOf d2) dv)) H') ∧ BadT CT [x1, x2] [d1, d2] H E
end XR
namespace K14
open PySem L2 XR
abbrev sIsDiff : Stmt := top 24
section
variable {P : Program} {w : World} {K : PySem.W.Frag} {mg : Str → Option Value} {base : Heap}
theorem scIsDiff : FnScope ["old", "new", "value", "pair"] ["old", "new", "value"] (defScope sIsDiff) := ⟨rfl, rfl, rfl, by decide +kernel, rfl, by decide +kernel, by decide +kernel⟩
theorem ok_isDiff {f fC fP fR CT : Addr} {fd fdP fdR : FuncData} (F : Fun K "is_diff" "is_diff" sIsDiff f fd) (T : Blt mg)
    (GC : FnR P w K mg base (L2.CX P w) 3 fC (spCheck K CT)) (kC : PySem.W.keepIn K (.ref fC) = true) (mC : mg "check_texts" = some (.ref fC))
    (FP : Fun K "is_pair" "is_pair" sPair fP fdP) (GP : FnOk P w K mg base CX0 3 fP fdP ["old", "new", "value"] (spPair K)) (bP : Binds K fdP ["old", "new", "value"] []) (mP : mg "is_pair" = some (.ref fP))
    (FR : Fun K "is_rising" "is_rising" sRising fR fdR) (bR : Binds K fdR ["pairs"] []) (mR : mg "is_rising" = some (.ref fR)) : FnOk P w K mg base (L2.CX P w) 4 f fd ["old", "new", "value"] (spIsDiff K CT) := by
  have GR := ok_rising (P := P) (w := w) (base := base) FR T
  refine F.okX scIsDiff (fun vs H Q E h => ?_) (fun cdv A outer s H vs Q E hr h => ?_)
  · obtain ⟨x1, x2, v, d1, d2, dv, rfl, _⟩ := h
    rfl
  · obtain ⟨x1, x2, v, d1, d2, dv, rfl, t1, t2, hv, lv, z, bad⟩ := h
    refine ⟨_, pss_cons (ps_expr (pe_callR GC hr rfl mC kC (fun σ => passAt (takes_of rfl rfl rfl rfl) σ) (pa_cons (pv 0) (pa_cons (pv 1) pa_nil))))
      (pss_cons (ps_if (pt_not (pt_val (pe_callB call_isi (by rfl) T.isin (by decide +kernel) (pa_cons (pv 2) (pa_cons (pe_bltn (v := .ty "tuple") (u := .type "tuple") (by rfl) (T.all "tuple" (by decide)) (by decide +kernel) rfl) pa_nil))))) (pss_one (ps_ret pe_bl)) pss_nil)
      (pss_one (ps_ret (pe_and (pe_callB (cr_all rfl) (by rfl) (T.all "all" (by decide)) (by decide +kernel) (pa_cons (pe_lc (own := [("pair", 3)]) (g := gName 3) (tt := tYes) (te := tCall (spPair K) [] E0 (tCons (tVar 0) (tCons (tVar 1) (tCons (tVar 3) tNil)))) rfl scIsDiff.nd (pi_tup (pv 2))
          (blkOk_by (own := [("pair", 3)]) (N := ["old", "new", "value", "pair"]) (sc := defScope sIsDiff) (by decide +kernel)) (fun _ _ _ _ _ => pg_name (i := 3) scIsDiff.nd rfl (Or.inl rfl)) (fun _ _ _ _ _ => pts_nil)
          (fun _ _ _ _ _ => pe_call GP hr rfl mP FP.kp bP .nil pass0 (pa_cons (pv 0) (pa_cons (pv 1) (pa_cons (pv 3) pa_nil))))) pa_nil))
        (pe_one (pe_call GR (hr.mono (by decide)) rfl mR FR.kp bR .nil pass0 (pa_cons (pv 2) pa_nil))))))), ?_⟩
    refine ⟨_, rfl, _, rfl, [d1, d2], .cons t1 (.cons t2 .nil), by show 2 ≤ 100; decide, fun ht H1 s1 => ?_, bad⟩
    have ht1 : isText d1 = true ∧ isText d2 = true := by
      have : (isText d1 && (isText d2 && true)) = true := ht
      simpa using this
    have zz := z ht1.1 ht1.2
    refine ⟨_, rfl, v, _, _, _, _, rfl, .ty "tuple", (hv.same s1).ty, kit_ty (kit_tuple dv), _, rfl, ?_⟩
    have zz1 := zz H1 s1
    cases hv with
    | @tup a xs ds h1 h2 =>
      have tx1 := (text_is t1 ht1.1).same s1
      have tx2 := (text_is t2 ht1.2).same s1
      have h1' := XR.Same.tup s1 h1
      have lds : ds.length ≤ 1000 := lv
      refine iteF ⟨_, rfl, a, rfl, ⟨_, h1'⟩, fun D nD => ?_⟩
      have sD := same_upd (o := .lst []) nD
      refine lc_tup (K := K) (a := a) (xs := xs) (fun i H' => Same H1 H' ∧ H' D = some (.lst (((ds.take i).map (pairOk (strsOf d1) (strsOf d2))).map V.bl))) ⟨sD, upd_same⟩ (fun i H' _ hh => XR.Same.tup hh.1 h1') ?_ ?_
      · rintro i x H' hx ⟨sm, hD⟩
        obtain ⟨d, hd1, hd2⟩ := h2.get hx
        refine ⟨rfl, ?_⟩
        unfold tYes
        dsimp only
        rw [if_pos rfl]
        refine ⟨_, rfl, _, rfl, _, rfl, x1, x2, x, _, _, d, rfl, tx1.same sm, tx2.same sm, (hd2.same s1).same sm, fun H2 s2 => ⟨_, s2 _ _ hD, ?_, fun b o h => ?_, ?_⟩⟩
        · rw [List.length_map, List.length_map]
          have c3 : (ds.take i).length ≤ 1000 := by rw [List.length_take]; omega
          exact Nat.lt_of_le_of_lt c3 (by decide)
        · rw [upd_ne (ne_of_none h nD)]
          exact s2 _ _ (sm _ _ h)
        · rw [upd_same, List.take_add_one, hd1, List.map_append, List.map_append]
          rfl
      · rintro H' ⟨sm, hD⟩
        have s1' := s1.trans sm
        have zz2 := zz H' s1'
        refine ⟨D, ds.map (pairOk (strsOf d1) (strsOf d2)), rfl, SqL.of (by rw [hD, h2.length, List.take_length]), _, rfl, ?_⟩
        have e : (ds.map (pairOk (strsOf d1) (strsOf d2))).all id = ds.all (pairOk (strsOf d1) (strsOf d2)) := by rw [List.all_map]; rfl
        have ez : isDiffB (strsOf d1) (strsOf d2) (.tuple ds) = (ds.all (pairOk (strsOf d1) (strsOf d2)) && rising (ds.map pairOf)) := rfl
        rw [ez] at zz2
        rw [e]
        cases ea : ds.all (pairOk (strsOf d1) (strsOf d2)) with
        | false =>
          rw [ea] at zz2
          exact iteF zz2
        | true =>
          refine iteT ⟨_, rfl, a, xs, ds.map pairOf, rfl, XR.Same.tup sm h1', (prs_of h2 ea).same s1', by rw [List.length_map]; exact lds, fun H2 s2 => ?_⟩
          have zz3 := zz H2 (s1'.trans s2)
          rw [ez, ea] at zz3
          exact zz3
    | non => exact iteT zz1
    | bl b => exact iteT zz1
    | int i => exact iteT zz1
    | str s => exact iteT zz1
    | lst h1 h2 => exact iteT zz1
    | dct h1 h2 h3 => exact iteT zz1
end
end K14
namespace XR
open PySem L2
def tupD (q : Nat × Nat) : PyData := .tuple [.int (q.1 : Int), .int (q.2 : Int)]
def dfD (ps : List (Nat × Nat)) : PyData := .tuple (ps.map tupD)
theorem pair_ok {ss1 ss2 : List Str} {ps : List (Nat × Nat)} (h : IsDf ss1 ss2 ps) {q : Nat × Nat} (hq : q ∈ ps) : pairOk ss1 ss2 (tupD q) = true := by
  obtain ⟨a1, a2, b1, b2, s, e1, e2⟩ := h.1 q hq
  show (decide (1 ≤ (q.1 : Int)) && (decide ((q.1 : Int) ≤ ss1.length) && (decide (1 ≤ (q.2 : Int)) && (decide ((q.2 : Int) ≤ ss2.length) && decide (ss1[((q.1 : Int) - 1).toNat]? = ss2[((q.2 : Int) - 1).toNat]?))))) = true
  have z1 : ((q.1 : Int) - 1).toNat = q.1 - 1 := by omega
  have z2 : ((q.2 : Int) - 1).toNat = q.2 - 1 := by omega
  rw [z1, z2, e1, e2, decide_eq_true (show (1 : Int) ≤ (q.1 : Int) by omega), decide_eq_true (show (q.1 : Int) ≤ (ss1.length : Int) by omega), decide_eq_true (show (1 : Int) ≤ (q.2 : Int) by omega), decide_eq_true (show (q.2 : Int) ≤ (ss2.length : Int) by omega)]
  simp
theorem rise_ok : ∀ {ps : List (Nat × Nat)}, ps.Pairwise (fun x y => x.1 < y.1 ∧ x.2 < y.2) → rising ((ps.map tupD).map pairOf) = true
  | [], _ => rfl
  | [_], _ => rfl
  | p :: q :: ps, h => by
    have h2 := rise_ok (List.pairwise_cons.mp h).2
    have h1 := (List.pairwise_cons.mp h).1 q (List.mem_cons_self ..)
    have e : rising (((p :: q :: ps).map tupD).map pairOf) = (riseB (p.1, p.2) (q.1, q.2) && rising (((q :: ps).map tupD).map pairOf)) := rfl
    rw [e, h2]
    unfold riseB
    rw [decide_eq_true (show ((p.1 : Int), (p.2 : Int)).1 < ((q.1 : Int), (q.2 : Int)).1 by show (p.1 : Int) < q.1; omega), decide_eq_true (show ((p.1 : Int), (p.2 : Int)).2 < ((q.1 : Int), (q.2 : Int)).2 by show (p.2 : Int) < q.2; omega)]
    rfl
theorem df_ok {ss1 ss2 : List Str} {ps : List (Nat × Nat)} (h : IsDf ss1 ss2 ps) : isDiffB ss1 ss2 (dfD ps) = true := by
  show ((ps.map tupD).all (pairOk ss1 ss2) && rising ((ps.map tupD).map pairOf)) = true
  rw [rise_ok h.2, Bool.and_true, List.all_eq_true]
  intro d hd
  obtain ⟨q, hq, rfl⟩ := List.mem_map.mp hd
  exact pair_ok h hq
theorem df_len {ss1 ss2 : List Str} {ps : List (Nat × Nat)} (h : IsDf ss1 ss2 ps) : ps.length ≤ ss1.length := by
  have key : ∀ (ps : List (Nat × Nat)) (lo : Nat), ps.Pairwise (fun x y => x.1 < y.1 ∧ x.2 < y.2) → (∀ q, q ∈ ps → lo < q.1 ∧ q.1 ≤ ss1.length) → ps.length + lo ≤ ss1.length ∨ ps = [] := by
    intro ps
    induction ps with
    | nil => intro lo _ _; exact .inr rfl
    | cons p ps ih =>
      intro lo hp hq
      have hp2 := List.pairwise_cons.mp hp
      have q0 := hq p (List.mem_cons_self ..)
      rcases ih p.1 hp2.2 (fun q hqm => ⟨(hp2.1 q hqm).1, (hq q (List.mem_cons_of_mem _ hqm)).2⟩) with h | h
      · left; rw [List.length_cons]; omega
      · left; rw [h, List.length_cons, List.length_nil]; omega
  rcases key ps 0 h.2 (fun q hq => ⟨by have := (h.1 q hq).1; omega, (h.1 q hq).2.1⟩) with h | h
  · omega
  · rw [h]; exact Nat.zero_le _
/-- a diff as a value -/
def DfV (K : PySem.W.Frag) (H : Hp) (v : V) (ps : List (Nat × Nat)) : Prop := Dq K H v (dfD ps)
theorem DfAt.v {K : PySem.W.Frag} {H : Hp} {t : Addr} {ps : List (Nat × Nat)} (h : DfAt H t ps) : DfV K H (.ref t) ps := by
  obtain ⟨rs, h1, h2, h3⟩ := h
  have key : ∀ (rs : List Addr) (ps : List (Nat × Nat)), rs.length = ps.length → (∀ (i : Nat) (q : Nat × Nat), ps[i]? = some q → ∃ r : Addr, rs[i]? = some r ∧ H r = some (tupV q)) → DqAll K H (refs rs) (ps.map tupD) := by
    intro rs
    induction rs with
    | nil =>
      intro ps hl _
      cases ps with
      | nil => exact .nil
      | cons p ps => simp at hl
    | cons r rs ih =>
      intro ps hl hq
      cases ps with
      | nil => simp at hl
      | cons p ps =>
        obtain ⟨r', e1, e2⟩ := hq 0 p rfl
        obtain rfl : r = r' := Option.some.inj e1
        exact .cons (.tup (.inl (.inl e2)) (.cons (.int _) (.cons (.int _) .nil))) (ih ps (by simpa using hl) fun i q h => hq (i + 1) q h)
  exact .tup (.inl (.inl h1)) (key rs ps h2 h3)
theorem DfV.same {K : PySem.W.Frag} {H H' : Hp} {v : V} {ps : List (Nat × Nat)} (s : Same H H') (h : DfV K H v ps) : DfV K H' v ps := Dq.same s h
def spCheckD (K : PySem.W.Frag) (CT CD : Addr) : Sp := fun vs H Q E => ∃ (x1 x2 v : V) (d1 d2 dv : PyData), vs = [x1, x2, v] ∧ Dq K H x1 d1 ∧ Dq K H x2 d2 ∧ Dq K H v dv ∧ (itemsOf dv).length ≤ 1000 ∧
  (isText d1 = true → isText d2 = true → isDiffB (strsOf d1) (strsOf d2) dv = true → ∀ H', Same H H' → Q .non H') ∧ BadT CT [x1, x2] [d1, d2] H E ∧
  (isText d1 = true → isText d2 = true → isDiffB (strsOf d1) (strsOf d2) dv = false → ∀ H' dd, Same H H' → H dd = none → H' dd = some (.xd [("value", v)]) → E (.ref CD) (some dd) H')
end XR
namespace K14
open PySem L2 XR
abbrev sCheckD : Stmt := top 27
section
variable {P : Program} {w : World} {K : PySem.W.Frag} {mg : Str → Option Value} {base : Heap}
theorem scCheckD : FnScope ["old", "new", "diff"] ["old", "new", "diff"] (defScope sCheckD) := ⟨rfl, rfl, rfl, by decide +kernel, rfl, by decide +kernel, by decide +kernel⟩
theorem ok_checkD {f fI CT CD : Addr} {fd fdI : FuncData} (F : Fun K "check_diff" "check_diff" sCheckD f fd) (hsup : mg "super" = none) (XD : XOk P K mg "InvalidDiff" CD 1 (fvOne "value"))
    (FI : Fun K "is_diff" "is_diff" sIsDiff fI fdI) (GI : FnOk P w K mg base (L2.CX P w) 4 fI fdI ["old", "new", "value"] (spIsDiff K CT)) (bI : Binds K fdI ["old", "new", "value"] []) (mI : mg "is_diff" = some (.ref fI)) : FnOk P w K mg base (L2.CX P w) 5 f fd ["old", "new", "diff"] (spCheckD K CT CD) := by
  refine F.okX scCheckD (fun vs H Q E h => ?_) (fun cdv A outer s H vs Q E hr h => ?_)
  · obtain ⟨x1, x2, v, d1, d2, dv, rfl, _⟩ := h
    rfl
  · obtain ⟨x1, x2, v, d1, d2, dv, rfl, t1, t2, hv, lv, z, bad, zd⟩ := h
    refine ⟨_, pss_one (ps_if (pt_not (pt_val (pe_callS GI hr rfl mI FI.kp bI (fun σ => passAt (takes_of rfl rfl rfl rfl) σ) (pa_cons (pv 0) (pa_cons (pv 1) (pa_cons (pv 2) pa_nil))))))
      (pss_one (ps_raiseX rfl (takes_of rfl rfl rfl rfl) XD.mx XD.ne XD.kp (hr.mono (by decide)) hsup XD.bP XD.tP rfl XD.g (pa_cons (pv 2) pa_nil))) pss_nil), ?_⟩
    refine ⟨_, rfl, _, rfl, _, rfl, x1, x2, v, d1, d2, dv, rfl, t1, t2, hv, lv, fun e1 e2 H1 s1 => ⟨_, rfl, ?_⟩, bad⟩
    cases e3 : isDiffB (strsOf d1) (strsOf d2) dv with
    | true => exact iteF (z e1 e2 e3 H1 s1)
    | false =>
      refine iteT ⟨_, rfl, rfl, fun dd ndd => ?_⟩
      refine zd e1 e2 e3 _ dd (s1.trans (same_upd ndd)) ?_ upd_same
      cases q : H dd with
      | none => rfl
      | some o => rw [s1 _ _ q] at ndd; cases ndd
end
end K14
namespace XR
open PySem L2
/-- a text as a value -/
def TxV (K : PySem.W.Frag) (H : Hp) (x : V) (ss : List Str) : Prop := ∃ d, Dq K H x d ∧ isText d = true ∧ strsOf d = ss
theorem TxV.same {K : PySem.W.Frag} {H H' : Hp} {x : V} {ss : List Str} (s : Same H H') (h : TxV K H x ss) : TxV K H' x ss :=
  let ⟨d, a, b, c⟩ := h; ⟨d, a.same s, b, c⟩
theorem TxV.a {K : PySem.W.Frag} {H : Hp} {x : V} {ss : List Str} (h : TxV K H x ss) : TxA K H x ss := by
  obtain ⟨d, a, b, rfl⟩ := h
  exact text_is a b
theorem TxV.len {K : PySem.W.Frag} {H : Hp} {x : V} {ss : List Str} (h : TxV K H x ss) : ss.length ≤ 60 := by
  obtain ⟨d, a, b, rfl⟩ := h
  unfold isText at b
  rw [Bool.and_eq_true, Bool.and_eq_true] at b
  unfold strsOf
  rw [List.length_map]
  exact of_decide_eq_true b.2.1
theorem strs_back (ss : List Str) : (ss.map PyData.str).map strOf = ss := by
  rw [List.map_map]
  exact (List.map_congr_left fun s _ => rfl).trans (List.map_id _)
theorem lst_text {K : PySem.W.Frag} {H : Hp} {p : Addr} {ss : List Str} (h : SqL K H p (ss.map V.str)) (w : Wd ss) (l : ss.length ≤ 60) : TxV K H (.ref p) ss :=
  ⟨.list (ss.map .str), .lst h (dqStrs ss), text_ok rfl rfl w l, strs_back ss⟩
theorem tup_text {K : PySem.W.Frag} {H : Hp} {p : Addr} {ss : List Str} (h : SqT K H p (ss.map V.str)) (w : Wd ss) (l : ss.length ≤ 60) : TxV K H (.ref p) ss :=
  ⟨.tuple (ss.map .str), .tup h (dqStrs ss), text_ok rfl rfl w l, strs_back ss⟩
/-- where the pairs of a diff stand -/
theorem DfV.items {K : PySem.W.Frag} {H : Hp} {v : V} {ps : List (Nat × Nat)} (h : DfV K H v ps) : ∃ (t : Addr) (xs : List V), v = .ref t ∧ SqT K H t xs ∧ xs.length = ps.length ∧ ∀ (i : Nat) (x : V), xs[i]? = some x → ∃ (q : Nat × Nat) (r : Addr), ps[i]? = some q ∧ x = .ref r ∧ SqT K H r [.int (q.1 : Int), .int (q.2 : Int)] := by
  unfold DfV dfD at h
  cases h with
  | @tup a xs ds h1 h2 =>
    refine ⟨a, xs, rfl, h1, by rw [h2.length, List.length_map], fun i x hx => ?_⟩
    obtain ⟨d, hd, hq⟩ := h2.get hx
    rw [List.getElem?_map] at hd
    obtain ⟨q, e1, rfl⟩ := Option.map_eq_some_iff.mp hd
    unfold tupD at hq
    cases hq with
    | @tup r ys es k1 k2 =>
      obtain ⟨d1, d2, y1, y2, e3, rfl, m1, m2⟩ := k2.two rfl
      injection e3 with e3 e4
      injection e4 with e4 _
      subst e3 e4
      cases m1
      cases m2
      exact ⟨q, r, e1, rfl, k1⟩
/-- one more pair, made new and appended -/
theorem psStep {H : Hp} {D r : Addr} {rs : List Addr} {ps : List (Nat × Nat)} {q : Nat × Nat} (hD : H D = some (.lst (refs rs))) (h : PsAt H rs ps) (nr : H r = none) :
    upd H r (tupV q) D = some (.lst (refs rs)) ∧ PsAt (upd (upd H r (tupV q)) D (.lst (refs rs ++ [V.ref r]))) (rs ++ [r]) (ps ++ [q]) ∧ upd (upd H r (tupV q)) D (.lst (refs rs ++ [V.ref r])) D = some (.lst (refs (rs ++ [r]))) := by
  have s := same_upd (o := tupV q) nr
  have hD' := s _ _ hD
  refine ⟨hD', ((h.same s).snoc upd_same).updL hD', ?_⟩
  rw [upd_same]
  unfold refs
  rw [List.map_append]
  rfl
def swp (q : Nat × Nat) : Nat × Nat := (q.2, q.1)
/-- a diff turned about -/
def spAbout (K : PySem.W.Frag) : Sp := fun vs H Q _ => ∃ (x1 x2 v : V) (ss1 ss2 : List Str) (ps : List (Nat × Nat)), vs = [x1, x2, v] ∧ TxV K H x1 ss1 ∧ TxV K H x2 ss2 ∧ DfV K H v ps ∧ IsDf ss1 ss2 ps ∧
  ∀ t H', Same H H' → H t = none → DfAt H' t (ps.map swp) → Q (.ref t) H'
end XR
namespace K14
open PySem L2 XR
section
variable {P : Program} {w : World} {K : PySem.W.Frag} {mg : Str → Option Value} {base : Heap}
/-- check_diff, its facts -/
structure Chk (P : Program) (w : World) (K : PySem.W.Frag) (mg : Str → Option Value) (base : Heap) (fC CT CD : Addr) (fdC : FuncData) : Prop where
  F : Fun K "check_diff" "check_diff" sCheckD fC fdC
  G : FnOk P w K mg base (L2.CX P w) 5 fC fdC ["old", "new", "diff"] (spCheckD K CT CD)
  b : Binds K fdC ["old", "new", "diff"] []
  m : mg "check_diff" = some (.ref fC)
/-- the check of what is a diff raises nothing -/
theorem chk_ok {K : PySem.W.Frag} {CT CD : Addr} {H : Hp} {x1 x2 v : V} {ss1 ss2 : List Str} {ps : List (Nat × Nat)} {Q : VK} (t1 : TxV K H x1 ss1) (t2 : TxV K H x2 ss2) (hv : DfV K H v ps) (h : IsDf ss1 ss2 ps) (z : ∀ H', Same H H' → Q .non H') : spCheckD K CT CD [x1, x2, v] H Q E0 := by
  have l1 := t1.len
  obtain ⟨d1, a1, b1, rfl⟩ := t1
  obtain ⟨d2, a2, b2, rfl⟩ := t2
  have hl := df_len h
  refine ⟨x1, x2, v, d1, d2, dfD ps, rfl, a1, a2, hv, ?_, fun _ _ _ => z, BadT.none (by simp [b1, b2]), fun _ _ e => ?_⟩
  · show (ps.map tupD).length ≤ 1000
    rw [List.length_map]
    omega
  · rw [df_ok h] at e; cases e
end
end K14
namespace XR
open PySem L2
/-- the reading of a dict's comprehension -/
theorem dc_it {J : It} {n : Nat} {G : Hp → Prop} {Y : Nat → Hp → V → Hp → Prop} (w : Walk J n G Y) {g : TG} {tt : TT} {tk tv : TE} {vs : List Nat} {σ : St} {H1 : Hp} {D : Addr} {Qd : Hp → Prop} (Pv : Nat → Hp → Prop)
    (h0 : Pv 0 (upd H1 D (.dK []))) (hG : ∀ i H, i ≤ n → Pv i H → G H)
    (hs : ∀ i x H H', i < n → Pv i H → Y i H x H' → g x (wipe σ vs) H' fun σ2 H2 => wipe σ2 vs = wipe σ vs ∧ tt σ2 H2 fun b H3 => if b = true then tk σ2 H3 fun y H4 => tv σ2 H4 fun z H5 => ∃ kvs k, y = kV k ∧ H5 D = some (.dK kvs) ∧ kvs.length < sizeLine ∧ Pv (i + 1) (upd H5 D (.dK (putK kvs k z))) else Pv (i + 1) H3)
    (hd : ∀ H, Pv n H → Qd H) :
    ∃ W : Nat → Nat → Hp → Prop, (∃ m, W 0 m (upd H1 D (.dK []))) ∧ ∀ i m H, W i m H → (J.stop i H ∧ Qd H) ∨ (J.go i H ∧ ∃ Nx : Hp → Prop, (∀ H', Nx H' → ∃ m', m' < m ∧ W (i + 1) m' H') ∧ ∀ x H', J.yld i H x H' → g x (wipe σ vs) H' fun σ2 H2 => wipe σ2 vs = wipe σ vs ∧ tt σ2 H2 fun b H3 => if b = true then tk σ2 H3 fun y H4 => tv σ2 H4 fun z H5 => ∃ kvs k, y = kV k ∧ H5 D = some (.dK kvs) ∧ kvs.length < sizeLine ∧ Nx (upd H5 D (.dK (putK kvs k z))) else Nx H3) := by
  refine ⟨fun i m H => m = n - i ∧ i ≤ n ∧ Pv i H, ⟨n, rfl, Nat.zero_le _, h0⟩, ?_⟩
  rintro i m H ⟨rfl, hi, hp⟩
  by_cases e : i = n
  · subst e
    exact .inl ⟨w.stops H (hG _ _ (Nat.le_refl _) hp), hd H hp⟩
  · have hlt : i < n := by omega
    exact .inr ⟨w.goes i H hlt (hG _ _ hi hp), Pv (i + 1), fun H' h => ⟨n - (i + 1), by omega, rfl, by omega, h⟩, fun x H' hy => hs i x H H' hlt hp (w.yields i H x H' hlt (hG _ _ hi hp) hy)⟩
def mapK (qs : List (Nat × Nat)) : List (Key × V) := qs.map fun q => (Sum.inl (q.1 : Int), V.int (q.2 : Int))
def far (qs : List (Nat × Nat)) (j : Nat) : Option Nat := (qs.find? fun q => decide (q.1 = j)).map (·.2)
theorem valV_map : ∀ (qs : List (Nat × Nat)) (j : Nat), valV (mapK qs) (Sum.inl (j : Int)) = (far qs j).map fun k => V.int (k : Int)
  | [], j => rfl
  | q :: qs, j => by
    have ih := valV_map qs j
    unfold valV mapK far at ih ⊢
    rw [List.map_cons, List.find?_cons, List.find?_cons]
    by_cases e : q.1 = j
    · rw [e]; simp
    · have e2 : decide ((Sum.inl (q.1 : Int) : Key) = Sum.inl (j : Int)) = false := decide_eq_false fun h => e (by injection h with h; omega)
      rw [e2, decide_eq_false e]
      exact ih
theorem put_new {qs : List (Nat × Nat)} {q : Nat × Nat} (h : ∀ p, p ∈ qs → p.1 ≠ q.1) : putK (mapK qs) (Sum.inl (q.1 : Int)) (V.int (q.2 : Int)) = mapK (qs ++ [q]) := by
  have e : (mapK qs).any (fun kv => decide (kv.1 = Sum.inl (q.1 : Int))) = false := by
    rw [List.any_eq_false]
    intro kv hkv
    obtain ⟨p, hp, rfl⟩ := List.mem_map.mp hkv
    have := h p hp
    intro z
    have z2 := of_decide_eq_true z
    injection z2 with z2
    omega
  unfold putK
  rw [e]
  simp [mapK]
/-- two diffs joined -/
def joinD (ps qs : List (Nat × Nat)) : List (Nat × Nat) := ps.filterMap fun p => (far qs p.2).map fun k => (p.1, k)
theorem far_mem {qs : List (Nat × Nat)} {j k : Nat} (h : far qs j = some k) : (j, k) ∈ qs := by
  unfold far at h
  obtain ⟨q, h1, h2⟩ := Option.map_eq_some_iff.mp h
  have a := List.find?_some h1
  have b := List.mem_of_find?_eq_some h1
  have a2 : q.1 = j := of_decide_eq_true a
  have : q = (j, k) := by rw [← a2, ← h2]
  rw [← this]; exact b
theorem pair_lt {qs : List (Nat × Nat)} (h : qs.Pairwise fun x y => x.1 < y.1 ∧ x.2 < y.2) {p q : Nat × Nat} (hp : p ∈ qs) (hq : q ∈ qs) (lt : p.1 < q.1) : p.2 < q.2 := by
  induction qs with
  | nil => cases hp
  | cons a qs ih =>
    have h2 := List.pairwise_cons.mp h
    rcases List.mem_cons.mp hp with rfl | hp'
    · rcases List.mem_cons.mp hq with rfl | hq'
      · omega
      · exact (h2.1 q hq').2
    · rcases List.mem_cons.mp hq with rfl | hq'
      · have := (h2.1 p hp').1; omega
      · exact ih h2.2 hp' hq'
theorem join_mem {ps qs : List (Nat × Nat)} {x : Nat × Nat} (h : x ∈ joinD ps qs) : ∃ j, (x.1, j) ∈ ps ∧ (j, x.2) ∈ qs := by
  unfold joinD at h
  obtain ⟨p, hp, e⟩ := List.mem_filterMap.mp h
  obtain ⟨k, hk, rfl⟩ := Option.map_eq_some_iff.mp e
  exact ⟨p.2, hp, far_mem hk⟩
theorem join_df {ss1 ss2 ss3 : List Str} {ps qs : List (Nat × Nat)} (h1 : IsDf ss1 ss2 ps) (h2 : IsDf ss2 ss3 qs) : IsDf ss1 ss3 (joinD ps qs) := by
  refine ⟨fun x hx => ?_, ?_⟩
  · obtain ⟨j, hp, hq⟩ := join_mem hx
    obtain ⟨a1, a2, b1, b2, s, e1, e2⟩ := h1.1 _ hp
    obtain ⟨c1, c2, d1, d2, s', e3, e4⟩ := h2.1 _ hq
    have es : s = s' := Option.some.inj (e2.symm.trans e3)
    exact ⟨a1, a2, d1, d2, s, e1, by rw [es]; exact e4⟩
  · have key : ∀ (l : List (Nat × Nat)), l.Pairwise (fun x y => x.1 < y.1 ∧ x.2 < y.2) → (joinD l qs).Pairwise fun x y => x.1 < y.1 ∧ x.2 < y.2 := by
      intro l
      induction l with
      | nil => intro _; exact .nil
      | cons p l ih =>
        intro hl
        have hl2 := List.pairwise_cons.mp hl
        have i2 := ih hl2.2
        cases e : far qs p.2 with
        | none =>
          have e2 : joinD (p :: l) qs = joinD l qs := by unfold joinD; rw [List.filterMap_cons, e]; rfl
          rw [e2]; exact i2
        | some k =>
          have e2 : joinD (p :: l) qs = (p.1, k) :: joinD l qs := by unfold joinD; rw [List.filterMap_cons, e]; rfl
          rw [e2, List.pairwise_cons]
          refine ⟨fun y hy => ?_, i2⟩
          obtain ⟨j, hy1, hy2⟩ := join_mem hy
          have lt := hl2.1 _ hy1
          exact ⟨lt.1, pair_lt (p := (p.2, k)) (q := (j, y.2)) h2.2 (far_mem e) hy2 lt.2⟩
    exact key ps h1.2
end XR
namespace XR
open PySem L2
/-- the way out of a judge of diffs -/
def BadD (C : Addr) (v : V) (H : Hp) (E : XK) : Prop := ∀ H' dd, Same H H' → H dd = none → H' dd = some (.xd [("value", v)]) → E (.ref C) (some dd) H'
theorem BadD.same {C : Addr} {v : V} {H H1 : Hp} {E : XK} (s : Same H H1) (h : BadD C v H E) : BadD C v H1 E := fun H' dd s' n k => by
  refine h H' dd (s.trans s') ?_ k
  cases q : H dd with
  | none => rfl
  | some o => rw [s _ _ q] at n; cases n
def spJoined (K : PySem.W.Frag) (CT CD : Addr) : Sp := fun vs H Q E => ∃ (x1 x2 x3 v1 v2 : V), vs = [x1, x2, x3, v1, v2] ∧
  ((∃ (ss1 ss2 ss3 : List Str) (ps qs : List (Nat × Nat)), TxV K H x1 ss1 ∧ TxV K H x2 ss2 ∧ TxV K H x3 ss3 ∧ DfV K H v1 ps ∧ IsDf ss1 ss2 ps ∧ DfV K H v2 qs ∧ IsDf ss2 ss3 qs ∧ ∀ t H', Same H H' → H t = none → DfAt H' t (joinD ps qs) → Q (.ref t) H') ∨
   (∃ d1 d2 d3 : PyData, Dq K H x1 d1 ∧ Dq K H x2 d2 ∧ Dq K H x3 d3 ∧ ([d1, d2, d3] : List PyData).all isText = false ∧ BadT CT [x1, x2, x3] [d1, d2, d3] H E) ∨
   (∃ (ss1 ss2 ss3 : List Str) (dv : PyData), TxV K H x1 ss1 ∧ TxV K H x2 ss2 ∧ TxV K H x3 ss3 ∧ Dq K H v1 dv ∧ (itemsOf dv).length ≤ 1000 ∧ isDiffB ss1 ss2 dv = false ∧ BadD CD v1 H E) ∨
   (∃ (ss1 ss2 ss3 : List Str) (ps : List (Nat × Nat)) (dv : PyData), TxV K H x1 ss1 ∧ TxV K H x2 ss2 ∧ TxV K H x3 ss3 ∧ DfV K H v1 ps ∧ IsDf ss1 ss2 ps ∧ Dq K H v2 dv ∧ (itemsOf dv).length ≤ 1000 ∧ isDiffB ss2 ss3 dv = false ∧ BadD CD v2 H E))
theorem join_step {ps qs : List (Nat × Nat)} {i : Nat} {q : Nat × Nat} (hq : ps[i]? = some q) : joinD (ps.take (i + 1)) qs = joinD (ps.take i) qs ++ ((far qs q.2).map fun k => (q.1, k)).toList := by
  rw [List.take_add_one, hq]
  unfold joinD
  rw [List.filterMap_append]
  have e0 : List.filterMap (fun p : Nat × Nat => (far qs p.2).map fun k => (p.1, k)) (some q).toList = ((far qs q.2).map fun k => (q.1, k)).toList := by
    cases e : far qs q.2 with
    | none => simp [e]
    | some k => simp [e]
  rw [e0]
/-- the check of texts that are some -/
theorem chkT_ok {K : PySem.W.Frag} {CT : Addr} {H : Hp} {x1 x2 x3 : V} {ss1 ss2 ss3 : List Str} {Q : VK} {E : XK} (t1 : TxV K H x1 ss1) (t2 : TxV K H x2 ss2) (t3 : TxV K H x3 ss3) (z : ∀ H', Same H H' → Q .non H') : spCheck K CT [x1, x2, x3] H Q E := by
  obtain ⟨d1, a1, b1, _⟩ := t1
  obtain ⟨d2, a2, b2, _⟩ := t2
  obtain ⟨d3, a3, b3, _⟩ := t3
  exact ⟨[d1, d2, d3], .cons a1 (.cons a2 (.cons a3 .nil)), by show 3 ≤ 100; decide, fun _ => z, BadT.none (by simp [b1, b2, b3])⟩
theorem chkD_ok {K : PySem.W.Frag} {CT CD : Addr} {H : Hp} {x1 x2 v : V} {ss1 ss2 : List Str} {ps : List (Nat × Nat)} {Q : VK} {E : XK} (t1 : TxV K H x1 ss1) (t2 : TxV K H x2 ss2) (hv : DfV K H v ps) (h : IsDf ss1 ss2 ps) (z : ∀ H', Same H H' → Q .non H') : spCheckD K CT CD [x1, x2, v] H Q E := by
  have l1 := t1.len
  obtain ⟨d1, a1, b1, rfl⟩ := t1
  obtain ⟨d2, a2, b2, rfl⟩ := t2
  have hl := df_len h
  refine ⟨x1, x2, v, d1, d2, dfD ps, rfl, a1, a2, hv, ?_, fun _ _ _ => z, BadT.none (by simp [b1, b2]), fun _ _ e => ?_⟩
  · show (ps.map tupD).length ≤ 1000
    rw [List.length_map]
    omega
  · rw [df_ok h] at e; cases e
theorem chkD_bad {K : PySem.W.Frag} {CT CD : Addr} {H : Hp} {x1 x2 v : V} {ss1 ss2 : List Str} {dv : PyData} {Q : VK} {E : XK} (t1 : TxV K H x1 ss1) (t2 : TxV K H x2 ss2) (hv : Dq K H v dv) (hl : (itemsOf dv).length ≤ 1000) (e : isDiffB ss1 ss2 dv = false) (z : BadD CD v H E) : spCheckD K CT CD [x1, x2, v] H Q E := by
  obtain ⟨d1, a1, b1, rfl⟩ := t1
  obtain ⟨d2, a2, b2, rfl⟩ := t2
  refine ⟨x1, x2, v, d1, d2, dv, rfl, a1, a2, hv, hl, fun _ _ e2 => ?_, BadT.none (by simp [b1, b2]), fun _ _ _ => z⟩
  rw [e] at e2; cases e2
end XR
namespace K14
open PySem L2 XR
section
variable {P : Program} {w : World} {K : PySem.W.Frag} {mg : Str → Option Value} {base : Heap}
end
end K14
namespace XR
open PySem PySem.Spec L2 PyProof.Rows
/-- name = {k: v for ..}, the name a local of the def -/
theorem ps_setDc {X : Cx} {i : Nat} {y : Str} {py : Pos} {kx vx tg iter : Expr} {ifs : List Expr} {scope : Scope} {own : List (Str × Nat)} {pos spos : Pos} {wi : TI} {g : TG} {tt : TT} {tk tv : TE}
    (c0 : X.calm = true) (n0 : X.N.Nodup) (yi : X.N[i]? = some y) (yl : X.env.scope.names.lookup y = some .local)
    (sw : swapsWith (.DictComp kx vx [⟨tg, iter, ifs, 0⟩] scope pos) (some (.Name y py)) spos.line X.env = pure true) (wk : PI X tg iter wi) (bl : BlkOk X.N X.env.scope scope own)
    (pg : ∀ (t : Shared) (J : Hp) (B : Addr) (l : List (Str × Addr)) (f : List Addr), PG (X.blk t J scope (compEnvC scope l B X.env) f) tg g)
    (pt : ∀ (t : Shared) (J : Hp) (B : Addr) (l : List (Str × Addr)) (f : List Addr), PTs (X.blk t J scope (compEnvC scope l B X.env) f) ifs tt)
    (pk : ∀ (t : Shared) (J : Hp) (B : Addr) (l : List (Str × Addr)) (f : List Addr), PE (X.blk t J scope (compEnvC scope l B X.env) f) kx tk)
    (pw : ∀ (t : Shared) (J : Hp) (B : Addr) (l : List (Str × Addr)) (f : List Addr), PE (X.blk t J scope (compEnvC scope l B X.env) f) vx tv)
    (fs : ∀ u, foldedSetIterable iter X.env u = pure u := by intro _; rfl) :
    PS X (.Assign [.Name y py] (.DictComp kx vx [⟨tg, iter, ifs, 0⟩] scope pos) spos) (tAsg (tDc wi g tt tk tv (own.map (·.2))) (gName i)) := by
  constructor
  intro pins t σ J D I r
  rw [exec_Assign_Name_used _ _ _ _ sw]
  apply wpAny_bind
  apply wpAny_standAt
  apply wpAny_bind
  have r2 : tDc wi g tt tk tv (own.map (·.2)) σ J (fun x J1 => gName i x σ J1 D.nx) := r
  show wpAny _ X.A (comprehension (.DictComp kx vx [⟨tg, iter, ifs, 0⟩] scope pos) scope X.env (firstIterPos [⟨tg, iter, ifs, 0⟩] pos) newDict false (eval iter X.env) (some (assign (.Name y py) X.env)) >>= fun _ => pure ()) _ _ t
  apply wpAny_bind
  refine thn (dc_core (Qf := fun _ t2 => SP X pins D .next t2) c0 n0 I wk bl pg pt pk pw fs r2 ?_) fun _ t2 e => wpAny_pure (wpAny_pure e)
  intro L B t2 m J2 I2 q nb fp
  obtain ⟨w0, w1, w2, w3, w4, w5⟩ := fp
  show wpAny _ _ (assign (.Name y py) X.env (.ref L)) _ _ _
  refine wpAny_assign_Name (store_ok2 (v := V.ref L) I2 n0 yi (.inl yl) rfl ?_ (.inr yl))
  intro t3 I3 hh
  obtain ⟨b0, sb, hb⟩ := hh
  have ne : B ≠ b0 := by
    cases hb with
    | inl z => rw [z]; exact w1
    | inr z => intro e; exact w4 y b0 z e.symm
  refine ⟨m, nb.sameBut sb ne, fun h4 sb4 => ⟨_, J2, I3.turned (t' := t3.toks) (fun b o hbn e => (sb4.2 b hbn).trans e) w0 w1 w3 w4 w5, q⟩⟩
theorem sw_dc {kx vx : Expr} {gs : List Comprehension} {scope : Scope} {pos py : Pos} {y : Str} {l : Nat} {env : Env} (k0 : env.scope.kind = .function) (k1 : env.scope.names.lookup y = some .local) (k2 : (py.line == pos.line) = true)
    (k3 : (scope.names.any fun (n, k) => n == y && (k == .local || k == .cell)) = false) : swapsWith (.DictComp kx vx gs scope pos) (some (.Name y py)) l env = pure true := by
  have e1 : env.blockKind = .function := by unfold Env.blockKind; rw [k0]; rfl
  have e2 : env.kindOf y = some .local := k1
  unfold swapsWith
  simp only [e1, e2, k3, Expr.pos, k2]
  rfl
end XR
namespace XR
open PySem L2
def spWithin (K : PySem.W.Frag) : Sp := fun vs H Q _ => ∃ i lo hi : Int, vs = [.int i, .int lo, .int hi] ∧ ∀ H', Same H H' → Q (.bl (decide (lo ≤ i) && decide (i ≤ hi))) H'
def farV (ps : List (Nat × Nat)) (i : Nat) : V := match far ps i with
  | some k => .int (k : Int)
  | none => .non
def spPartner (K : PySem.W.Frag) : Sp := fun vs H Q _ => ∃ (x1 x2 v : V) (ss1 ss2 : List Str) (ps : List (Nat × Nat)) (i : Nat), vs = [x1, x2, v, .int (i : Int)] ∧ TxV K H x1 ss1 ∧ TxV K H x2 ss2 ∧ DfV K H v ps ∧ IsDf ss1 ss2 ps ∧ 1 ≤ i ∧ i ≤ ss1.length ∧
  ∀ H', Same H H' → Q (farV ps i) H'
/-- the keys of a diff are unlike -/
theorem df_dis {ss1 ss2 : List Str} {ps : List (Nat × Nat)} (h : IsDf ss1 ss2 ps) : ∀ (i : Nat) (q : Nat × Nat), ps[i]? = some q → ∀ p, p ∈ ps.take i → p.1 ≠ q.1 := fun i q hq p hp => by
  obtain ⟨k, hk⟩ := List.getElem?_of_mem hp
  rw [List.getElem?_take] at hk
  by_cases c : k < i
  · rw [if_pos c] at hk
    have l2 := (List.getElem?_eq_some_iff.mp hq).1
    have l1 := (List.getElem?_eq_some_iff.mp hk).1
    have e1 := (List.getElem?_eq_some_iff.mp hk).2
    have e2 := (List.getElem?_eq_some_iff.mp hq).2
    have := (List.pairwise_iff_getElem.mp h.2) k i l1 l2 c
    rw [e1, e2] at this
    omega
  · rw [if_neg c] at hk; cases hk
end XR
namespace K14
open PySem L2 XR
abbrev sPartner : Stmt := top 34
section
variable {P : Program} {w : World} {K : PySem.W.Frag} {mg : Str → Option Value} {base : Heap}
theorem scWithin : FnScope ["value", "low", "high"] ["value", "low", "high"] (defScope sWithin) := ⟨rfl, rfl, rfl, by decide +kernel, rfl, by decide +kernel, by decide +kernel⟩
theorem ok_within {f fW : Addr} {fd fdW : FuncData} (F : Fun K "is_within" "is_within" sWithin f fd) (FW : Fun K "is_whole" "is_whole" sWhole fW fdW) (GW : FnOk P w K mg base CX0 1 fW fdW ["value"] (spJudge K isWhole)) (bW : Binds K fdW ["value"] []) (mW : mg "is_whole" = some (.ref fW)) : FnOk P w K mg base CX0 2 f fd ["value", "low", "high"] (spWithin K) := by
  refine F.ok scWithin (fun vs H Q E h => ?_) (fun cdv A outer s H vs Q E hr h => ?_)
  · obtain ⟨i, lo, hi, rfl, _⟩ := h
    rfl
  · obtain ⟨i, lo, hi, rfl, z⟩ := h
    refine ⟨_, pss_one (ps_ret (pe_and (pe_call GW hr rfl mW FW.kp bW .nil pass0 (pa_cons (pv 0) pa_nil)) (pe_one (pe_chain op_le op_le (pv 1) (pv 0) (pv 2))))), ?_⟩
    refine ⟨_, rfl, .int i, .int i, rfl, .int i, fun H1 s1 => ⟨_, rfl, iteT ⟨_, rfl, _, rfl, _, _, rfl, rfl, _, rfl, ?_⟩⟩⟩
    have zz := z H1 s1
    by_cases c : lo ≤ i
    · rw [decide_eq_true c] at zz ⊢
      exact iteT ⟨_, rfl, _, _, rfl, rfl, zz⟩
    · rw [decide_eq_false c] at zz ⊢
      exact iteF zz
theorem scPartner : FnScope ["old", "new", "diff", "i", "partners", "k", "j"] ["old", "new", "diff", "i"] (defScope sPartner) := ⟨rfl, rfl, rfl, by decide +kernel, rfl, by decide +kernel, by decide +kernel⟩
theorem ok_partner {f fC fW CT CD : Addr} {fd fdC fdW : FuncData} (F : Fun K "partner_of" "partner_of" sPartner f fd) (T : Blt mg) (C : Chk P w K mg base fC CT CD fdC)
    (FW : Fun K "is_within" "is_within" sWithin fW fdW) (GW : FnOk P w K mg base CX0 2 fW fdW ["value", "low", "high"] (spWithin K)) (bW : Binds K fdW ["value", "low", "high"] []) (mW : mg "is_within" = some (.ref fW)) : FnOk P w K mg base CX0 6 f fd ["old", "new", "diff", "i"] (spPartner K) := by
  refine F.ok scPartner (fun vs H Q E h => ?_) (fun cdv A outer s H vs Q E hr h => ?_)
  · obtain ⟨x1, x2, v, ss1, ss2, ps, i, rfl, _⟩ := h
    rfl
  · obtain ⟨x1, x2, v, ss1, ss2, ps, i, rfl, t1, t2, hv, hd, i1, i2, z⟩ := h
    refine ⟨_, pss_cons (ps_expr (pe_callS C.G hr rfl C.m C.F.kp C.b (fun σ => passF σ) (pa_cons (pv 0) (pa_cons (pv 1) (pa_cons (pv 2) pa_nil)))))
      (pss_cons (ps_if (pt_not (pt_val (pe_call GW (hr.mono (by decide)) rfl mW FW.kp bW .nil pass0 (pa_cons (pv 3) (pa_cons pe_int (pa_cons (pe_callB call_len_seq (by rfl) T.len PySem.boot_len (pa_cons (pv 0) pa_nil)) pa_nil)))))) (pss_one ps_never) pss_nil)
      (pss_cons (ps_setDc (i := 4) (own := [("k", 5), ("j", 6)]) (g := gTup K 2 (gCons (gName 5) (gCons (gName 6) gNil))) (tt := tYes) (tk := tVar 5) (tv := tVar 6) rfl scPartner.nd rfl rfl (sw_dc rfl rfl rfl (by decide +kernel)) (pi_tup (pv 2))
          (blkOk_by (own := [("k", 5), ("j", 6)]) (N := ["old", "new", "diff", "i", "partners", "k", "j"]) (sc := defScope sPartner) (by decide +kernel))
          (fun _ _ _ _ _ => pg_tup rfl (pgs_cons (pg_name (i := 5) scPartner.nd rfl (.inl rfl)) (pgs_cons (pg_name (i := 6) scPartner.nd rfl (.inl rfl)) pgs_nil))) (fun _ _ _ _ _ => pts_nil) (fun _ _ _ _ _ => pv 5) (fun _ _ _ _ _ => pv 6))
      (pss_one (ps_ret (pe_dget1 (hu_of hr) (pv 4) (pv 3) ⟨rfl, rfl, rfl, rfl⟩))))), ?_⟩
    have l60 := t1.len
    have dl := df_len hd
    refine ⟨_, rfl, _, rfl, _, rfl, ?_⟩
    dsimp only [tNil]
    refine chk_ok t1 t2 hv hd fun H1 s1 => ?_
    obtain ⟨a1, rfl, ha1⟩ := (t1.same s1).a
    refine ⟨_, rfl, _, rfl, a1, _, rfl, ha1, _, _, _, rfl, fun H2 s2 => ⟨_, rfl, ?_⟩⟩
    rw [List.length_map, decide_eq_true (show (1 : Int) ≤ (i : Int) by omega), decide_eq_true (show (i : Int) ≤ (ss1.length : Int) by omega)]
    refine iteF ?_
    have s12 := s1.trans s2
    obtain ⟨t, xs, rfl, ht, hl, hx⟩ := (hv.same s12).items
    refine ⟨_, rfl, t, rfl, ⟨_, ht⟩, fun Dd nD => ?_⟩
    have sD := same_upd (o := .dK []) nD
    refine dc_it (walk_tup (xs := xs)) (fun k H' => Same H2 H' ∧ H' Dd = some (.dK (mapK (ps.take k)))) ⟨sD, upd_same⟩ (fun k H' _ hh => XR.Same.tup hh.1 ht) ?_ ?_
    · rintro k x Ha Hb hi ⟨sm, hD⟩ ⟨rfl, hxi⟩
      obtain ⟨q, r, hq, rfl, hr'⟩ := hx k x hxi
      refine ⟨r, _, rfl, XR.Same.tup sm hr', rfl, _, _, rfl, _, _, rfl, rfl, rfl, ?_⟩
      unfold tYes
      dsimp only
      rw [if_pos rfl]
      refine ⟨_, rfl, _, rfl, _, Sum.inl (q.1 : Int), rfl, hD, ?_, fun b o h => ?_, ?_⟩
      · unfold mapK
        rw [List.length_map, List.length_take]
        exact Nat.lt_of_le_of_lt (show min k ps.length ≤ 60 by omega) (by decide)
      · rw [upd_ne (ne_of_none h nD)]
        exact sm _ _ h
      · rw [upd_same, put_new (df_dis hd k q hq), List.take_add_one, hq]
        rfl
    · rintro H4 ⟨sm4, hD4⟩
      rw [hl, List.take_length] at hD4
      refine ⟨_, rfl, Dd, rfl, .inl ⟨_, .inl hD4⟩, _, rfl, _, DGet.k (k := Sum.inl (i : Int)) hD4, ?_⟩
      rw [valV_map]
      have zz := z H4 (s12.trans sm4)
      unfold farV at zz
      cases e : far ps i with
      | none => rw [e] at zz; exact zz
      | some k => rw [e] at zz; exact zz
end
end K14
namespace XR
open PySem PySem.Spec PyProof.Rows HT
section
variable {prog : Program} {w : World} {A : Around} {E : Value → Shared → Prop} {s : Shared}
theorem fmCongr {α β : Type} {f g : α → Option β} : ∀ {l : List α}, (∀ x, x ∈ l → f x = g x) → l.filterMap f = l.filterMap g
  | [], _ => rfl
  | x :: l, h => by
    rw [List.filterMap_cons, List.filterMap_cons, h x (List.mem_cons_self ..), fmCongr fun y hy => h y (List.mem_cons_of_mem _ hy)]
theorem revPick (its : List Value) : ((List.range its.length).filterMap fun (m : Nat) => its.toArray[(((its.length : Int) - 1) + (m : Int) * (-1)).toNat]?).toArray = its.reverse.toArray := by
  congr 1
  have e : ∀ m, m ∈ List.range its.length → its.toArray[(((its.length : Int) - 1) + (m : Int) * (-1)).toNat]? = its.reverse[m]? := fun m hm => by
    have hm' := List.mem_range.mp hm
    rw [List.getElem?_reverse hm', show (((its.length : Int) - 1) + (m : Int) * (-1)).toNat = its.length - 1 - m by omega]
    simp
  rw [fmCongr e]
  have key : ∀ (l : List Value) (n : Nat), n ≤ l.length → (List.range n).filterMap (fun m => l[m]?) = l.take n := by
    intro l n
    induction n with
    | zero => intro _; simp
    | succ n ih =>
      intro hn
      rw [List.range_succ, List.filterMap_append, ih (by omega), List.take_add_one]
      simp [List.getElem?_eq_getElem (show n < l.length by omega)]
  rw [key its.reverse its.length (by simp), List.take_of_length_le (by simp)]
theorem getRevT {t sl : Addr} {its : List Value} {vl vu vs : Value} {Q : Value → Shared → Prop} (ht : IsTup s.heap t its.toArray) (hs : s.heap.IsSliceOf sl vl vu vs) (pl : IsPart vl none) (pu : IsPart vu none) (ps : IsPart vs (some (-1))) (hz : its.length ≤ sizeLine)
    (h : Q (.ref s.heap.objs.size) { s with heap := s.heap.push { cls := .type "tuple", data := .seq its.reverse.toArray } }) : wpAny (model prog w) A (getItem (.ref t) (.ref sl)) Q E s := by
  obtain ⟨os, a1, a2, a3⟩ := id hs
  have ty : s.TypeIs (.ref sl) "slice" := ⟨os, a1, a2⟩
  have fits : sizeOk (.seq its.reverse.toArray) := by
    show its.reverse.toArray.size ≤ sizeLine
    rw [List.size_toArray, List.length_reverse]; exact hz
  have cut : ∀ (A' : Around) (E' : Value → Shared → Prop), wpAny (model prog w) A' (Builtin.Slice.sliceApplied (.ref sl) (pure ((its.toArray.size : Nat) : Int))) (fun r s' => r = (((its.length : Int) - 1), -1, its.length) ∧ s' = s) E' s := by
    intro A' E'
    unfold Builtin.Slice.sliceApplied Builtin.Slice.sliceFields
    refine wpAny_bind (wpAny_bind (wpAny_field a1 a3 (x := vl) rfl (wpAny_bind (wpAny_field a1 a3 (x := vu) rfl (wpAny_bind (wpAny_field a1 a3 (x := vs) rfl (wpAny_pure ?_)))))))
    refine wpAny_bind (slicePart_ ps ?_)
    show wpAny _ _ (if ((-1 : Int) == 0) = true then _ else _) _ _ s
    rw [if_neg (by decide)]
    refine wpAny_bind (slicePart_ pl (wpAny_bind (slicePart_ pu (wpAny_bind (wpAny_pure (wpAny_pure ⟨?_, rfl⟩))))))
    have hp : Builtin.Slice.slicePlaces (((its.toArray.size : Nat) : Int) - 1) (-1) (-1) = its.length := by
      unfold Builtin.Slice.slicePlaces
      rw [if_neg (by decide), List.size_toArray]
      by_cases q : its.length = 0
      · rw [q]; decide
      · rw [if_pos (by omega)]
        have e1 : ((its.length : Int) - 1 - -1 - 1) / (- -1) = (its.length : Int) - 1 := by
          show ((its.length : Int) - 1 - -1 - 1) / 1 = _
          rw [Int.ediv_one]; omega
        rw [e1]; omega
    show ((((its.toArray.size : Nat) : Int) - 1), (-1 : Int), Builtin.Slice.slicePlaces (((its.toArray.size : Nat) : Int) - 1) (-1) (-1)) = _
    rw [hp, List.size_toArray]
  unfold getItem
  try with_reducible refine wpAny_holding ?_
  first | refine wpAny_bind (wpAny_pure ?_) | skip
  refine wpAny_bind (wpAny_sequenceKey ht.typeIs (by decide) ?_)
  refine wpAny_bind (wpAny_callSpecial?_slot (name := Str.ofString "__getitem__") ht.typeIs PyProof.Rows.slot_tuple_getitem (wpAny_call_entry PyProof.Rows.slot_tuple_getitem ht.typeIs entry_tuple_getitem ?_ (args_tuple_getitem _ _)))
  show wpAny _ _ (Builtin.Tuple.tupleItemsOf (.ref t) >>= _) _ _ s
  refine wpAny_bind (tupleItemsOf_ ht ?_)
  refine wpAny_bind (wpAny_typeOf ty ?_)
  rw [if_pos (by decide)]
  refine wpAny_bind (wpAny_mono (cut _ _) (fun r s' hr => ?_) fun _ _ e => e)
  obtain ⟨rfl, rfl⟩ := hr
  have no : ¬ ((((its.length : Int) - 1) == 0 && (-1 : Int) == 1 && its.length == its.toArray.size) = true) := by
    rw [show ((-1 : Int) == 1) = false from rfl, Bool.and_false, Bool.false_and]
    exact Bool.false_ne_true
  show wpAny _ _ (if (((its.length : Int) - 1) == 0 && (-1 : Int) == 1 && its.length == its.toArray.size) = true then _ else _) _ _ s'
  rw [if_neg no, revPick]
  first
    | exact wpAny_bind (m := Builtin.Tuple.tupleExact _) (wpAny_newObj_type (wpAny_pure ⟨_, rfl, wpAny_pure h⟩) fits)
    | exact wpAny_bind (m := Builtin.Tuple.tupleExact _) (wpAny_newObj_type (wpAny_bind (wpAny_pure (wpAny_pure ⟨_, rfl, wpAny_pure h⟩))) fits)
    | exact wpAny_bind (wpAny_bind (m := Builtin.Tuple.tupleExact _) (wpAny_newObj_type (wpAny_pure (wpAny_pure ⟨_, rfl, wpAny_pure h⟩)) fits))
    | exact wpAny_bind (wpAny_bind (m := Builtin.Tuple.tupleExact _) (wpAny_newObj_type (wpAny_pure ⟨_, rfl, wpAny_pure h⟩) fits))
end
/-- t[::-1], t a tuple -/
def tRevT (K : PySem.W.Frag) (te : L2.TE) : L2.TE := fun σ H Q => te σ H fun x H1 => ∃ a xs, x = .ref a ∧ L2.SqT K H1 a xs ∧ ∀ p, H1 p = none → Q (.ref p) (L2.upd H1 p (.tup xs.reverse))
open L2 in
theorem pe_revT {X : Cx} {e : Expr} {te : TE} {k : Nat} {p1 p2 p3 pos : Pos} (he : PE X e te) : PE X (.Subscript e (.Slice none none (some (.UnaryOp .USub (.Constant (.int 1) k p1) p2)) p3) pos) (tRevT X.K te) := by
  constructor
  intro pins s σ H Q I h
  refine Subscript_ (thn (he.run pins s σ H _ I h) fun v t1 hh => ?_)
  obtain ⟨x, J1, I1, r1, a, xs, rfl, hx, q⟩ := hh
  cases r1
  have back : PO X (some (.UnaryOp .USub (.Constant (.int 1) k p1) p2)) (tPart (tUn (rU fun i => .int (-i)) (tC (.int 1)))) := po_some (pe_un un_neg pe_int)
  refine wpAny_Slice (thn (po_none.run pins t1 σ J1 (fun o J => o = none ∧ J = J1) I1 ⟨rfl, rfl⟩) fun vl t2 g2 => ?_)
  obtain ⟨l, J2, I2, pl, rfl, rfl⟩ := g2
  refine thn (po_none.run pins t2 σ J2 (fun o J => o = none ∧ J = J2) I2 ⟨rfl, rfl⟩) fun vu t3 g3 => ?_
  obtain ⟨u, J3, I3, pu, rfl, rfl⟩ := g3
  refine thn (back.run pins t3 σ J3 (fun o J => o = some (-1) ∧ J = J3) I3 ⟨1, rfl, -1, rfl, rfl, rfl⟩) fun vs t4 g4 => ?_
  obtain ⟨o, J4, I4, ps, rfl, rfl⟩ := g4
  have I5 : Inv X pins σ J4 { t4 with heap := t4.heap.push { cls := .type "slice", data := .fields #[vl, vu, vs] } } := I4.kept (t' := t4.toks) fun b ob q => Heap.get?_push_of_some _ q
  obtain ⟨its, r, ht, hz⟩ := I5.tuple hx
  have hlen := r.length
  show wpAny (model X.prog X.w) X.A (subscriptTail e (.Slice none none (some (.UnaryOp .USub (.Constant (.int 1) k p1) p2)) p3) (.ref a) (.ref t4.heap.objs.size)) (EP X pins σ Q) X.xe { t4 with heap := t4.heap.push { cls := .type "slice", data := .fields #[vl, vu, vs] } }
  refine tail_any (ops := [.ref a, .ref t4.heap.objs.size]) ht.typeIs PyProof.Rows.slot_tuple_getitem.lookup ?_ (by with_unfolding_all rfl)
  refine getRevT ht (Heap.IsSliceOf.new _ vl vu vs) pl pu ps (by omega) ?_
  refine ⟨.ref _, _, I5.laid (t' := t4.toks) (o := .tup xs.reverse) (fun b ob q => Heap.get?_push_of_some _ q) (Nat.le_refl _) ?_, rfl, q _ (I5.hok.fresh (Nat.le_refl _))⟩
  exact ⟨by rw [List.length_reverse]; exact hz, _, r.reverse, IsTup.new _ _⟩
end XR
namespace XR
open PySem L2
def over (m n : Nat) (q : Nat × Nat) : Nat × Nat := (m + 1 - q.1, n + 1 - q.2)
def rLenS (K : PySem.W.Frag) : List V → Hp → VK → Prop := fun xs H Q => ∃ (p : Addr) (ys : List V), xs = [V.ref p] ∧ (SqL K H p ys ∨ SqT K H p ys) ∧ Q (V.int (ys.length : Nat)) H
/-- a diff turned over -/
def spOver (K : PySem.W.Frag) : Sp := fun vs H Q _ => ∃ (x1 x2 v : V) (ss1 ss2 : List Str) (ps : List (Nat × Nat)), vs = [x1, x2, v] ∧ TxV K H x1 ss1 ∧ TxV K H x2 ss2 ∧ DfV K H v ps ∧ IsDf ss1 ss2 ps ∧
  ∀ t H', Same H H' → H t = none → DfAt H' t (ps.reverse.map (over ss1.length ss2.length)) → Q (.ref t) H'
end XR
namespace K14
open PySem L2 XR
section
variable {P : Program} {w : World} {K : PySem.W.Frag} {mg : Str → Option Value} {base : Heap}
end
end K14
/-! Diffs turned about and over are diffs (taken from k16_L3, k16_L4). -/
namespace XR
open PySem L2
abbrev Ris (ps : List (Nat × Nat)) : Prop := ps.Pairwise fun x y => x.1 < y.1 ∧ x.2 < y.2
theorem swp_ris {ps : List (Nat × Nat)} (h : Ris ps) : Ris (ps.map swp) := List.pairwise_map.mpr (List.Pairwise.imp (fun {a b} hab => ⟨hab.2, hab.1⟩) h)
theorem swp_df {ss1 ss2 : List Str} {ps : List (Nat × Nat)} (h : IsDf ss1 ss2 ps) : IsDf ss2 ss1 (ps.map swp) := by
  refine ⟨fun q hq => ?_, swp_ris h.2⟩
  obtain ⟨p, hp, rfl⟩ := List.mem_map.mp hq
  obtain ⟨a, b, c, d, s, e1, e2⟩ := h.1 p hp
  exact ⟨c, d, a, b, s, e2, e1⟩
def Bd (m n : Nat) (ps : List (Nat × Nat)) : Prop := ∀ q, q ∈ ps → 1 ≤ q.1 ∧ q.1 ≤ m ∧ 1 ≤ q.2 ∧ q.2 ≤ n
theorem IsDf.bd {ss1 ss2 : List Str} {ps : List (Nat × Nat)} (h : IsDf ss1 ss2 ps) : Bd ss1.length ss2.length ps := fun q hq => ⟨(h.1 q hq).1, (h.1 q hq).2.1, (h.1 q hq).2.2.1, (h.1 q hq).2.2.2.1⟩
theorem over_ris {m n : Nat} {ps : List (Nat × Nat)} (h : Ris ps) (b : Bd m n ps) : Ris (ps.reverse.map (over m n)) := by
  refine List.pairwise_map.mpr (List.pairwise_reverse.mpr ?_)
  induction ps with
  | nil => exact .nil
  | cons p ps ih =>
    have h2 := List.pairwise_cons.mp h
    refine List.pairwise_cons.mpr ⟨fun q hq => ?_, ih h2.2 fun q hq => b q (List.mem_cons_of_mem _ hq)⟩
    have l := h2.1 q hq
    have b1 := b p (List.mem_cons_self ..)
    have b2 := b q (List.mem_cons_of_mem _ hq)
    exact ⟨by show m + 1 - q.1 < m + 1 - p.1; omega, by show n + 1 - q.2 < n + 1 - p.2; omega⟩
theorem over_df {ss1 ss2 : List Str} {ps : List (Nat × Nat)} (h : IsDf ss1 ss2 ps) : IsDf ss1.reverse ss2.reverse (ps.reverse.map (over ss1.length ss2.length)) := by
  refine ⟨fun q hq => ?_, over_ris h.2 h.bd⟩
  obtain ⟨p, hp, rfl⟩ := List.mem_map.mp hq
  obtain ⟨a, b, c, d, s, e1, e2⟩ := h.1 p (List.mem_reverse.mp hp)
  unfold over
  dsimp only
  rw [List.length_reverse, List.length_reverse]
  refine ⟨by omega, by omega, by omega, by omega, s, ?_, ?_⟩
  · rw [List.getElem?_reverse (by omega), show ss1.length - 1 - (ss1.length + 1 - p.1 - 1) = p.1 - 1 by omega]; exact e1
  · rw [List.getElem?_reverse (by omega), show ss2.length - 1 - (ss2.length + 1 - p.2 - 1) = p.2 - 1 by omega]; exact e2
end XR
/-! Tuples whose own object is known (no instance dict), as dict(t) wants them. -/
namespace XR
open PySem PySem.Spec L2 PyProof.Rows
section
variable {X : Cx}
/-- tuple(xs) of a list, its object told -/
def rTupX (K : PySem.W.Frag) : List V → Hp → VK → Prop := fun xs H Q => ∃ (p : Addr) (ys : List V), xs = [.ref p] ∧ SqL K H p ys ∧ ∀ (l : Addr) (o : Obj), H l = none → o.cls = .type "tuple" → o.dict = none → Q (.ref l) (upd H l (.frz o (.tup ys)))
theorem call_tupleX : CallR X (.type "tuple") (rTupX X.K) := by
  intro pins s σ H xs us Q I r h
  obtain ⟨p, ys, rfl, hq, q⟩ := h
  obtain ⟨u, rfl, rx⟩ := vals1 r
  cases rx
  obtain ⟨its, r', pl, hz⟩ := I.list hq
  have hlen := r'.length
  refine call_tuple_list pl.isList (fun h' kp => ?_) (by simp only [List.size_toArray]; omega)
  have J : Inv X pins σ H { s with heap := h' } := I.kept (t' := s.toks) kp
  have atl : (h'.push { cls := .type "tuple", data := .seq its.toArray }).get? h'.objs.size = some { cls := .type "tuple", data := .seq its.toArray } := Heap.get?_push_size _ rfl
  have fin := J.laid (t' := s.toks) (h' := h'.push { cls := .type "tuple", data := .seq its.toArray }) (o := .frz { cls := .type "tuple", data := .seq its.toArray } (.tup ys)) (fun b o e => Heap.get?_push_of_some _ e) (Nat.le_refl _) ⟨atl, hz, its, r', IsTup.new _ _⟩
  exact ⟨.ref h'.objs.size, _, fin, rfl, q _ _ (J.hok.fresh (Nat.le_refl _)) rfl rfl⟩
/-- dict(t), t a tuple of pairs whose object is known -/
def rDictT (K : PySem.W.Frag) : List V → Hp → VK → Prop := fun xs H Q => ∃ (a : Addr) (o : Obj) (rs : List Addr) (kvs : List (Key × V)), xs = [.ref a] ∧ H a = some (.frz o (.tup (rs.map V.ref))) ∧ o.cls = .type "tuple" ∧ o.dict = none ∧ Paired (fun p kv => SqT K H p [kV kv.1, kv.2]) rs kvs ∧
  ∀ p, H p = none → Q (.ref p) (upd H p (.dK (mergeK [] kvs)))
theorem call_dictT (hc0 : X.calm = true) : CallR X (.type "dict") (rDictT X.K) := by
  intro pins s σ H xs us Q I r h
  obtain ⟨a, o, rs, kvs, rfl, hq, hcl, hdn, hp, q⟩ := h
  obtain ⟨u, rfl, rx⟩ := vals1 r
  cases rx
  obtain ⟨ho, hz, its, rv, o2, ho2, hc2, n2, hd2⟩ := (show ObjOk X.prog X.w H s.heap a (.frz o (.tup (rs.map V.ref))) from I.hok a _ hq)
  obtain rfl : o = o2 := Option.some.inj (ho.symm.trans ho2)
  have ei := refs_at rv
  subst ei
  rw [List.length_map] at hz
  obtain ⟨prs, rel, hl, hpr⟩ := pairs_of I hp
  -- the keys, as they stand
  have keys : ∃ ks : List Value, ks.length = prs.length ∧ ∀ (j : Nat) (p : Key × Value), prs[j]? = some p → ∃ (b : Addr) (kv : Value), ks[j]? = some kv ∧ rs[j]? = some b ∧ IsTup s.heap b #[kv, p.2] ∧ keyIs p.1 kv = true := by
    have gen : ∀ (l : List (Key × Value)) (m : Nat), (∀ (j : Nat) (p : Key × Value), l[j]? = some p → ∃ (b : Addr) (u : Value), rs[m + j]? = some b ∧ IsTup s.heap b #[u, p.2] ∧ keyIs p.1 u = true) →
        ∃ ks : List Value, ks.length = l.length ∧ ∀ (j : Nat) (p : Key × Value), l[j]? = some p → ∃ (b : Addr) (kv : Value), ks[j]? = some kv ∧ rs[m + j]? = some b ∧ IsTup s.heap b #[kv, p.2] ∧ keyIs p.1 kv = true := by
      intro l
      induction l with
      | nil => intro m _; exact ⟨[], rfl, fun j p e => by simp at e⟩
      | cons x l ih =>
        intro m hh
        obtain ⟨b, u, e1, e2, e3⟩ := hh 0 x rfl
        obtain ⟨ks, k1, k2⟩ := ih (m + 1) fun j p e => by
          obtain ⟨b, u, g1, g2, g3⟩ := hh (j + 1) p (by simpa using e)
          exact ⟨b, u, by rw [show m + 1 + j = m + (j + 1) by omega]; exact g1, g2, g3⟩
        refine ⟨u :: ks, by rw [List.length_cons, List.length_cons, k1], fun j p e => ?_⟩
        cases j with
        | zero =>
          obtain rfl : x = p := Option.some.inj e
          exact ⟨b, u, rfl, e1, e2, e3⟩
        | succ j =>
          obtain ⟨b', kv, g0, g1, g2, g3⟩ := k2 j p (by simpa using e)
          exact ⟨b', kv, by simpa using g0, by rw [show m + (j + 1) = m + 1 + j by omega]; exact g1, g2, g3⟩
    obtain ⟨ks, k1, k2⟩ := gen prs 0 fun j p e => by
      obtain ⟨b, u, g1, g2, g3⟩ := hpr j p e
      exact ⟨b, u, by rw [Nat.zero_add]; exact g1, g2, g3⟩
    exact ⟨ks, k1, fun j p e => by
      obtain ⟨b, kv, g0, g1, g2, g3⟩ := k2 j p e
      exact ⟨b, kv, g0, by rw [Nat.zero_add] at g1; exact g1, g2, g3⟩⟩
  obtain ⟨ks, hk1, hk2⟩ := keys
  have zl : (ks.zip (prs.map (·.2))).length = prs.length := by rw [List.length_zip, hk1, List.length_map, Nat.min_self]
  have zat : ∀ (j : Nat) (k v : Value), (ks.zip (prs.map (·.2)))[j]? = some (k, v) → ∃ (p : Key × Value) (b : Addr), prs[j]? = some p ∧ p.2 = v ∧ rs[j]? = some b ∧ IsTup s.heap b #[k, v] ∧ keyIs p.1 k = true := fun j k v e => by
    obtain ⟨e1, e2⟩ := List.getElem?_zip_eq_some.mp e
    rw [List.getElem?_map] at e2
    obtain ⟨p, ep, rfl⟩ := Option.map_eq_some_iff.mp e2
    obtain ⟨b, kv, g0, g1, g2, g3⟩ := hk2 j p ep
    obtain rfl : kv = k := Option.some.inj (g0.symm.trans e1)
    exact ⟨p, b, ep, rfl, g1, g2, g3⟩
  refine PySem.call_dict_pairs (knd := mixKind X.prog X.w) (kvs := prs) (PairArg.tuple a (rs.map Value.ref).toArray (fun j => rs.getD j 0) (ks.zip (prs.map (·.2)))) (I.ok.hd hc0)
    ⟨⟨o, n2, ho, hcl, hdn, hd2⟩, by rw [List.size_toArray, List.length_map, zl, hl], fun j k v e => ?_⟩ ⟨zl.symm, fun j k v e => ?_⟩ (by rw [zl, hl]; exact hz) fun h' tk hd' kp => ?_
  · obtain ⟨p, b, _, _, g1, g2, _⟩ := zat j k v e
    refine ⟨by simp [g1], .inl ?_⟩
    have eb : rs.getD j 0 = b := by rw [List.getD_eq_getElem?_getD, g1]; rfl
    show s.heap.IsTuple (rs.getD j 0) #[k, v]
    rw [eb]
    exact g2
  · obtain ⟨p, b, g0, rfl, _, _, g3⟩ := zat j k v e
    exact ⟨p.1, g0, g3⟩
  · have hm : (s.heap.objs.size == sysModules) = false := beq_eq_false_iff_ne.mpr (Nat.ne_of_gt I.big)
    have hlen : (mergeK [] kvs).length ≤ sizeLine := by
      have := length_mergeK kvs []
      rw [List.length_nil, Nat.zero_add, rel.length, hl] at this
      exact Nat.le_trans this hz
    have fin := I.laid (t' := tk) (h' := h') (o := .dK (mergeK [] kvs)) (fun b ob e => kp b ob (by simp) e) (Nat.le_refl _) ⟨hlen, hm, merged [] prs, KV.merge rel .nil, hd'⟩
    exact ⟨.ref s.heap.objs.size, _, fin, rfl, q _ (I.hok.fresh (Nat.le_refl _))⟩
end
/-- the diff at t, its object known -/
def DfX (H : Hp) (t : Addr) (ps : List (Nat × Nat)) : Prop := ∃ (o : Obj) (rs : List Addr), H t = some (.frz o (.tup (refs rs))) ∧ o.cls = .type "tuple" ∧ o.dict = none ∧ PsAt H rs ps
theorem DfX.same {H H' : Hp} {t : Addr} {ps : List (Nat × Nat)} (s : Same H H') (h : DfX H t ps) : DfX H' t ps :=
  let ⟨o, rs, h1, h2, h3, h4⟩ := h; ⟨o, rs, s _ _ h1, h2, h3, h4.same s⟩
end XR
namespace XR
open PySem L2
theorem tup_lay : ∀ ps : List (Nat × Nat), PyData.canLayAll0 (ps.map tupD) = true ∧ PyData.depthAll (ps.map tupD) ≤ 3
  | [] => ⟨by simp [PyData.canLayAll0], by simp [PyData.depthAll]⟩
  | p :: ps => by
    obtain ⟨h1, h2⟩ := tup_lay ps
    refine ⟨by simp [PyData.canLayAll0, PyData.canLay0, tupD, h1], ?_⟩
    simp [PyData.depthAll, PyData.depth, tupD]
    omega
theorem df_lay (ps : List (Nat × Nat)) : (dfD ps).canLay0 = true ∧ SeqAt.shaped (dfD ps) = true := by
  obtain ⟨h1, h2⟩ := tup_lay ps
  have a : (dfD ps).canLay0 = true := by unfold dfD; simp only [PyData.canLay0, h1]
  refine ⟨a, ?_⟩
  unfold SeqAt.shaped
  rw [a, Bool.true_and, decide_eq_true_eq]
  have e : (dfD ps).depth = PyData.depthAll (ps.map tupD) + 1 := by unfold dfD; simp only [PyData.depth]
  omega
theorem DfV.dp {K : PySem.W.Frag} {H : Hp} {v : V} {ps : List (Nat × Nat)} (h : DfV K H v ps) : Dp K H v (dfD ps) := by
  have key : ∀ (xs : List V) (l : List (Nat × Nat)), DqAll K H xs (l.map tupD) → DpAll K H xs (l.map tupD) := by
    intro xs l
    induction l generalizing xs with
    | nil =>
      intro h
      cases h
      exact .nil
    | cons p l ih =>
      intro h
      cases h with
      | cons a b =>
        refine .cons ?_ (ih _ b)
        unfold tupD at a ⊢
        cases a with
        | tup k1 k2 =>
          obtain ⟨d1, d2, y1, y2, e3, rfl, m1, m2⟩ := k2.two rfl
          injection e3 with e3 e4
          injection e4 with e4 _
          subst e3 e4
          cases m1
          cases m2
          exact .tup k1 (.cons (.int _) (.cons (.int _) .nil))
  unfold DfV dfD at h
  cases h with
  | tup h1 h2 => exact .tup h1 (key _ _ h2)
/-- a list of words that stands -/
def LsAt (H : Hp) (x : V) (ss : List Str) : Prop := ∃ a, x = .ref a ∧ H a = some (.lst (ss.map V.str)) ∧ Wd ss ∧ ss.length ≤ 60
theorem LsAt.same {H H' : Hp} {x : V} {ss : List Str} (s : Same H H') (h : LsAt H x ss) : LsAt H' x ss := let ⟨a, e, h1, h2⟩ := h; ⟨a, e, s _ _ h1, h2⟩
theorem LsAt.t {K : PySem.W.Frag} {H : Hp} {x : V} {ss : List Str} (h : LsAt H x ss) : TxV K H x ss := by
  obtain ⟨a, rfl, h1, h2, h3⟩ := h
  exact lst_text (SqL.of h1) h2 h3
def spTR (K : PySem.W.Frag) : Sp := fun vs H Q _ => ∃ (x1 x2 x3 v1 v2 : V) (ss1 ss2 ss3 : List Str) (ps qs : List (Nat × Nat)), vs = [x1, x2, x3, v1, v2] ∧ LsAt H x1 ss1 ∧ LsAt H x2 ss2 ∧ LsAt H x3 ss3 ∧ DfV K H v1 ps ∧ IsDf ss1 ss2 ps ∧ DfV K H v2 qs ∧ IsDf ss2 ss3 qs ∧
  ∀ H', Same H H' → Q (.bl true) H'
end XR
/-! How long the repr of texts and diffs is. -/
namespace XR
open PySem L2
theorem sepFrom_le (B : Nat) : ∀ (ts : List Str) (k : Nat) (acc : Str), (∀ t ∈ ts, t.length ≤ B) → (textFrom k acc ts).length ≤ acc.length + ts.length * (B + 2)
  | [], k, acc, _ => by
    show acc.length ≤ acc.length + 0 * (B + 2)
    omega
  | t :: r, k, acc, h => by
    have ih := sepFrom_le B r (k + 1) (acc ++ (if k > 0 then ", " else "" : String) ++ t) fun x hx => h x (List.mem_cons_of_mem _ hx)
    have e : (acc ++ (if k > 0 then ", " else "" : String) ++ t).length ≤ acc.length + 2 + t.length := by
      rw [strLen_append, strLen_append]
      have q : (Str.ofString (if k > 0 then ", " else "")).length ≤ 2 := by
        by_cases hk : k > 0
        · rw [if_pos hk]; decide
        · rw [if_neg hk]; decide
      omega
    have ht := h t (List.mem_cons_self ..)
    show (textFrom (k + 1) _ r).length ≤ _
    rw [List.length_cons, Nat.succ_mul]
    omega
theorem shownAll_in {ds : List PyData} {t : Str} (h : t ∈ PyData.shownAll ds) : ∃ d ∈ ds, t = d.shown := by
  induction ds with
  | nil => simp [PyData.shownAll] at h
  | cons d ds ih =>
    simp only [PyData.shownAll, List.mem_cons] at h
    rcases h with rfl | h
    · exact ⟨d, List.mem_cons_self .., rfl⟩
    · obtain ⟨e, h1, h2⟩ := ih h
      exact ⟨e, List.mem_cons_of_mem _ h1, h2⟩
theorem shownAll_len : ∀ ds : List PyData, (PyData.shownAll ds).length = ds.length
  | [] => by simp [PyData.shownAll]
  | d :: ds => by simp [PyData.shownAll, shownAll_len ds]
theorem joined_le (B : Nat) : ∀ (ts : List Str), (∀ t ∈ ts, t.length ≤ B) → (Str.join ", " ts).length ≤ ts.length * (B + 2)
  | [], _ => by
    show (0 : Nat) ≤ _
    exact Nat.zero_le _
  | [x], h => by
    have := h x (List.mem_cons_self ..)
    show x.length ≤ _
    rw [List.length_cons, List.length_nil]
    omega
  | x :: y :: r, h => by
    have ih := joined_le B (y :: r) fun t ht => h t (List.mem_cons_of_mem _ ht)
    have hx := h x (List.mem_cons_self ..)
    have e2 : (Str.ofString ", ").length = 2 := by decide
    show (x ++ Str.ofString ", " ++ Str.join ", " (y :: r)).length ≤ _
    rw [strLen_append, strLen_append, e2]
    rw [List.length_cons, Nat.succ_mul]
    omega
/-- what can be shown, in at most n signs and k levels -/
structure Shw (n k : Nat) (d : PyData) : Prop where
  ok : d.showable = true
  len : d.shown.length ≤ n
  dep : d.depth ≤ k
theorem showAll_of : ∀ {ds : List PyData}, (∀ d ∈ ds, d.showable = true) → PyData.showableAll ds = true
  | [], _ => by simp [PyData.showableAll]
  | d :: ds, h => by
    simp only [PyData.showableAll, Bool.and_eq_true]
    exact ⟨h d (List.mem_cons_self ..), showAll_of fun x hx => h x (List.mem_cons_of_mem _ hx)⟩
theorem depAll_of {k : Nat} : ∀ {ds : List PyData}, (∀ d ∈ ds, d.depth ≤ k) → PyData.depthAll ds ≤ k
  | [], _ => by simp [PyData.depthAll]
  | d :: ds, h => by
    simp only [PyData.depthAll]
    exact Nat.max_le.mpr ⟨h d (List.mem_cons_self ..), depAll_of fun x hx => h x (List.mem_cons_of_mem _ hx)⟩
theorem Shw.list {n k m : Nat} {ds : List PyData} (h : ∀ d ∈ ds, Shw n k d) (l : ds.length ≤ m) : Shw (2 + m * (n + 2)) (k + 1) (.list ds) := by
  refine ⟨?_, ?_, ?_⟩
  · simp only [PyData.showable]
    exact showAll_of fun d hd => (h d hd).ok
  · simp only [PyData.shown]
    have e := sepFrom_le n (PyData.shownAll ds) 0 "[" fun t ht => by
      obtain ⟨d, hd, rfl⟩ := shownAll_in ht
      exact (h d hd).len
    have q : (listText (PyData.shownAll ds)).length = (textFrom 0 "[" (PyData.shownAll ds)).length + 1 := by
      show (textFrom 0 "[" (PyData.shownAll ds) ++ "]").length = _
      rw [strLen_append]; rfl
    have q2 : (Str.ofString "[").length = 1 := by decide
    rw [shownAll_len] at e
    have := Nat.mul_le_mul_right (n + 2) l
    omega
  · simp only [PyData.depth]
    have := depAll_of fun d hd => (h d hd).dep
    omega
theorem Shw.tuple {n k m : Nat} {ds : List PyData} (h : ∀ d ∈ ds, Shw n k d) (l : ds.length ≤ m) : Shw (3 + m * (n + 2)) (k + 1) (.tuple ds) := by
  refine ⟨?_, ?_, ?_⟩
  · simp only [PyData.showable]
    exact showAll_of fun d hd => (h d hd).ok
  · simp only [PyData.shown]
    have e := joined_le n (PyData.shownAll ds) fun t ht => by
      obtain ⟨d, hd, rfl⟩ := shownAll_in ht
      exact (h d hd).len
    have q1 : (Str.ofString "(").length = 1 := by decide
    have q2 : (Str.ofString (if (PyData.shownAll ds).length == 1 then ",)" else ")")).length ≤ 2 := by
      by_cases hk : ((PyData.shownAll ds).length == 1) = true
      · rw [if_pos hk]; decide
      · rw [if_neg hk]; decide
    unfold tupleText
    rw [strLen_append, strLen_append, q1]
    rw [shownAll_len] at e
    have := Nat.mul_le_mul_right (n + 2) l
    omega
  · simp only [PyData.depth]
    have := depAll_of fun d hd => (h d hd).dep
    omega
theorem Shw.le {n k n' k' : Nat} {d : PyData} (h : Shw n k d) (a : n ≤ n') (b : k ≤ k') : Shw n' k' d := ⟨h.ok, Nat.le_trans h.len a, Nat.le_trans h.dep b⟩
theorem shw_words : ∀ s ∈ words, (PyData.str s).showable = true ∧ (PyData.str s).shown.length ≤ 8 ∧ (PyData.str s).depth ≤ 1 := by decide +kernel
theorem shw_nums : ∀ i : Fin 61, (PyData.int ((i : Nat) : Int)).showable = true ∧ (PyData.int ((i : Nat) : Int)).shown.length ≤ 2 ∧ (PyData.int ((i : Nat) : Int)).depth ≤ 1 := by decide +kernel
theorem shw_num {i : Nat} (h : i ≤ 60) : Shw 2 1 (.int (i : Int)) := let ⟨a, b, c⟩ := shw_nums ⟨i, by omega⟩; ⟨a, b, c⟩
def lsD (ss : List Str) : PyData := .list (ss.map .str)
theorem shw_ls {ss : List Str} (w : Wd ss) (l : ss.length ≤ 60) : Shw 602 2 (lsD ss) := by
  refine Shw.list (n := 8) (k := 1) (m := 60) (fun d hd => ?_) (by rw [List.length_map]; exact l)
  obtain ⟨s, hs, rfl⟩ := List.mem_map.mp hd
  obtain ⟨a, b, c⟩ := shw_words s (w s hs)
  exact ⟨a, b, c⟩
theorem shw_tup {q : Nat × Nat} (h1 : q.1 ≤ 60) (h2 : q.2 ≤ 60) : Shw 11 2 (tupD q) := by
  refine Shw.tuple (n := 2) (k := 1) (m := 2) (fun d hd => ?_) (Nat.le_refl 2)
  simp only [List.mem_cons, List.not_mem_nil, or_false] at hd
  rcases hd with rfl | rfl
  · exact shw_num h1
  · exact shw_num h2
theorem shw_df {ss1 ss2 : List Str} {ps : List (Nat × Nat)} (h : IsDf ss1 ss2 ps) (l1 : ss1.length ≤ 60) (l2 : ss2.length ≤ 60) : Shw 783 3 (dfD ps) := by
  refine Shw.tuple (n := 11) (k := 2) (m := 60) (fun d hd => ?_) (by rw [List.length_map]; have := df_len h; omega)
  obtain ⟨q, hq, rfl⟩ := List.mem_map.mp hd
  obtain ⟨a, b, c, d, _⟩ := h.1 q hq
  exact shw_tup (by omega) (by omega)
theorem line_ge : 8000 ≤ sizeLine := by decide
end XR
/-! Calls by names alone; try with several clauses 'except C as n' of one name. -/
namespace XR
open PySem PySem.Spec L2
section
variable {X : Cx} {CX : CXT} {k : Nat} {f : Addr} {fd : FuncData} {ps ks : List Str} {sp : Sp} {E : St → XK} {x : Str} {p pos : Pos} {kws : List Keyword} {tk : TA} {g : List Value → List Value → List Value} {gV : List V → List V → List V}
/-- f(k = v, ..), nothing by its place -/
theorem pe_callKw (F : FnOk X.prog X.w X.K X.mg X.base CX k f fd ps sp) (hr : Room k X.A) (hgl : Gl X x) (hm : X.mg x = some (.ref f)) (hk : PySem.W.keepIn X.K (.ref f) = true) (kb : KBinds X.K fd ps ks g gV) (hx : ∀ σ, PassesAt CX X σ (E σ)) (hkw : PK X kws tk)
    (ok1 : (backToKw pos (keywordEach kws X.env)).all (·.1.isSome) = true := by rfl) (ok2 : (backToKw pos (keywordEach kws X.env)).filterMap (·.1) = ks := by rfl) (ok3 : (x == ("__debug__" : Str)) = false := by decide)
    (ok4 : ((backTo pos (starEach [] X.env)).any (·.1) || (backToKw pos (keywordEach kws X.env)).any (·.1.isNone)) = false := by rfl) :
    PE X (.Call (.Name x p) [] kws pos) (fun σ H Q => tk σ H fun zs H1 => sp (gV [] zs) H1 Q (E σ)) := by
  refine ⟨fun pins s σ H Q I h => wpAny_Call_Name_kw (ld_glob I hgl hm ?_ ok3)⟩
  refine PySem.W.callWith_KW0 (h₀ := X.base) I.ok.mod.kin hk ok1 (thn (hkw.run pos pins s σ H _ I h) fun ws t ⟨zs, H2, J, rz, q⟩ => ⟨J.kIn, ?_⟩) ok4
  rw [ok2]
  have r2 : Vals (gV [] zs) (g [] ws) := kb.rel .nil rz
  have hl : (g [] ws).length = ps.length := r2.length.symm.trans (F.len _ _ _ _ q)
  refine wpAny_call (codeAny_mono (F.run X.A X.stack t H2 ⟨[], ks.zip ws⟩ (g [] ws) (gV [] zs) Q (E σ) hr J.env0 (kb.to t [] ws J.kIn hl) r2 q) fun r t' hq => ?_)
  match r, hq with
  | .error e, hq => exact hx σ pins H2 t e t' J hq
  | .ok (.ret u), hq => exact J.after hq
  | .ok .next, hq => exact hq.elim
  | .ok .brk, hq => exact hq.elim
  | .ok .cont, hq => exact hq.elim
end
def turn4 {α : Type} : List α → List α → List α
  | [], [a, b, c, d] => [d, c, b, a]
  | _, _ => []
def turn5 {α : Type} : List α → List α → List α
  | [], [a, b, c, d, e] => [e, d, c, b, a]
  | _, _ => []
theorem turn4_rel {vs : List V} {us : List Value} {zs : List V} {ws : List Value} (r : Vals vs us) (t : Vals zs ws) : Vals (turn4 vs zs) (turn4 us ws) := by
  cases r with
  | cons _ _ => exact .nil
  | nil =>
    cases t with
    | nil => exact .nil
    | cons a t => cases t with
      | nil => exact .nil
      | cons b t => cases t with
        | nil => exact .nil
        | cons c t => cases t with
          | nil => exact .nil
          | cons d t => cases t with
            | nil => exact .cons d (.cons c (.cons b (.cons a .nil)))
            | cons e t => exact .nil
theorem turn5_rel {vs : List V} {us : List Value} {zs : List V} {ws : List Value} (r : Vals vs us) (t : Vals zs ws) : Vals (turn5 vs zs) (turn5 us ws) := by
  cases r with
  | cons _ _ => exact .nil
  | nil =>
    cases t with
    | nil => exact .nil
    | cons a t => cases t with
      | nil => exact .nil
      | cons b t => cases t with
        | nil => exact .nil
        | cons c t => cases t with
          | nil => exact .nil
          | cons d t => cases t with
            | nil => exact .nil
            | cons e t => cases t with
              | nil => exact .cons e (.cons d (.cons c (.cons b (.cons a .nil))))
              | cons f t => exact .nil
theorem turn4_len {us ws : List Value} (h : (turn4 us ws).length = 4) : ∃ a b c d, us = [] ∧ ws = [a, b, c, d] := by
  unfold turn4 at h
  split at h
  · exact ⟨_, _, _, _, rfl, rfl⟩
  · cases h
theorem turn5_len {us ws : List Value} (h : (turn5 us ws).length = 5) : ∃ a b c d e, us = [] ∧ ws = [a, b, c, d, e] := by
  unfold turn5 at h
  split at h
  · exact ⟨_, _, _, _, _, rfl, rfl⟩
  · cases h
section
variable {K : PySem.W.Frag} {x qual : Str} {st : Stmt} {f : Addr} {fd : FuncData} {p1 p2 p3 p4 p5 : Str}
theorem kb4 (F : Fun K x qual st f fd) (h : ∀ (kV doc pm : Value) (an : Option Addr) (cdv ct a b c d : Value), bindArgs (PySem.W.fnOf x qual (defArgs st) (defBody st) (defScope st) .none kV doc pm an cdv ct) ⟨[], [(p4, a), (p3, b), (p2, c), (p1, d)]⟩ = pure [(p1, d), (p2, c), (p3, b), (p4, a)]) :
    KBinds K fd [p1, p2, p3, p4] [p4, p3, p2, p1] turn4 turn4 := by
  obtain ⟨oc, od, kV, doc, pm, an, cdv, ct, osl, rfl, lk, hcd⟩ := F.ex
  refine ⟨fun s us ws _ hl => ?_, turn4_rel⟩
  obtain ⟨a, b, c, d, rfl, rfl⟩ := turn4_len hl
  exact .of_eq (h kV doc pm an cdv ct a b c d)
theorem kb5 (F : Fun K x qual st f fd) (h : ∀ (kV doc pm : Value) (an : Option Addr) (cdv ct a b c d e : Value), bindArgs (PySem.W.fnOf x qual (defArgs st) (defBody st) (defScope st) .none kV doc pm an cdv ct) ⟨[], [(p5, a), (p4, b), (p3, c), (p2, d), (p1, e)]⟩ = pure [(p1, e), (p2, d), (p3, c), (p4, b), (p5, a)]) :
    KBinds K fd [p1, p2, p3, p4, p5] [p5, p4, p3, p2, p1] turn5 turn5 := by
  obtain ⟨oc, od, kV, doc, pm, an, cdv, ct, osl, rfl, lk, hcd⟩ := F.ex
  refine ⟨fun s us ws _ hl => ?_, turn5_rel⟩
  obtain ⟨a, b, c, d, e, rfl, rfl⟩ := turn5_len hl
  exact .of_eq (h kV doc pm an cdv ct a b c d e)
end
/-- behind the suite of 'except C as n' the slot of n is empty -/
def freed (i : Nat) (D : Ends) : Ends := { nx := fun τ G => D.nx (τ.set i none) G, rt := D.rt, bk := fun τ G => D.bk (τ.set i none) G, ct := fun τ G => D.ct (τ.set i none) G }
abbrev Clauses := List (Value × (Addr → Value → Option Addr → TS))
/-- what the clauses, from the first one on, wish of an exception -/
def wishA (K : PySem.W.Frag) (i : Nat) (Wout : WX) (D : Ends) : Clauses → WX
  | [] => Wout
  | (c, ts) :: r => fun cls d σ H => ∃ b, PySem.W.exmOne K cls c = some b ∧ (b = true → ∀ a, H a = none → ts a cls d (freed i D) (σ.set i (some (.ref a))) H) ∧ (b = false → wishA K i Wout D r cls d σ H)
inductive ClausesOk (X : Cx) (n : Str) : List ExceptHandler → Clauses → Prop
  | nil : ClausesOk X n [] []
  | cons {x : Str} {c : Value} {ts : Addr → Value → Option Addr → TS} {st : Stmt} {sts : List Stmt} {np q : Pos} {hl : List ExceptHandler} {l : Clauses} (hc : Names X x c)
      (su : ∀ (a : Addr) (o : Obj) (cls : Value) (d : Option Addr) (pn : List (Addr × Obj)), Zc cls d o → (∃ vs, o.data = .fields vs) → PSs (X.suite a ((a, o) :: pn)) (st :: sts) (ts a cls d)) (r : ClausesOk X n hl l) :
      ClausesOk X n (.ExceptHandler (some (.Name x np)) (some n) (st :: sts) q :: hl) ((c, ts) :: l)
/-- what becomes of an exception that the clauses look at -/
def looked (X : Cx) (hl : List ExceptHandler) (Q : Flow → Shared → Prop) : Value → Shared → Prop := fun e t1 =>
  wpAny (model X.prog X.w) X.A (noteFrame e X.env) (fun _ t2 => wpAny (model X.prog X.w) X.A (setFlight e none) (fun _ t3 => wpAny (model X.prog X.w) X.A (handleBy e X.env hl) Q X.xe t3) X.xe t2) X.xe t1
section
variable {X : Cx} {body : List Stmt} {c₀ : ExceptHandler} {cl : List ExceptHandler} {l : Clauses} {pos : Pos} {tb : WX → TS} {Wout : WX} {i : Nat} {n : Str}
theorem ps_try_asMany (hs : X.stack = X.env :: X.outer) (hf : X.env.frame = some X.env.locals) (hN : X.N.Nodup) (hi : X.N[i]? = some n) (hln : X.env.kindOf n = some .local) (tk : Takes X Wout)
    (hb : ∀ (W : WX) (pn : List (Addr × Obj)) (xe : Value → Shared → Prop), Takes (X.tr pn xe) W → PySem.PassesOwn (model X.prog X.w) X.A X.env xe → PSs (X.tr pn xe) body (tb W)) (hc : ClausesOk X n (c₀ :: cl) l) :
    PS X (.Try body (c₀ :: cl) [] [] pos) (fun D σ H => tb (wishA X.K i Wout D l) D σ H) := by
  refine ⟨fun pins s σ H D I h => ?_⟩
  have ok := I.ok
  have hfr : X.A.frames = some (X.env :: X.outer) := ok.frames.trans (congrArg some hs)
  have hloc : Loc X.env.scope n := .inl hln
  refine wpAny_Try_except (wpAny_mono ((hb (wishA X.K i Wout D l) (X.pn ++ pins) (looked X (c₀ :: cl) (SP X pins D)) (fun u t xx => ?_) PySem.PassesOwn.looking).run [] s σ H D (I.toTry _) h) (fun fl t q => ?_) fun e t he => he)
  · obtain ⟨a, B, sI, pins', σ', H', cls, d, rfl, J', nb, up, sk, na, os, ag, w⟩ := xx
    have J : Inv X pins σ' H' sI := J'.ofTry ok
    rw [show (X.tr (X.pn ++ pins) (looked X (c₀ :: cl) (SP X pins D))).stack = X.env :: X.outer from hs] at sk
    show wpAny (model X.prog X.w) X.A (noteFrame (.ref a) X.env) _ _ _
    refine Sky.land Zc.steady hfr hf sk fun g3 fl3 up3 => ?_
    have J3 : Inv X pins σ' H' { t with heap := g3 } := J.landed nb fl3.1 (up.trans up3) os ag
    obtain ⟨o3, vs3, e3, z3, d3⟩ := fl3.there
    have nofr : a ∉ frs (X.env :: X.outer) := fun hm => by
      obtain ⟨_, o', e', hnf⟩ := fl3.2.2.1.mem hm
      rw [e3] at e'
      cases e'
      exact hnf _ d3
    have nL : a ≠ X.env.locals := fun z => nofr (List.mem_filterMap.mpr ⟨X.env, List.mem_cons_self, hf.trans (congrArg some z.symm)⟩)
    have nF : a ∉ X.fs := fun hm => let ⟨e, he, q⟩ := List.mem_filterMap.mp hm; nofr (List.mem_filterMap.mpr ⟨e, List.mem_cons_of_mem _ he, q⟩)
    have S3 := J3.suite e3 d3 na nL nF
    have go : ∀ {hl : List ExceptHandler} {k : Clauses}, ClausesOk X n hl k → wishA X.K i Wout D k cls d σ' H' →
        wpAny (model X.prog X.w) X.A (handleBy (.ref a) X.env hl) (SP X pins D) X.xe { t with heap := g3 } := by
      intro hl k hk
      induction hk with
      | nil =>
        intro w
        refine wpAny_handleBy_nil ?_
        obtain ⟨k1, k2, k3, oe, vs, T, oT, ts', he, hz, hd, h1, hr⟩ := id fl3
        unfold PySem.passOn
        refine wpAny_bind (wpAny_field he hd h1 ?_)
        rw [if_neg (by simp : ¬ ((Value.ref T == Value.none) = true))]
        have out : wpAny (model X.prog X.w) X.A (setFlight (.ref a) X.env.frame) (fun _ t4 => wpAny (model X.prog X.w) X.A (throw (.ref a) : Sem Flow) (SP X pins D) X.xe t4) X.xe { t with heap := g3 } := by
          rw [hf]
          exact HandSPX.setFlight_upZ fl3 fun g4 hh4 up4 => wpAny_throw (tk _ _ ⟨a, B, sI, pins, σ', H', cls, d, rfl, J, nb, (up.trans up3).trans up4, .inr (.inr (by rw [hs]; exact hh4)), na, os, ag, w⟩)
        first
          | exact wpAny_bind (wpAny_pure (wpAny_bind out))
          | exact wpAny_bind out
      | @cons x c ts st sts np q hl2 l2 hc su r ih =>
        intro w
        obtain ⟨b, hb1, yes, no⟩ := w
        refine wpAny_handleBy_cons (codeAny_handlers_test ?_) (fun q => nomatch q)
        have LT : PySem.W.Looks (model X.prog X.w) g3 (typeOf (.ref a)) cls := fun A Q E t k q => wpAny_typeOf_ref (k _ _ e3) (by rw [z3.1]; exact q)
        have test : ∀ {Q : Value → Shared → Prop} {E : Value → Shared → Prop}, Q c { t with heap := g3 } → wpAny (model X.prog X.w) (X.A.mark (some (.ref a))) (eval (.Name x np) X.env) Q E { t with heap := g3 } := fun {Q E} q => by
          obtain ⟨hg, hdb, hm | ⟨hm, hv, hnn⟩⟩ := hc
          · exact ld_glob (X := X.suite a ((a, o3) :: (X.pn ++ pins))) S3 hg hm q hdb
          · exact ld_blt (X := X.suite a ((a, o3) :: (X.pn ++ pins))) S3 hg hm hv q hnn hdb
        refine test ((PySem.W.exm_one (M := model X.prog X.w) J3.kIn LT hb1).here ?_)
        cases b with
        | false => exact ih (no rfl)
        | true =>
          refine codeAny_handlers_suite_as (HandSPX.lands_againZ fl3 fun g4 fl4 up4 => ?_)
          have J4 : Inv X pins σ' H' { t with heap := g4 } := J.landed nb fl4.1 ((up.trans up3).trans up4) os ag
          obtain ⟨o4, vs4, e4, z4, d4⟩ := fl4.there
          refine store_ok (X := X.suite a ((a, o4) :: (X.pn ++ pins))) (v := .ref a) (J4.suite e4 d4 na nL nF) hN hi hloc rfl (fun t5 S5 => ?_) (.inr hln)
          refine wpAny_mono ((su a o4 cls d (X.pn ++ pins) z4 ⟨_, d4⟩).run [] t5 _ H' _ S5 (yes rfl a na)) (fun fl t6 hsp => ?_) (fun _ _ z => z.elim)
          have gone : ∀ {σ6 : St} {H6 : Hp} {Q : Shared → Prop}, Inv (X.suite a ((a, o4) :: (X.pn ++ pins))) [] σ6 H6 t6 → (∀ t7, Inv X pins (σ6.set i none) H6 t7 → Q t7) →
              wpAny (model X.prog X.w) X.A (do bindName X.env n .none; unbindBehindTheSuite X.env n q) (fun _ t7 => Q t7) X.xe t6 := fun {σ6 H6 Q} S6 hq => gone_ok (S6.unsuite ok) hN hi hln hq
          cases fl with
          | ret u =>
            obtain ⟨v6, σ6, H6, S6, r6, q6⟩ := hsp
            exact gone S6 fun t7 J7 => ⟨_, _, _, J7, r6, q6⟩
          | next =>
            obtain ⟨σ6, H6, S6, q6⟩ := hsp
            exact gone S6 fun t7 J7 => ⟨_, _, J7, q6⟩
          | brk =>
            obtain ⟨σ6, H6, S6, q6⟩ := hsp
            exact gone S6 fun t7 J7 => ⟨_, _, J7, q6⟩
          | cont =>
            obtain ⟨σ6, H6, S6, q6⟩ := hsp
            exact gone S6 fun t7 J7 => ⟨_, _, J7, q6⟩
    exact go hc w
  · cases fl with
    | ret u =>
      obtain ⟨v, τ, G, J', r, z⟩ := q
      exact ⟨v, τ, G, J'.ofTry ok, r, z⟩
    | next =>
      obtain ⟨τ, G, J', z⟩ := q
      exact wpAny_execs_nil ⟨τ, G, J'.ofTry ok, z⟩
    | brk =>
      obtain ⟨τ, G, J', z⟩ := q
      exact ⟨τ, G, J'.ofTry ok, z⟩
    | cont =>
      obtain ⟨τ, G, J', z⟩ := q
      exact ⟨τ, G, J'.ofTry ok, z⟩
end
end XR
namespace XR
open PySem L2
/-- a drawn diff, new, its object known -/
def spDiffX : Sp := fun vs H Q _ => ∃ (a p1 p2 : Addr) (ss1 ss2 : List Str), vs = [.ref a, .ref p1, .ref p2] ∧ PotAt H a ∧ H p1 = some (.lst (ss1.map V.str)) ∧ H p2 = some (.lst (ss2.map V.str)) ∧ ss1.length ≤ 60 ∧ ss2.length ≤ 60 ∧
  ∀ (t : Addr) (ps : List (Nat × Nat)) H', PotAt H' a → But a H H' → H t = none → DfX H' t ps → IsDf ss1 ss2 ps → Q (.ref t) H'
theorem DfX.v {K : PySem.W.Frag} {H : Hp} {t : Addr} {ps : List (Nat × Nat)} (h : DfX H t ps) : DfV K H (.ref t) ps := by
  obtain ⟨o, rs, h1, _, _, h2, h3⟩ := h
  have key : ∀ (rs : List Addr) (ps : List (Nat × Nat)), rs.length = ps.length → (∀ (i : Nat) (q : Nat × Nat), ps[i]? = some q → ∃ r : Addr, rs[i]? = some r ∧ H r = some (tupV q)) → DqAll K H (refs rs) (ps.map tupD) := by
    intro rs
    induction rs with
    | nil =>
      intro ps hl _
      cases ps with
      | nil => exact .nil
      | cons p ps => simp at hl
    | cons r rs ih =>
      intro ps hl hq
      cases ps with
      | nil => simp at hl
      | cons p ps =>
        obtain ⟨r', e1, e2⟩ := hq 0 p rfl
        obtain rfl : r = r' := Option.some.inj e1
        exact .cons (.tup (.inl (.inl e2)) (.cons (.int _) (.cons (.int _) .nil))) (ih ps (by simpa using hl) fun i q h => hq (i + 1) q h)
  exact .tup (.inl (.inr ⟨o, h1⟩)) (key rs ps h2 h3)
end XR
namespace K14
open PySem L2 XR
section
variable {P : Program} {w : World} {K : PySem.W.Frag} {mg : Str → Option Value} {base : Heap}
theorem ok_diffX {f fD fP : Addr} {fd fdD fdP : FuncData} (F : Fun K "_law_diff" "_law_diff" sDiff f fd) (T : Blt mg) (D : Draws P w K mg base fD fP fdD fdP) : FnOk P w K mg base CX0 3 f fd ["_law_pot_here", "_law_elder", "_law_newer"] spDiffX := by
  refine F.ok scDiff (fun vs H Q E h => ?_) (fun cdv A outer s H vs Q E hr h => ?_)
  · obtain ⟨a, p1, p2, ss1, ss2, rfl, _⟩ := h
    rfl
  · obtain ⟨a, p1, p2, ss1, ss2, rfl, hpot, hl1, hl2, l1, l2, z⟩ := h
    refine ⟨_, pss_cons (ps_par3 (i := 3) (j := 4) (l := 5) rfl scDiff.nd rfl rfl rfl (by decide) (by decide) (by decide) rfl rfl rfl (pa_cons (pe_lst pa_nil) (pa_cons pe_int (pa_cons (pe_call D.GP hr rfl D.mP D.FP.kp D.bP .nil pass0 (pa_cons (pv 0) (pa_cons (pe_lst (pa_cons pe_int (pa_cons pe_int (pa_cons pe_int pa_nil)))) pa_nil))) pa_nil))) rfl)
      (pss_cons (ps_for PassesOwn.never rfl (pi_enum (by rfl) T.enum (pa_cons (pv 1) pa_nil)) (pg_tup rfl (pgs_cons (pg_name (i := 6) scDiff.nd rfl (.inl rfl)) (pgs_cons (pg_name (i := 7) scDiff.nd rfl (.inr rfl)) pgs_nil)))
        (pss_cons (ps_set (i := 8) scDiff.nd rfl (.inl rfl) (pe_slice sl_list (pe_lc (own := [("_law_j", 9)]) (g := gName 9) (tt := tTest (tOp rEq (tOp (rIxL K) (tVar 2) (tOp (rI0 fun i j => V.int (i - j)) (tVar 9) (tC (V.int 1)))) (tVar 7))) (te := tVar 9) rfl scDiff.nd
            (pi_range2 rfl T.range (pa_cons (pe_op op_add (pv 4) pe_int) (pa_cons (pe_op op_add (pe_callB call_len_seq (by rfl) T.len PySem.boot_len (pa_cons (pv 2) pa_nil)) pe_int) pa_nil)))
            (blkOk_by (own := [("_law_j", 9)]) (N := ["_law_pot_here", "_law_elder", "_law_newer", "_law_found", "_law_last", "_law_far", "_law_k", "_law_line", "_law_some", "_law_j"]) (sc := defScope sDiff) (by decide +kernel))
            (fun _ _ _ _ _ => pg_name (i := 9) scDiff.nd rfl (Or.inl rfl)) (fun _ _ _ _ _ => pts_one (pt_cmpR op_eq (pe_ix ix_list (pv 2) (pe_op op_sub (pv 9) pe_int) (fun _ _ => rfl)) (pv 7) (nomark _))) (fun _ _ _ _ _ => pv 9)) po_none (po_some (pv 5))))
        (pss_one (ps_if (PW.pt (pw_and (pt_cmpR (op_neD hr.units) (pv 8) (pe_lst pa_nil) (nomark _)) (pw_and1 (pt_cmpR op_gt (pe_call D.GD (hr.mono (by decide)) rfl D.mD D.FD.kp D.bD .nil pass0 (pa_cons (pv 0) (pa_cons pe_int pa_nil))) pe_int (nomark _)))))
          (pss_cons (ps_set (i := 4) scDiff.nd rfl (.inl rfl) (pe_call D.GP hr rfl D.mP D.FP.kp D.bP .nil pass0 (pa_cons (pv 0) (pa_cons (pv 8) pa_nil))))
          (pss_one (ps_expr (pe_bm PySem.F.plainAttrs_list PySem.F.slot_list_append PySem.F.type_list_append mt_append (pv 3) (pa_cons (pe_tup (pa_cons (pe_op op_add (pv 6) pe_int) (pa_cons (pv 4) pa_nil))) pa_nil)))))
          pss_nil))))
      (pss_one (ps_ret (pe_callTy call_tupleX (by rfl) (T.all "tuple" (by decide)) (by decide +kernel) (pa_cons (pv 3) pa_nil))))), ?_⟩
    refine ⟨ll20 (by decide), fun pf nf => ⟨_, rfl, ll20 (by show 3 ≤ 20; decide), fun q k => ?_⟩⟩
    have s0 := same_upd (o := .lst []) nf
    have s1 := same_upd (o := .lst [V.int 1, V.int 2, V.int 60]) k
    have af := hpot.ne nf
    have aq := (hpot.same s0).ne k
    have hpf := s1 _ _ (upd_same (H := H) (a := pf) (o := .lst []))
    have hq := upd_same (H := upd H pf (.lst [])) (a := q) (o := .lst [V.int 1, V.int 2, V.int 60])
    have sm := s0.trans s1
    refine ⟨a, q, [V.int 1, V.int 2, V.int 60], rfl, hpot.same sm, hq, aq, by show 0 < 3; decide, by show 3 ≤ 1000; decide, fun x G hx hp0 b0 => ?_⟩
    generalize upd (upd H pf (.lst [])) q (.lst [V.int 1, V.int 2, V.int 60]) = G0 at sm hpf hq b0
    obtain ⟨fr, rfl, fr1⟩ : ∃ fr : Int, x = .int fr ∧ 0 ≤ fr := by
      simp only [List.mem_cons, List.not_mem_nil, or_false] at hx
      rcases hx with rfl | rfl | rfl
      · exact ⟨1, rfl, by decide⟩
      · exact ⟨2, rfl, by decide⟩
      · exact ⟨60, rfl, by decide⟩
    have bG : But a H G := fun b o h n => b0 _ _ (sm _ _ h) n
    have hpfG := b0 _ _ hpf af.symm
    clear s0 s1 k hq
    refine ⟨_, _, _, rfl, ?_⟩
    refine ⟨_, rfl, p1, _, rfl, SqL.of (bG _ _ hl1 (lst_ne hpot hl1).symm), ?_⟩
    refine for_it walk_enum (fun i σ H' => PotAt H' a ∧ But a H H' ∧ ∃ (rs : List Addr) (ps : List (Nat × Nat)) (last : Nat) (x6 x7 x8 x9 : Option V), σ = [some (V.ref a), some (V.ref p1), some (V.ref p2), some (V.ref pf), some (V.int (last : Int)), some (V.int fr), x6, x7, x8, x9] ∧
      H' pf = some (.lst (refs rs)) ∧ PsAt H' rs ps ∧ IsDf ss1 ss2 ps ∧ (∀ q, q ∈ ps → q.1 ≤ i ∧ q.2 ≤ last) ∧ last ≤ 60 ∧ ps.length ≤ i)
      ⟨hp0, bG, [], [], 0, _, _, _, _, rfl, hpfG, .nil, .nil, (fun q h => nomatch h), by decide, Nat.le_refl _⟩
      (fun i σ H' hi ⟨_, hb, _⟩ => SqL.of (hb _ _ hl1 (lst_ne hpot hl1).symm)) ?_ ?_
    · rintro i x σ Ha Hb hi ⟨hp, hb, rs, ps, last, x6, x7, x8, x9, rfl, hf, hps, hdf, hlast, last60, psl⟩ ⟨t, y1, y2, rfl, nt, rfl, hy1, hy2⟩
      cases hy1
      obtain ⟨ln, rfl, hln⟩ := str_of_map hy2
      rw [List.length_map] at hi
      have st := same_upd (o := .tup [V.int (i : Nat), V.str ln]) nt
      have hp1 := hp.same st
      have hb1 := hb.same st
      have hf1 := st _ _ hf
      have hps1 := hps.same st
      refine ⟨t, _, rfl, .inl (.inl upd_same), rfl, ?_⟩
      generalize upd Ha t (.tup [V.int (i : Nat), V.str ln]) = Hb at st hp1 hb1 hf1 hps1 ⊢
      have hl2b := hb1 _ _ hl2 (lst_ne hpot hl2).symm
      refine ⟨_, _, rfl, _, _, rfl, rfl, ?_⟩
      refine ⟨_, rfl, _, _, rfl, rfl, _, rfl, p2, _, rfl, .inl (SqL.of hl2b), _, _, rfl, rfl, ?_⟩
      rw [List.length_map]
      refine ⟨_, _, rfl, ⟨by omega, by omega, by omega, by omega⟩, fun c nc => ?_⟩
      have sc0 := same_upd (o := .lst []) nc
      refine lc_range (lo := (last : Int) + 1) (n := (((ss2.length : Nat) : Int) + 1 - ((last : Int) + 1)).toNat) (fun j H' => PotAt H' a ∧ Same Hb H' ∧ ∃ js : List Int, H' c = some (.lst (js.map V.int)) ∧ (∀ x, x ∈ js → (last : Int) < x ∧ ss2[(x - 1).toNat]? = some ln) ∧ js.length ≤ j)
        ⟨hp1.same sc0, sc0, [], upd_same, (fun x h => nomatch h), Nat.le_refl _⟩ ?_ ?_
      · rintro j H' hj ⟨hp', sm', js, hc, hjs, ljs⟩
        have hl2' := sm' _ _ hl2b
        have hlt : last + j < ss2.length := by omega
        have ei : (last : Int) + 1 + (j : Int) - 1 = ((last + j : Nat) : Int) := by omega
        refine ⟨rfl, ?_⟩
        refine ⟨_, rfl, _, rfl, _, _, rfl, rfl, p2, _, _, V.str ss2[last + j], rfl, rfl, SqL.of hl2', ?_, _, rfl, rfl, _, rfl, ?_⟩
        · rw [ei]
          exact atI_nat (by rw [List.getElem?_map, List.getElem?_eq_getElem hlt]; rfl)
        · have nc' : ∀ b o, Hb b = some o → b ≠ c := fun b o h => ne_of_none h nc
          refine ite2 (fun h1 => ?_) (fun h1 => ?_)
          · have h2 : ss2[last + j] = ln := by
              have := of_decide_eq_true h1
              injection this
            refine ⟨_, rfl, _, hc, ?_, hp'.upd (fun e => ?_), fun b o h => ?_, js ++ [(last : Int) + 1 + (j : Int)], ?_, ?_, ?_⟩
            · rw [List.length_map]
              exact Nat.lt_of_le_of_lt ljs (Nat.lt_of_lt_of_le (show j < 61 by omega) (by decide))
            · obtain ⟨x, y, e2, _⟩ := hp1
              rw [e, nc] at e2; cases e2
            · rw [upd_ne (nc' b o h)]; exact sm' _ _ h
            · rw [upd_same, List.map_append]; rfl
            · intro x hx
              rcases List.mem_append.mp hx with hx | hx
              · exact hjs x hx
              · rw [List.mem_singleton.mp hx]
                refine ⟨by omega, ?_⟩
                rw [show ((last : Int) + 1 + (j : Int) - 1).toNat = last + j by omega, List.getElem?_eq_getElem hlt, h2]
            · rw [List.length_append]; simp; omega
          · exact ⟨hp', sm', js, hc, hjs, by omega⟩
      · rintro Hd ⟨hp', sm', js, hc, hjs, ljs⟩
        refine ⟨_, rfl, fr, rfl, c, _, rfl, SqL.of hc, fun u nu => ?_⟩
        rw [cut_ints js fr1]
        have hjt : ∀ x, x ∈ js.take fr.toNat → (last : Int) < x ∧ ss2[(x - 1).toNat]? = some ln := fun x hx => hjs x (List.mem_of_mem_take hx)
        have ljt : (js.take fr.toNat).length ≤ 61 := by rw [List.length_take]; omega
        have hu := upd_same (H := Hd) (a := u) (o := .lst ((js.take fr.toNat).map V.int))
        have su := same_upd (o := .lst ((js.take fr.toNat).map V.int)) nu
        have sall := sm'.trans su
        have hpu := hp'.same su
        have au : a ≠ u := hp'.ne nu
        generalize js.take fr.toNat = jt at hjt ljt hu su sall hpu ⊢
        generalize upd Hd u (.lst (jt.map V.int)) = He at hu su sall hpu ⊢
        clear su hc nu
        refine ⟨_, rfl, ll20 (by decide), fun e1 ne1 => ?_⟩
        have se := same_upd (o := .lst []) ne1
        refine ⟨.list (jt.map .int), .list [], .lst (SqL.of (se _ _ hu)) (dpInts _), .lst (SqL.of upd_same) .nil, int_lay _, int_lay [], _, rfl, ?_⟩
        have sf := sall.trans se
        have hpf' := hpu.same se
        have huf := se _ _ hu
        generalize upd He e1 (.lst []) = Hf at sf hpf' huf ⊢
        clear se ne1 hu
        have bf := hb1.same sf
        have stay : ∀ (Hz : Hp), PotAt Hz a → But a Hf Hz → (Hz pf = some (.lst (refs rs)) ∧ PsAt Hz rs ps ∧ IsDf ss1 ss2 ps ∧ (∀ q, q ∈ ps → q.1 ≤ i + 1 ∧ q.2 ≤ last) ∧ last ≤ 60 ∧ ps.length ≤ i + 1) := fun Hz hz bz =>
          ⟨bz _ _ (sf _ _ hf1) af.symm, (hps1.same sf).but bz hpf', hdf, fun q hq => ⟨Nat.le_succ_of_le (hlast q hq).1, (hlast q hq).2⟩, last60, by omega⟩
        cases jt with
        | nil =>
          rw [show PyData.eqv (.list ([].map PyData.int)) (.list []) = true from eqv_nil0]
          exact iteF (iteF ⟨hpf', bf, rs, ps, last, _, _, _, _, rfl, stay Hf hpf' (But.refl a Hf)⟩)
        | cons j0 jt =>
          rw [show PyData.eqv (.list ((j0 :: jt).map PyData.int)) (.list []) = false from eqv_nil _ _]
          refine iteT ⟨_, rfl, a, 4, rfl, hpf', by decide, by decide, fun r Hg r0 r1 hpg bg => ⟨_, _, rfl, rfl, _, rfl, ?_⟩⟩
          have hug := bg _ _ huf au.symm
          refine ite2 (fun _ => ?_) (fun _ => ?_)
          · refine ⟨_, rfl, _, rfl, a, u, _, rfl, hpg, hug, au, by simp, by rw [List.length_map]; exact Nat.le_trans ljt (by decide), fun x Hh hx hph bh => ?_⟩
            obtain ⟨jv, hjv, rfl⟩ := List.mem_map.mp hx
            obtain ⟨jl, jm⟩ := hjt jv hjv
            obtain ⟨jn, rfl⟩ : ∃ jn : Nat, jv = (jn : Int) := ⟨jv.toNat, by omega⟩
            have bgh := bg.trans bh
            obtain ⟨st1, st2, st3, st4, st5, st6⟩ := stay Hh hph bgh
            refine ⟨_, rfl, .inl ⟨rfl, _, SqL.of st1⟩, ?_⟩
            refine ⟨_, rfl, _, _, rfl, rfl, _, rfl, ll20 (by show 2 ≤ 20; decide), fun v nv => ?_⟩
            have sv := same_upd (o := .tup [V.int ((i : Int) + 1), V.int (jn : Int)]) nv
            have hfv := sv _ _ st1
            have jlen : jn ≤ ss2.length := by
              have := (List.getElem?_eq_some_iff.mp jm).1
              omega
            refine ⟨pf, _, _, rfl, rfl, hfv, ?_, ?_⟩
            · unfold refs
              rw [List.length_map, st2.1]
              exact Nat.lt_of_le_of_lt st6 (Nat.lt_of_lt_of_le (show i + 1 < 62 by omega) (by decide))
            · have hv : upd Hh v (.tup [V.int ((i : Int) + 1), V.int (jn : Int)]) v = some (tupV (i + 1, jn)) := by
                rw [upd_same]; rfl
              have ps2 := ((st2.same sv).snoc hv).updL (ys := refs rs ++ [V.ref v]) hfv
              refine ⟨(hph.same sv).upd af, fun b o h n => ?_, rs ++ [v], ps ++ [(i + 1, jn)], jn, _, _, _, _, rfl, ?_, ps2, st3.snoc hln (by omega) ?_ (fun q hq => ⟨?_, ?_⟩), fun q hq => ?_, by omega, ?_⟩
              · have e := sv _ _ ((bf.trans bgh) b o h n)
                rw [upd_ne (fun e2 => by rw [e2, nf] at h; cases h)]
                exact e
              · rw [upd_same]
                unfold refs
                rw [List.map_append]
                rfl
              · rw [show ((jn : Int) - 1).toNat = jn - 1 by omega] at jm
                exact jm
              · have := (hlast q hq).1; omega
              · have := (hlast q hq).2; omega
              · rcases List.mem_append.mp hq with hq | hq
                · have := hlast q hq
                  exact ⟨by omega, by omega⟩
                · rw [List.mem_singleton.mp hq]
                  exact ⟨Nat.le_refl _, Nat.le_refl _⟩
              · rw [List.length_append]; simp; omega
          · exact ⟨hpg, bf.trans bg, rs, ps, last, _, _, _, _, rfl, stay Hg hpg bg⟩
    · rintro σ G' ⟨hp, hb, rs, ps, last, x6, x7, x8, x9, rfl, hf, hps, hdf, hlast, last60, psl⟩
      refine ⟨_, rfl, pf, _, rfl, SqL.of hf, fun u ob nu hcl hdn => ?_⟩
      have su := same_upd (o := .frz ob (.tup (refs rs))) nu
      exact z u ps _ (hp.same su) (hb.same su) (hb.fresh hp nu) ⟨ob, rs, upd_same, hcl, hdn, hps.same su⟩ hdf
end
end K14
namespace XR
open PySem L2
theorem passP {X : Cx} (σ : St) : PassesAt CX0 X σ E0 := fun _ _ _ _ _ _ h => h.elim
theorem LsAt.at {H : Hp} {a : Addr} {ss : List Str} (h : LsAt H (.ref a) ss) : H a = some (.lst (ss.map V.str)) := by
  obtain ⟨b, e, h1, _⟩ := h
  cases e
  exact h1
theorem LsAt.dq {K : PySem.W.Frag} {H : Hp} {a : Addr} {ss : List Str} (h : LsAt H (.ref a) ss) : Dq K H (.ref a) (lsD ss) := .lst (SqL.of h.at) (dqStrs ss)
theorem LsAt.wd {H : Hp} {x : V} {ss : List Str} (h : LsAt H x ss) : Wd ss := let ⟨_, _, _, w, _⟩ := h; w
theorem LsAt.le {H : Hp} {x : V} {ss : List Str} (h : LsAt H x ss) : ss.length ≤ 60 := let ⟨_, _, _, _, l⟩ := h; l
theorem DfAt.updL {H : Hp} {t p : Addr} {ps : List (Nat × Nat)} {xs ys : List V} (h : DfAt H t ps) (k : H p = some (.lst xs)) : DfAt (upd H p (.lst ys)) t ps := by
  obtain ⟨rs, h1, h2⟩ := h
  refine ⟨rs, ?_, h2.updL k⟩
  rw [upd_ne (ne_of h1 k (by intro z; cases z))]
  exact h1
theorem same_new {H H1 : Hp} {p : Addr} {o o' : HO} (n : H p = none) (s : Same (upd H p o) H1) : Same H (upd H1 p o') := fun b u e => by
  rw [upd_ne (ne_of_none e n)]
  exact s _ _ (same_upd n _ _ e)
theorem isdiff_ok {K : PySem.W.Frag} {CT : Addr} {H : Hp} {x1 x2 v : V} {ss1 ss2 : List Str} {ps : List (Nat × Nat)} {Q : VK} {E : XK} (t1 : TxV K H x1 ss1) (t2 : TxV K H x2 ss2) (hv : DfV K H v ps) (h : IsDf ss1 ss2 ps) (z : ∀ H', Same H H' → Q (.bl true) H') : spIsDiff K CT [x1, x2, v] H Q E := by
  have l1 := t1.len
  obtain ⟨d1, a1, b1, rfl⟩ := t1
  obtain ⟨d2, a2, b2, rfl⟩ := t2
  have hl := df_len h
  refine ⟨x1, x2, v, d1, d2, dfD ps, rfl, a1, a2, hv, ?_, fun _ _ => ?_, BadT.none (by simp [b1, b2])⟩
  · show (ps.map tupD).length ≤ 1000
    rw [List.length_map]
    omega
  · rw [df_ok h]
    exact z
theorem Shw.line {n k : Nat} {d : PyData} (h : Shw n k d) (hn : n ≤ 8000) : d.shown.length ≤ sizeLine := Nat.le_trans h.len (Nat.le_trans hn line_ge)
theorem Shw.low {n k : Nat} {d : PyData} (h : Shw n k d) (hk : k ≤ 60) : d.depth ≤ 60 := Nat.le_trans h.dep hk
def twice (ps : List (Nat × Nat)) : PyData := .list [dfD ps, dfD ps]
theorem shw_twice {ss1 ss2 : List Str} {ps : List (Nat × Nat)} (h : IsDf ss1 ss2 ps) (l1 : ss1.length ≤ 60) (l2 : ss2.length ≤ 60) : Shw 1572 4 (twice ps) := by
  refine Shw.list (n := 783) (k := 3) (m := 2) (fun d hd => ?_) (Nat.le_refl 2)
  simp only [List.mem_cons, List.not_mem_nil, or_false] at hd
  rcases hd with rfl | rfl <;> exact shw_df h l1 l2
theorem dq_twice {K : PySem.W.Frag} {H : Hp} {p : Addr} {x y : V} {ps : List (Nat × Nat)} (h : H p = some (.lst [x, y])) (k1 : DfV K H x ps) (k2 : DfV K H y ps) : Dq K H (.ref p) (twice ps) := .lst (SqL.of h) (.cons k1 (.cons k2 .nil))
theorem LsAt.but {p : Addr} {H H' : Hp} {x : V} {ss : List Str} (b : But p H H') (hp : PotAt H p) (h : LsAt H x ss) : LsAt H' x ss := let ⟨a, e, h1, h2⟩ := h; ⟨a, e, b _ _ h1 (lst_ne hp h1).symm, h2⟩
theorem DfX.but {a t : Addr} {H H' : Hp} {ps : List (Nat × Nat)} (b : But a H H') (hp : PotAt H a) (h : DfX H t ps) : DfX H' t ps := by
  obtain ⟨o, rs, h1, h2, h3, h4⟩ := h
  refine ⟨o, rs, b _ _ h1 (fun e => ?_), h2, h3, h4.but b hp⟩
  obtain ⟨p, q, h, _⟩ := hp
  rw [e, h] at h1
  cases h1
def turn3 {α : Type} : List α → List α → List α
  | [], [a, b, c] => [c, b, a]
  | _, _ => []
theorem turn3_rel {vs : List V} {us : List Value} {zs : List V} {ws : List Value} (r : Vals vs us) (t : Vals zs ws) : Vals (turn3 vs zs) (turn3 us ws) := by
  cases r with
  | cons _ _ => exact .nil
  | nil =>
    cases t with
    | nil => exact .nil
    | cons a t => cases t with
      | nil => exact .nil
      | cons b t => cases t with
        | nil => exact .nil
        | cons c t => cases t with
          | nil => exact .cons c (.cons b (.cons a .nil))
          | cons d t => exact .nil
theorem turn3_len {us ws : List Value} (h : (turn3 us ws).length = 3) : ∃ a b c, us = [] ∧ ws = [a, b, c] := by
  unfold turn3 at h
  split at h
  · exact ⟨_, _, _, rfl, rfl⟩
  · cases h
section
variable {K : PySem.W.Frag} {x qual : Str} {st : Stmt} {f : Addr} {fd : FuncData} {p1 p2 p3 : Str}
theorem kb3 (F : Fun K x qual st f fd) (h : ∀ (kV doc pm : Value) (an : Option Addr) (cdv ct a b c : Value), bindArgs (PySem.W.fnOf x qual (defArgs st) (defBody st) (defScope st) .none kV doc pm an cdv ct) ⟨[], [(p3, a), (p2, b), (p1, c)]⟩ = pure [(p1, c), (p2, b), (p3, a)]) :
    KBinds K fd [p1, p2, p3] [p3, p2, p1] turn3 turn3 := by
  obtain ⟨oc, od, kV, doc, pm, an, cdv, ct, osl, rfl, lk, hcd⟩ := F.ex
  refine ⟨fun s us ws _ hl => ?_, turn3_rel⟩
  obtain ⟨a, b, c, rfl, rfl⟩ := turn3_len hl
  exact .of_eq (h kV doc pm an cdv ct a b c)
end
end XR
namespace XR
open PySem L2
/-- lines kept, gone, come -/
def keptL (ps : List (Nat × Nat)) : List Nat := ps.map (·.1)
def outL (m : Nat) (ks : List Nat) : List Nat := ((List.range m).map (· + 1)).filter fun i => !decide (i ∈ ks)
def goneL (m : Nat) (ps : List (Nat × Nat)) : List Nat := outL m (ps.map (·.1))
def comeL (n : Nat) (ps : List (Nat × Nat)) : List Nat := outL n (ps.map (·.2))
def intsV (l : List Nat) : List V := l.map fun i : Nat => V.int (i : Int)
theorem outL_succ (k : Nat) (ks : List Nat) : outL (k + 1) ks = if k + 1 ∈ ks then outL k ks else outL k ks ++ [k + 1] := by
  unfold outL
  rw [List.range_succ, List.map_append, List.filter_append]
  by_cases h : k + 1 ∈ ks <;> simp [List.filter_cons, h]
theorem outL_len (m : Nat) (ks : List Nat) : (outL m ks).length ≤ m := by
  unfold outL
  have := List.length_filter_le (fun i => !decide (i ∈ ks)) ((List.range m).map (· + 1))
  rw [List.length_map, List.length_range] at this
  exact this
theorem intsV_flat (l : List Nat) : (intsV l).all flatV = true := List.all_eq_true.mpr fun x hx => by
  obtain ⟨i, _, rfl⟩ := List.mem_map.mp hx
  rfl
theorem inV_ints {l : List Nat} {i : Nat} : inV (.int (i : Int)) (intsV l) = decide (i ∈ l) := by
  unfold inV intsV
  rw [List.any_map]
  induction l with
  | nil => rfl
  | cons a l ih =>
    rw [List.any_cons, ih]
    have e : (eqV (V.int (a : Int)) (V.int (i : Int))) = decide (i = a) := by
      show ((a : Int) == (i : Int)) = decide (i = a)
      by_cases h : i = a
      · subst h; simp
      · rw [decide_eq_false h]; exact beq_eq_false_iff_ne.mpr (by omega)
    show (eqV (V.int (a : Int)) (V.int (i : Int)) || decide (i ∈ l)) = _
    rw [e]
    by_cases h : i = a
    · simp [h]
    · simp [h]
/-- what is told of two texts and a diff as a new list of numbers -/
def spNums (K : PySem.W.Frag) (f : Nat → Nat → List (Nat × Nat) → List Nat) : Sp := fun vs H Q _ => ∃ (x1 x2 v : V) (ss1 ss2 : List Str) (ps : List (Nat × Nat)), vs = [x1, x2, v] ∧ TxV K H x1 ss1 ∧ TxV K H x2 ss2 ∧ DfV K H v ps ∧ IsDf ss1 ss2 ps ∧
  ∀ l H', Same H H' → H l = none → H' l = some (.lst (intsV (f ss1.length ss2.length ps))) → Q (.ref l) H'
theorem none_before {H H1 : Hp} {d : Addr} (s : Same H H1) (n : H1 d = none) : H d = none := by
  cases q : H d with
  | none => rfl
  | some o => rw [s _ _ q] at n; cases n
end XR
namespace K14
open PySem L2 XR
abbrev sGone : Stmt := top 31
abbrev sCome : Stmt := top 32
abbrev sKept : Stmt := top 33
section
variable {P : Program} {w : World} {K : PySem.W.Frag} {mg : Str → Option Value} {base : Heap}
theorem scKept : FnScope ["old", "new", "diff", "i", "_"] ["old", "new", "diff"] (defScope sKept) := ⟨rfl, rfl, rfl, by decide +kernel, rfl, by decide +kernel, by decide +kernel⟩
theorem ok_kept {f fC CT CD : Addr} {fd fdC : FuncData} (F : Fun K "kept_lines" "kept_lines" sKept f fd) (C : Chk P w K mg base fC CT CD fdC) : FnOk P w K mg base CX0 6 f fd ["old", "new", "diff"] (spNums K fun _ _ ps => keptL ps) := by
  refine F.ok scKept (fun vs H Q E h => ?_) (fun cdv A outer s H vs Q E hr h => ?_)
  · obtain ⟨x1, x2, v, ss1, ss2, ps, rfl, _⟩ := h
    rfl
  · obtain ⟨x1, x2, v, ss1, ss2, ps, rfl, t1, t2, hv, hd, z⟩ := h
    refine ⟨_, pss_cons (ps_expr (pe_callS C.G hr rfl C.m C.F.kp C.b (fun σ => passF σ) (pa_cons (pv 0) (pa_cons (pv 1) (pa_cons (pv 2) pa_nil)))))
      (pss_one (ps_ret (pe_lc (own := [("i", 3), ("_", 4)]) (g := gTup K 2 (gCons (gName 3) (gCons (gName 4) gNil))) (tt := tYes) (te := tVar 3) rfl scKept.nd (pi_tup (pv 2))
        (blkOk_by (own := [("i", 3), ("_", 4)]) (N := ["old", "new", "diff", "i", "_"]) (sc := defScope sKept) (by decide +kernel))
        (fun _ _ _ _ _ => pg_tup rfl (pgs_cons (pg_name (i := 3) scKept.nd rfl (.inl rfl)) (pgs_cons (pg_name (i := 4) scKept.nd rfl (.inl rfl)) pgs_nil))) (fun _ _ _ _ _ => pts_nil)
        (fun _ _ _ _ _ => pv 3)))), ?_⟩
    have l60 := t1.len
    have dl := df_len hd
    refine ⟨_, rfl, _, rfl, _, rfl, ?_⟩
    dsimp only [tNil]
    refine chk_ok t1 t2 hv hd fun H1 s1 => ?_
    obtain ⟨t, xs, rfl, ht, hl, hx⟩ := (hv.same s1).items
    refine ⟨_, rfl, t, rfl, ⟨_, ht⟩, fun D nD => ?_⟩
    have sD := same_upd (o := .lst []) nD
    refine lc_tup (K := K) (a := t) (xs := xs) (fun i H' => Same H1 H' ∧ H' D = some (.lst (intsV (keptL (ps.take i))))) ⟨sD, upd_same⟩ (fun i H' _ hh => XR.Same.tup hh.1 ht) ?_ ?_
    · rintro i x H' hi ⟨sm, hD⟩
      obtain ⟨q, r, hq, rfl, hr'⟩ := hx i x hi
      refine ⟨r, _, rfl, XR.Same.tup sm hr', rfl, _, _, rfl, _, _, rfl, rfl, rfl, ?_⟩
      unfold tYes
      dsimp only
      rw [if_pos rfl]
      refine ⟨_, rfl, _, hD, ?_, fun b o h => ?_, ?_⟩
      · unfold intsV keptL
        rw [List.length_map, List.length_map, List.length_take]
        exact Nat.lt_of_le_of_lt (show min i ps.length ≤ 60 by omega) (by decide)
      · rw [upd_ne (ne_of_none h nD)]
        exact sm _ _ h
      · rw [upd_same, List.take_add_one, hq]
        unfold intsV keptL
        rw [List.map_append, List.map_append]
        rfl
    · rintro H' ⟨sm, hD⟩
      rw [hl, List.take_length] at hD
      exact z D H' (s1.trans sm) (none_before s1 nD) hD
theorem scGone : FnScope ["old", "new", "diff", "kept", "i"] ["old", "new", "diff"] (defScope sGone) := ⟨rfl, rfl, rfl, by decide +kernel, rfl, by decide +kernel, by decide +kernel⟩
theorem ok_gone {f fK : Addr} {fd fdK : FuncData} (F : Fun K "gone_lines" "gone_lines" sGone f fd) (T : Blt mg)
    (FK : Fun K "kept_lines" "kept_lines" sKept fK fdK) (GK : FnOk P w K mg base CX0 6 fK fdK ["old", "new", "diff"] (spNums K fun _ _ ps => keptL ps)) (bK : Binds K fdK ["old", "new", "diff"] []) (mK : mg "kept_lines" = some (.ref fK)) :
    FnOk P w K mg base CX0 7 f fd ["old", "new", "diff"] (spNums K fun m _ ps => goneL m ps) := by
  refine F.ok scGone (fun vs H Q E h => ?_) (fun cdv A outer s H vs Q E hr h => ?_)
  · obtain ⟨x1, x2, v, ss1, ss2, ps, rfl, _⟩ := h
    rfl
  · obtain ⟨x1, x2, v, ss1, ss2, ps, rfl, t1, t2, hv, hd, z⟩ := h
    refine ⟨_, pss_cons (ps_set (i := 3) scGone.nd rfl (.inr rfl) (pe_call GK hr rfl mK FK.kp bK .nil pass0 (pa_cons (pv 0) (pa_cons (pv 1) (pa_cons (pv 2) pa_nil)))))
      (pss_one (ps_ret (pe_lc (own := [("i", 4)]) (g := gName 4) (tt := tTest (tOp (rIn K true) (tVar 4) (tVar 3))) (te := tVar 4) rfl scGone.nd
        (pi_range2 rfl T.range (pa_cons pe_int (pa_cons (pe_op op_add (pe_callB call_len_seq (by rfl) T.len PySem.boot_len (pa_cons (pv 0) pa_nil)) pe_int) pa_nil)))
        (blkOk_by (own := [("i", 4)]) (N := ["old", "new", "diff", "kept", "i"]) (sc := defScope sGone) (by decide +kernel))
        (fun _ _ _ _ _ => pg_name (i := 4) scGone.nd rfl (.inl rfl)) (fun _ _ _ _ _ => pts_one (pt_cmpR op_notIn_seq (pv 4) (pv 3) (by rfl)))
        (fun _ _ _ _ _ => pv 4)))), ?_⟩
    have l60 := t1.len
    refine ⟨_, rfl, _, rfl, _, rfl, x1, x2, v, ss1, ss2, ps, rfl, t1, t2, hv, hd, fun l H1 s1 nl hl => ?_⟩
    obtain ⟨a1, rfl, ha1⟩ := (t1.same s1).a
    have e1 : ((ss1.map V.str).length : Int) = (ss1.length : Int) := by rw [List.length_map]
    refine ⟨_, rfl, a1, _, rfl, ha1, _, _, rfl, rfl, ?_⟩
    rw [e1]
    refine ⟨1, (ss1.length : Int) + 1, rfl, by omega, fun D nD => ?_⟩
    have en : ((ss1.length : Int) + 1 - 1).toNat = ss1.length := by omega
    rw [en]
    have sD := same_upd (o := .lst []) nD
    refine lc_range (n := ss1.length) (fun i H' => Same H1 H' ∧ H' D = some (.lst (intsV (goneL i ps)))) ⟨sD, upd_same⟩ ?_ ?_
    · rintro i H' hi ⟨sm, hD⟩
      refine ⟨rfl, ?_⟩
      have ei : (1 : Int) + (i : Int) = ((i + 1 : Nat) : Int) := by omega
      rw [ei]
      refine ⟨_, rfl, _, rfl, l, _, rfl, .inl (SqL.of (sm _ _ hl)), rfl, intsV_flat _, _, rfl, ?_⟩
      have ein : inV (.int ((i + 1 : Nat) : Int)) (intsV (keptL ps)) = decide (i + 1 ∈ ps.map (·.1)) := inV_ints
      show if (!inV (.int ((i + 1 : Nat) : Int)) (intsV (keptL ps))) = true then _ else _
      rw [ein]
      by_cases c : i + 1 ∈ ps.map (·.1)
      · rw [decide_eq_true c]
        refine iteF ⟨sm, ?_⟩
        unfold goneL
        rw [outL_succ, if_pos c]
        exact hD
      · rw [decide_eq_false c]
        refine iteT ⟨_, rfl, _, hD, ?_, fun b o h => ?_, ?_⟩
        · unfold intsV goneL
          rw [List.length_map]
          have := outL_len i (ps.map (·.1))
          exact Nat.lt_of_le_of_lt (show _ ≤ 60 by omega) (by decide)
        · rw [upd_ne (ne_of_none h nD)]
          exact sm _ _ h
        · rw [upd_same]
          unfold goneL
          rw [outL_succ, if_neg c]
          unfold intsV
          rw [List.map_append]
          rfl
    · rintro H' ⟨sm, hD⟩
      exact z D H' (s1.trans sm) (none_before s1 nD) hD
end
end K14
namespace XR
open PySem L2
/-- the gaps: ahead of the first pair, between pairs, behind the last one -/
def gapsFrom (m n : Nat) : Nat × Nat → List (Nat × Nat) → List (Nat × Nat × Nat × Nat)
  | (a, c), [] => [(a, m, c, n)]
  | (a, c), (i, j) :: ps => (a, i - 1, c, j - 1) :: gapsFrom m n (i, j) ps
def gapsL (m n : Nat) (ps : List (Nat × Nat)) : List (Nat × Nat × Nat × Nat) := gapsFrom m n (0, 0) ps
def blocksL (m n : Nat) (ps : List (Nat × Nat)) : List (Nat × Nat × Nat × Nat) := (gapsL m n ps).filter fun b => decide (b.1 < b.2.1) || decide (b.2.2.1 < b.2.2.2)
theorem gaps_len (m n : Nat) : ∀ (ps : List (Nat × Nat)) (s : Nat × Nat), (gapsFrom m n s ps).length = ps.length + 1
  | [], _ => rfl
  | (i, j) :: ps, (a, c) => by
    show (gapsFrom m n (i, j) ps).length + 1 = _
    rw [gaps_len m n ps]; rfl
theorem gaps_at (m n : Nat) : ∀ (ps : List (Nat × Nat)) (s : Nat × Nat) (k : Nat) (b e : Nat × Nat), (s :: ps)[k]? = some b → (ps ++ [(m + 1, n + 1)])[k]? = some e → (gapsFrom m n s ps)[k]? = some (b.1, e.1 - 1, b.2, e.2 - 1)
  | [], s, 0, b, e, h1, h2 => by
    cases Option.some.inj h1
    cases Option.some.inj h2
    rfl
  | [], s, k + 1, b, e, h1, h2 => by simp at h1
  | (i, j) :: ps, s, 0, b, e, h1, h2 => by
    cases Option.some.inj h1
    cases Option.some.inj h2
    rfl
  | (i, j) :: ps, s, k + 1, b, e, h1, h2 => gaps_at m n ps (i, j) k b e h1 h2
def fourD (b : Nat × Nat × Nat × Nat) : PyData := .tuple [.int (b.1 : Int), .int (b.2.1 : Int), .int (b.2.2.1 : Int), .int (b.2.2.2 : Int)]
def fourV (b : Nat × Nat × Nat × Nat) : HO := .tup [.int (b.1 : Int), .int (b.2.1 : Int), .int (b.2.2.1 : Int), .int (b.2.2.2 : Int)]
/-- where blocks stand -/
def BsAt (H : Hp) (rs : List Addr) (bs : List (Nat × Nat × Nat × Nat)) : Prop := rs.length = bs.length ∧ ∀ (i : Nat) (b : Nat × Nat × Nat × Nat), bs[i]? = some b → ∃ r : Addr, rs[i]? = some r ∧ H r = some (fourV b)
end XR
namespace K14
open PySem L2 XR
abbrev sGaps : Stmt := top 29
abbrev sBlocks : Stmt := top 30
section
variable {P : Program} {w : World} {K : PySem.W.Frag} {mg : Str → Option Value} {base : Heap}
theorem scCome : FnScope ["old", "new", "diff", "paired", "_", "j"] ["old", "new", "diff"] (defScope sCome) := ⟨rfl, rfl, rfl, by decide +kernel, rfl, by decide +kernel, by decide +kernel⟩
theorem ok_come {f fC CT CD : Addr} {fd fdC : FuncData} (F : Fun K "come_lines" "come_lines" sCome f fd) (T : Blt mg) (C : Chk P w K mg base fC CT CD fdC) :
    FnOk P w K mg base CX0 6 f fd ["old", "new", "diff"] (spNums K fun _ n ps => comeL n ps) := by
  refine F.ok scCome (fun vs H Q E h => ?_) (fun cdv A outer s H vs Q E hr h => ?_)
  · obtain ⟨x1, x2, v, ss1, ss2, ps, rfl, _⟩ := h
    rfl
  · obtain ⟨x1, x2, v, ss1, ss2, ps, rfl, t1, t2, hv, hd, z⟩ := h
    refine ⟨_, pss_cons (ps_expr (pe_callS C.G hr rfl C.m C.F.kp C.b (fun σ => passF σ) (pa_cons (pv 0) (pa_cons (pv 1) (pa_cons (pv 2) pa_nil)))))
      (pss_cons (ps_set (i := 3) scCome.nd rfl (.inr rfl) (pe_lc (own := [("_", 4), ("j", 5)]) (g := gTup K 2 (gCons (gName 4) (gCons (gName 5) gNil))) (tt := tYes) (te := tVar 5) rfl scCome.nd (pi_tup (pv 2))
        (blkOk_by (own := [("_", 4), ("j", 5)]) (N := ["old", "new", "diff", "paired", "_", "j"]) (sc := defScope sCome) (by decide +kernel))
        (fun _ _ _ _ _ => pg_tup rfl (pgs_cons (pg_name (i := 4) scCome.nd rfl (.inl rfl)) (pgs_cons (pg_name (i := 5) scCome.nd rfl (.inl rfl)) pgs_nil))) (fun _ _ _ _ _ => pts_nil)
        (fun _ _ _ _ _ => pv 5)))
      (pss_one (ps_ret (pe_lc (own := [("j", 5)]) (g := gName 5) (tt := tTest (tOp (rIn K true) (tVar 5) (tVar 3))) (te := tVar 5) rfl scCome.nd
        (pi_range2 rfl T.range (pa_cons pe_int (pa_cons (pe_op op_add (pe_callB call_len_seq (by rfl) T.len PySem.boot_len (pa_cons (pv 1) pa_nil)) pe_int) pa_nil)))
        (blkOk_by (own := [("j", 5)]) (N := ["old", "new", "diff", "paired", "_", "j"]) (sc := defScope sCome) (by decide +kernel))
        (fun _ _ _ _ _ => pg_name (i := 5) scCome.nd rfl (.inl rfl)) (fun _ _ _ _ _ => pts_one (pt_cmpR op_notIn_seq (pv 5) (pv 3) (by rfl)))
        (fun _ _ _ _ _ => pv 5))))), ?_⟩
    have l60 := t1.len
    have l60' := t2.len
    have dl := df_len hd
    refine ⟨_, rfl, _, rfl, _, rfl, ?_⟩
    dsimp only [tNil]
    refine chk_ok t1 t2 hv hd fun H1 s1 => ?_
    obtain ⟨t, xs, rfl, ht, hl, hx⟩ := (hv.same s1).items
    refine ⟨_, rfl, t, rfl, ⟨_, ht⟩, fun l nl => ?_⟩
    have sl := same_upd (o := .lst []) nl
    refine lc_tup (K := K) (a := t) (xs := xs) (fun i H' => Same H1 H' ∧ H' l = some (.lst (intsV ((ps.take i).map (·.2))))) ⟨sl, upd_same⟩ (fun i H' _ hh => XR.Same.tup hh.1 ht) ?_ ?_
    · rintro i x H' hi ⟨sm, hD⟩
      obtain ⟨q, r, hq, rfl, hr'⟩ := hx i x hi
      refine ⟨r, _, rfl, XR.Same.tup sm hr', rfl, _, _, rfl, _, _, rfl, rfl, rfl, ?_⟩
      unfold tYes
      dsimp only
      rw [if_pos rfl]
      refine ⟨_, rfl, _, hD, ?_, fun b o h => ?_, ?_⟩
      · unfold intsV
        rw [List.length_map, List.length_map, List.length_take]
        exact Nat.lt_of_le_of_lt (show min i ps.length ≤ 60 by omega) (by decide)
      · rw [upd_ne (ne_of_none h nl)]
        exact sm _ _ h
      · rw [upd_same, List.take_add_one, hq]
        unfold intsV
        rw [List.map_append, List.map_append]
        rfl
    rintro H2 ⟨s2, hl2⟩
    rw [hl, List.take_length] at hl2
    have s12 := s1.trans s2
    obtain ⟨a2, rfl, ha2⟩ := (t2.same s12).a
    have e1 : ((ss2.map V.str).length : Int) = (ss2.length : Int) := by rw [List.length_map]
    refine ⟨_, rfl, a2, _, rfl, ha2, _, _, rfl, rfl, ?_⟩
    rw [e1]
    refine ⟨1, (ss2.length : Int) + 1, rfl, by omega, fun D nD => ?_⟩
    have en : ((ss2.length : Int) + 1 - 1).toNat = ss2.length := by omega
    rw [en]
    have sD := same_upd (o := .lst []) nD
    refine lc_range (n := ss2.length) (fun i H' => Same H2 H' ∧ H' D = some (.lst (intsV (comeL i ps)))) ⟨sD, upd_same⟩ ?_ ?_
    · rintro i H' hi ⟨sm, hD⟩
      refine ⟨rfl, ?_⟩
      have ei : (1 : Int) + (i : Int) = ((i + 1 : Nat) : Int) := by omega
      rw [ei]
      refine ⟨_, rfl, _, rfl, l, _, rfl, .inl (SqL.of (sm _ _ hl2)), rfl, intsV_flat _, _, rfl, ?_⟩
      have ein : inV (.int ((i + 1 : Nat) : Int)) (intsV (ps.map (·.2))) = decide (i + 1 ∈ ps.map (·.2)) := inV_ints
      show if (!inV (.int ((i + 1 : Nat) : Int)) (intsV (ps.map (·.2)))) = true then _ else _
      rw [ein]
      by_cases c : i + 1 ∈ ps.map (·.2)
      · rw [decide_eq_true c]
        refine iteF ⟨sm, ?_⟩
        unfold comeL
        rw [outL_succ, if_pos c]
        exact hD
      · rw [decide_eq_false c]
        refine iteT ⟨_, rfl, _, hD, ?_, fun b o h => ?_, ?_⟩
        · unfold intsV comeL
          rw [List.length_map]
          have := outL_len i (ps.map (·.2))
          exact Nat.lt_of_le_of_lt (show _ ≤ 60 by omega) (by decide)
        · rw [upd_ne (ne_of_none h nD)]
          exact sm _ _ h
        · rw [upd_same]
          unfold comeL
          rw [outL_succ, if_neg c]
          unfold intsV
          rw [List.map_append]
          rfl
    · rintro H' ⟨sm, hD⟩
      exact z D H' (s12.trans sm) (none_before s12 nD) hD
end
end K14
namespace XR
open PySem L2
abbrev Own := List (Str × (Int × Int))
/-- the pairs of a dict of own costs, where they stand -/
inductive OwnR (K : PySem.W.Frag) (H : Hp) : List (Key × V) → Own → Prop where
  | nil : OwnR K H [] []
  | cons {s : Str} {a b : Int} {r : Addr} {kvs : List (Key × V)} {o : Own} (h : SqT K H r [.int a, .int b]) (t : OwnR K H kvs o) : OwnR K H ((Sum.inr s, .ref r) :: kvs) ((s, (a, b)) :: o)
theorem OwnR.same {K : PySem.W.Frag} {H H' : Hp} (s : Same H H') : ∀ {kvs : List (Key × V)} {o : Own}, OwnR K H kvs o → OwnR K H' kvs o
  | _, _, .nil => .nil
  | _, _, .cons h t => .cons (XR.Same.tup s h) (t.same s)
theorem OwnR.length {K : PySem.W.Frag} {H : Hp} : ∀ {kvs : List (Key × V)} {o : Own}, OwnR K H kvs o → kvs.length = o.length
  | _, _, .nil => rfl
  | _, _, .cons _ t => by rw [List.length_cons, List.length_cons, t.length]
theorem OwnR.keys {K : PySem.W.Frag} {H : Hp} : ∀ {kvs : List (Key × V)} {o : Own}, OwnR K H kvs o → kvs.map (·.1) = (o.map (·.1)).map Sum.inr
  | _, _, .nil => rfl
  | _, _, .cons _ t => by rw [List.map_cons, List.map_cons, List.map_cons, t.keys]
theorem OwnR.get {K : PySem.W.Frag} {H : Hp} : ∀ {kvs : List (Key × V)} {o : Own} {i : Nat} {kv : Key × V}, OwnR K H kvs o → kvs[i]? = some kv → ∃ s a b r, o[i]? = some (s, (a, b)) ∧ kv = (Sum.inr s, .ref r) ∧ SqT K H r [.int a, .int b]
  | _, _, i, kv, .nil, h => by simp at h
  | _, _, 0, kv, .cons h0 t, h => ⟨_, _, _, _, rfl, (Option.some.inj h).symm, h0⟩
  | _, _, i + 1, kv, .cons h0 t, h => t.get (i := i) h
def look (o : Own) (s : Str) : Option (Int × Int) := (o.find? fun q => decide (q.1 = s)).map (·.2)
theorem OwnR.val {K : PySem.W.Frag} {H : Hp} : ∀ {kvs : List (Key × V)} {o : Own} (s : Str), OwnR K H kvs o → (look o s = none ∧ valV kvs (Sum.inr s) = none) ∨ ∃ a b r, look o s = some (a, b) ∧ valV kvs (Sum.inr s) = some (.ref r) ∧ SqT K H r [.int a, .int b]
  | _, _, s, .nil => .inl ⟨rfl, rfl⟩
  | _, _, s, @OwnR.cons _ _ s0 a b r kvs o h t => by
    have ih := t.val s
    unfold look valV at ih ⊢
    rw [List.find?_cons, List.find?_cons]
    by_cases e : s0 = s
    · subst e
      right
      refine ⟨a, b, r, ?_, ?_, h⟩ <;> simp
    · have e1 : decide (((Sum.inr s0 : Key), V.ref r).1 = Sum.inr s) = false := decide_eq_false fun z => e (Sum.inr.inj z)
      have e2 : decide ((s0, (a, b)).1 = s) = false := decide_eq_false e
      rw [e1, e2]
      exact ih
theorem OwnR.snoc {K : PySem.W.Frag} {H : Hp} {s : Str} {a b : Int} {r : Addr} : ∀ {kvs : List (Key × V)} {o : Own}, OwnR K H kvs o → SqT K H r [.int a, .int b] → OwnR K H (kvs ++ [(Sum.inr s, .ref r)]) (o ++ [(s, (a, b))])
  | _, _, .nil, h => .cons h .nil
  | _, _, .cons h0 t, h => .cons h0 (t.snoc h)
def OkC (v : Int × Int) : Prop := 1 ≤ v.1 ∧ v.1 ≤ 999999 ∧ 1 ≤ v.2 ∧ v.2 ≤ 999999
structure OkOwn (o : Own) : Prop where
  ok : ∀ q ∈ o, isLine (.str q.1) = true ∧ OkC q.2
  nd : (o.map (·.1)).Nodup
  len : o.length ≤ 20
def ofC (pl : Int × Int) (o : Own) (s : Str) : Int × Int := (look o s).getD pl
theorem look_mem {o : Own} {s : Str} {v : Int × Int} (h : look o s = some v) : (s, v) ∈ o := by
  unfold look at h
  cases e : o.find? fun q => decide (q.1 = s) with
  | none => rw [e] at h; cases h
  | some q =>
    rw [e] at h
    have h1 := List.mem_of_find?_eq_some e
    have h2 : decide (q.1 = s) = true := by simpa using List.find?_some e
    have h2 := of_decide_eq_true h2
    obtain ⟨q1, q2⟩ := q
    cases h2
    cases Option.some.inj h
    exact h1
theorem look_of : ∀ {o : Own} {s : Str} {v : Int × Int}, (o.map (·.1)).Nodup → (s, v) ∈ o → look o s = some v
  | [], s, v, _, h => by simp at h
  | (s0, v0) :: o, s, v, nd, h => by
    rw [List.map_cons, List.nodup_cons] at nd
    unfold look
    rw [List.find?_cons]
    by_cases e : s0 = s
    · subst e
      rcases List.mem_cons.mp h with h | h
      · cases h; simp
      · exact absurd (List.mem_map.mpr ⟨_, h, rfl⟩) nd.1
    · rw [show decide ((s0, v0).1 = s) = false from decide_eq_false e]
      rcases List.mem_cons.mp h with h | h
      · cases h; exact absurd rfl e
      · exact look_of nd.2 h
/-- the own costs that differ from the plain ones, by sorted lines -/
def keep (pl : Int × Int) (o : Own) (ys : List Str) : Own := ys.filterMap fun s => (look o s).bind fun v => if v = pl then none else some (s, v)
theorem keep_mem {pl : Int × Int} {o : Own} {ys : List Str} {s : Str} {v : Int × Int} : (s, v) ∈ keep pl o ys ↔ s ∈ ys ∧ look o s = some v ∧ v ≠ pl := by
  unfold keep
  rw [List.mem_filterMap]
  constructor
  · rintro ⟨t, ht, h⟩
    cases e : look o t with
    | none => rw [e] at h; cases h
    | some u =>
      rw [e] at h
      by_cases c : u = pl
      · rw [Option.bind_some, if_pos c] at h; cases h
      · rw [Option.bind_some, if_neg c] at h
        cases Option.some.inj h
        exact ⟨ht, e, c⟩
  · rintro ⟨h1, h2, h3⟩
    exact ⟨s, h1, by rw [h2, Option.bind_some, if_neg h3]⟩
theorem keep_keys (pl : Int × Int) (o : Own) : ∀ ys : List Str, ((keep pl o ys).map (·.1)).Sublist ys
  | [] => .slnil
  | y :: ys => by
    have ih := keep_keys pl o ys
    unfold keep at ih ⊢
    rw [List.filterMap_cons]
    cases e : look o y with
    | none => exact ih.cons _
    | some u =>
      by_cases c : u = pl
      · simp only [Option.bind_some, if_pos c]; exact ih.cons _
      · simp only [Option.bind_some, if_neg c, List.map_cons]; exact ih.cons₂ _
theorem keep_of {pl : Int × Int} {o : Own} {ys : List Str} (nd : (o.map (·.1)).Nodup) (p : ys.Perm (o.map (·.1))) (s : Str) : ofC pl (keep pl o ys) s = ofC pl o s := by
  have ny : ys.Nodup := p.nodup_iff.mpr nd
  have nk : ((keep pl o ys).map (·.1)).Nodup := (keep_keys pl o ys).nodup ny
  unfold ofC
  cases e : look (keep pl o ys) s with
  | some v =>
    have := (keep_mem.mp (look_mem e)).2.1
    rw [this]
  | none =>
    cases e2 : look o s with
    | none => rfl
    | some v =>
      by_cases c : v = pl
      · rw [c]; rfl
      · have hm : s ∈ ys := p.mem_iff.mpr (List.mem_map.mpr ⟨_, look_mem e2, rfl⟩)
        have := look_of nk (keep_mem.mpr ⟨hm, e2, c⟩)
        rw [e] at this; cases this
theorem keep_ok {pl : Int × Int} {o : Own} {ys : List Str} (h : OkOwn o) (p : ys.Perm (o.map (·.1))) : OkOwn (keep pl o ys) := by
  have ny : ys.Nodup := p.nodup_iff.mpr h.nd
  refine ⟨fun q hq => ?_, (keep_keys pl o ys).nodup ny, ?_⟩
  · obtain ⟨q1, q2⟩ := q
    exact h.ok _ (look_mem (keep_mem.mp hq).2.1)
  · have h1 := (keep_keys pl o ys).length_le
    have h2 := p.length_eq
    rw [List.length_map] at h1 h2
    have := h.len
    omega
def sw2 (v : Int × Int) : Int × Int := (v.2, v.1)
def swO (o : Own) : Own := o.map fun q => (q.1, sw2 q.2)
theorem look_sw : ∀ (o : Own) (s : Str), look (swO o) s = (look o s).map sw2
  | [], s => rfl
  | (s0, v0) :: o, s => by
    have ih := look_sw o s
    unfold look swO at ih ⊢
    rw [List.map_cons, List.find?_cons, List.find?_cons]
    by_cases e : s0 = s
    · subst e; simp
    · rw [show decide ((s0, v0).1 = s) = false from decide_eq_false e]
      exact ih
theorem ofC_sw (pl : Int × Int) (o : Own) (s : Str) : ofC (sw2 pl) (swO o) s = sw2 (ofC pl o s) := by
  unfold ofC
  rw [look_sw]
  cases look o s <;> rfl
theorem swO_ok {o : Own} (h : OkOwn o) : OkOwn (swO o) := by
  have e : (swO o).map (·.1) = o.map (·.1) := by unfold swO; rw [List.map_map]; rfl
  refine ⟨fun q hq => ?_, by rw [e]; exact h.nd, by unfold swO; rw [List.length_map]; exact h.len⟩
  obtain ⟨p, hp, rfl⟩ := List.mem_map.mp hq
  obtain ⟨h1, h2, h3, h4, h5⟩ := h.ok p hp
  exact ⟨h1, h4, h5, h2, h3⟩
def cflds (q d : Addr) : List (Str × V) := [("_plain", .ref q), ("_own", .ref d)]
/-- costs stand at p -/
def CsAt (K : PySem.W.Frag) (C : Addr) (H : Hp) (p : Addr) (pl : Int × Int) (o : Own) : Prop := ∃ dx q d kvs, H p = some (.ins C dx (cflds q d)) ∧ SqT K H q [.int pl.1, .int pl.2] ∧ H d = some (.dK kvs) ∧ OwnR K H kvs o ∧ OkOwn o ∧ OkC pl
theorem CsAt.same {K : PySem.W.Frag} {C : Addr} {H H' : Hp} {p : Addr} {pl : Int × Int} {o : Own} (s : Same H H') (h : CsAt K C H p pl o) : CsAt K C H' p pl o :=
  let ⟨dx, q, d, kvs, h1, h2, h3, h4, h5, h6⟩ := h; ⟨dx, q, d, kvs, s _ _ h1, XR.Same.tup s h2, s _ _ h3, h4.same s, h5, h6⟩
/-- costs as a value, by what each line costs -/
def CsV (K : PySem.W.Frag) (C : Addr) (H : Hp) (x : V) (cf : Str → Int × Int) : Prop := ∃ p pl o, x = .ref p ∧ CsAt K C H p pl o ∧ ∀ s, cf s = ofC pl o s
theorem CsV.same {K : PySem.W.Frag} {C : Addr} {H H' : Hp} {x : V} {cf : Str → Int × Int} (s : Same H H') (h : CsV K C H x cf) : CsV K C H' x cf :=
  let ⟨p, pl, o, h1, h2, h3⟩ := h; ⟨p, pl, o, h1, h2.same s, h3⟩
end XR
namespace XR
open PySem L2
theorem tup_updD {K : PySem.W.Frag} {H : Hp} {a p : Addr} {xs : List V} {kvs : List (Key × V)} {o : HO} (h : SqT K H a xs) (k : H p = some (.dK kvs)) : SqT K (upd H p o) a xs := by
  rcases h with (h | ⟨q, h⟩) | h
  · exact .inl (.inl (by rw [upd_ne (fun e => by rw [e, k] at h; cases h)]; exact h))
  · exact .inl (.inr ⟨q, by rw [upd_ne (fun e => by rw [e, k] at h; cases h)]; exact h⟩)
  · exact .inr h
theorem OwnR.updD {K : PySem.W.Frag} {H : Hp} {p : Addr} {kvs' : List (Key × V)} {ho : HO} (k : H p = some (.dK kvs')) : ∀ {kvs : List (Key × V)} {o : Own}, OwnR K H kvs o → OwnR K (upd H p ho) kvs o
  | _, _, .nil => .nil
  | _, _, .cons h t => .cons (tup_updD h k) (t.updD k)
theorem tup_updI {K : PySem.W.Frag} {H : Hp} {a p C dx : Addr} {xs : List V} {fs : List (Str × V)} {o : HO} (h : SqT K H a xs) (k : H p = some (.ins C dx fs)) : SqT K (upd H p o) a xs := by
  rcases h with (h | ⟨q, h⟩) | h
  · exact .inl (.inl (by rw [upd_ne (fun e => by rw [e, k] at h; cases h)]; exact h))
  · exact .inl (.inr ⟨q, by rw [upd_ne (fun e => by rw [e, k] at h; cases h)]; exact h⟩)
  · exact .inr h
theorem OwnR.updI {K : PySem.W.Frag} {H : Hp} {p C dx : Addr} {fs : List (Str × V)} {ho : HO} (k : H p = some (.ins C dx fs)) : ∀ {kvs : List (Key × V)} {o : Own}, OwnR K H kvs o → OwnR K (upd H p ho) kvs o
  | _, _, .nil => .nil
  | _, _, .cons h t => .cons (tup_updI h k) (t.updI k)
theorem tup_updF {K : PySem.W.Frag} {H : Hp} {a p : Addr} {xs : List V} {kvs : List (Key × V)} {od : Obj} {o : HO} (h : SqT K H a xs) (k : H p = some (.frz od (.dK kvs))) : SqT K (upd H p o) a xs := by
  rcases h with (h | ⟨q, h⟩) | h
  · exact .inl (.inl (by rw [upd_ne (fun e => by rw [e, k] at h; cases h)]; exact h))
  · exact .inl (.inr ⟨q, by rw [upd_ne (fun e => by rw [e, k] at h; cases h)]; exact h⟩)
  · exact .inr h
theorem OwnR.updF {K : PySem.W.Frag} {H : Hp} {p : Addr} {kvs' : List (Key × V)} {od : Obj} {ho : HO} (k : H p = some (.frz od (.dK kvs'))) : ∀ {kvs : List (Key × V)} {o : Own}, OwnR K H kvs o → OwnR K (upd H p ho) kvs o
  | _, _, .nil => .nil
  | _, _, .cons h t => .cons (tup_updF h k) (t.updF k)
/-- locked and unlocked again, all stands as it was -/
theorem Same.unlock {H H' : Hp} {d : Addr} {u : HO} {od : Obj} (h : H d = some u) (s : Same (upd H d (.frz od u)) H') : Same H (upd H' d u) := fun b o e => by
  by_cases c : b = d
  · rw [c] at e ⊢
    rw [upd_same]
    exact h.symm.trans e
  · rw [upd_ne c]
    exact s b o (by rw [upd_ne c]; exact e)
def pairD (v : Int × Int) : PyData := .tuple [.int v.1, .int v.2]
theorem pair_dq {K : PySem.W.Frag} {H : Hp} {r : Addr} {a b : Int} (h : SqT K H r [.int a, .int b]) : Dq K H (.ref r) (pairD (a, b)) := .tup h (.cons (.int _) (.cons (.int _) .nil))
theorem pair_dp {K : PySem.W.Frag} {H : Hp} {r : Addr} {a b : Int} (h : SqT K H r [.int a, .int b]) : Dp K H (.ref r) (pairD (a, b)) := .tup h (.cons (.int _) (.cons (.int _) .nil))
theorem pair_shaped (v : Int × Int) : SeqAt.shaped (pairD v) = true := by
  simp [SeqAt.shaped, pairD, PyData.canLay0, PyData.canLayAll0, PyData.depth, PyData.depthAll]
theorem pair_eqv (v w : Int × Int) : PyData.eqv (pairD v) (pairD w) = decide (v = w) := by
  obtain ⟨a, b⟩ := v
  obtain ⟨c, d⟩ := w
  simp only [PyData.eqv, PyData.eqvAll, pairD, Bool.and_true, Prod.mk.injEq, Bool.decide_and]
  rfl

/-- good costs -/
def spCost : Sp := fun vs H Q _ => ∃ i : Int, vs = [.int i] ∧ 1 ≤ i ∧ i ≤ 999999 ∧ ∀ H', Same H H' → Q (.bl true) H'
def spChkC (C : Addr) : Sp := fun vs H Q _ => ∃ p dx fs, vs = [.ref p] ∧ H p = some (.ins C dx fs) ∧ Q .non H
def spChkO (K : PySem.W.Frag) : Sp := fun vs H Q _ => ∃ d kvs o, vs = [.ref d] ∧ H d = some (.dK kvs) ∧ OwnR K H kvs o ∧ OkOwn o ∧ ∀ H', Same H H' → Q .non H'
def spCInit (K : PySem.W.Frag) (C : Addr) : Sp := fun vs H Q _ => ∃ p dx d g c kvs o, vs = [.ref p, .int g, .int c, .ref d] ∧ H p = some (.ins C dx []) ∧ H d = some (.dK kvs) ∧ OwnR K H kvs o ∧ OkOwn o ∧ OkC (g, c) ∧
  ∀ H' o', But p H H' → CsAt K C H' p (g, c) o' → (∀ s, ofC (g, c) o' s = ofC (g, c) o s) → Q .non H'
def spOf (K : PySem.W.Frag) (C : Addr) : Sp := fun vs H Q _ => ∃ p s pl o, vs = [.ref p, .str s] ∧ CsAt K C H p pl o ∧ isLine (.str s) = true ∧ ∀ H' r, Same H H' → SqT K H' r [.int (ofC pl o s).1, .int (ofC pl o s).2] → Q (.ref r) H'
def spCst (K : PySem.W.Frag) (C : Addr) (g : Int × Int → Int) : Sp := fun vs H Q _ => ∃ x s cf, vs = [x, .str s] ∧ CsV K C H x cf ∧ isLine (.str s) = true ∧ ∀ H', Same H H' → Q (.int (g (cf s))) H'
def spCTurn (K : PySem.W.Frag) (C : Addr) : Sp := fun vs H Q _ => ∃ x cf, vs = [x] ∧ CsV K C H x cf ∧ ∀ H' y, Same H H' → CsV K C H' y (fun s => sw2 (cf s)) → Q y H'
end XR
namespace K14
open PySem L2 XR
abbrev sIsCost : Stmt := top 19
abbrev sChkC : Stmt := top 20
abbrev sChkO : Stmt := top 21
abbrev sCInit : Stmt := inClass (top 22) 1
abbrev sGoing : Stmt := inClass (top 22) 2
abbrev sComing : Stmt := inClass (top 22) 3
abbrev sOf : Stmt := inClass (top 22) 4
abbrev sCTurn : Stmt := inClass (top 22) 7
structure Blt2 (mg : Str → Option Value) : Prop where
  sum : mg "sum" = none
  srt : mg "sorted" = none
/-- the class Costs, as the top has made it -/
structure CsX (K : PySem.W.Frag) (mg : Str → Option Value) (C : Addr) : Prop where
  cl : Cls K C
  nP : NoAttr K C "_plain"
  nO : NoAttr K C "_own"
  g : mg "Costs" = some (.ref C)
  most : ∃ mc u, ClX.CRead K C mc ∧ ClX.CVal K C mc "MOST" (.int 999999) u
  ha : PySem.W.findIn K (.ref C) "__class__" = some (some (.builtin "object.__class__"))
  hn : PySem.W.specialIn K (.builtin "object.__class__") "__get__" = some (some (.builtin "getset_descriptor.__get__"))
  ht : PySem.W.takesIn K (.builtin "object.__class__") = some true
  hm : PySem.W.mroIn K C (.type "object") = some true
section
variable {P : Program} {w : World} {K : PySem.W.Frag} {mg : Str → Option Value} {base : Heap}
theorem scIsCost : FnScope ["value"] ["value"] (defScope sIsCost) := ⟨rfl, rfl, rfl, by decide +kernel, rfl, by decide +kernel, by decide +kernel⟩
theorem ok_isCost {f fW C : Addr} {fd fdW : FuncData} (F : Fun K "is_cost" "is_cost" sIsCost f fd) (X : CsX K mg C)
    (FW : Fun K "is_within" "is_within" sWithin fW fdW) (GW : FnOk P w K mg base CX0 2 fW fdW ["value", "low", "high"] (spWithin K)) (bW : Binds K fdW ["value", "low", "high"] []) (mW : mg "is_within" = some (.ref fW)) : FnOk P w K mg base CX0 3 f fd ["value"] spCost := by
  refine F.ok scIsCost (fun vs H Q E h => ?_) (fun cdv A outer s H vs Q E hr h => ?_)
  · obtain ⟨i, rfl, _⟩ := h
    rfl
  · obtain ⟨i, rfl, i1, i2, z⟩ := h
    obtain ⟨mc, u, r1, r2⟩ := X.most
    refine ⟨_, pss_one (ps_ret (pe_call GW hr rfl mW FW.kp bW .nil pass0 (pa_cons (pv 0) (pa_cons pe_int (pa_cons (ClX.pe_cval (pe_glob (v := .ref C) rfl X.g rfl)) pa_nil))))), ?_⟩
    refine ⟨_, rfl, C, mc, _, u, rfl, r1, r2, i, 1, 999999, rfl, fun H' s' => ?_⟩
    rw [decide_eq_true i1, decide_eq_true i2]
    exact z H' s'
theorem scChkC : FnScope ["costs"] ["costs"] (defScope sChkC) := ⟨rfl, rfl, rfl, by decide +kernel, rfl, by decide +kernel, by decide +kernel⟩
theorem ok_chkC {f C : Addr} {fd : FuncData} (F : Fun K "check_costs" "check_costs" sChkC f fd) (T : Blt mg) (X : CsX K mg C) : FnOk P w K mg base CX0 1 f fd ["costs"] (spChkC C) := by
  refine F.ok scChkC (fun vs H Q E h => ?_) (fun cdv A outer s H vs Q E hr h => ?_)
  · obtain ⟨p, dx, fs, rfl, _⟩ := h
    rfl
  · obtain ⟨p, dx, fs, rfl, hp, z⟩ := h
    refine ⟨_, pss_one (ps_if (pt_not (pt_val (pe_callB call_isi (by rfl) T.isin (by decide +kernel) (pa_cons (pv 0) (pa_cons (pe_glob (v := .ref C) rfl X.g rfl) pa_nil))))) (pss_one ps_never) pss_nil), ?_⟩
    refine ⟨_, rfl, .ref p, .ref C, .ref C, .ref C, true, rfl, .own C, .base (.ins hp X.cl X.ha X.hn X.ht X.hm), ?_, _, rfl, iteF z⟩
    unfold PySem.W.kitOne
    rw [if_pos (by simp)]
theorem scChkO : FnScope ["some", "line", "own"] ["some"] (defScope sChkO) := ⟨rfl, rfl, rfl, by decide +kernel, rfl, by decide +kernel, by decide +kernel⟩
theorem ok_chkO {f fL fT fC : Addr} {fd fdL fdT fdC : FuncData} (F : Fun K "check_own" "check_own" sChkO f fd)
    (FL : Fun K "is_line" "is_line" sLine fL fdL) (GL : FnOk P w K mg base CX0 1 fL fdL ["value"] (spJudge K isLine)) (bL : Binds K fdL ["value"] []) (mL : mg "is_line" = some (.ref fL))
    (FT : Fun K "is_tuple" "is_tuple" sIsTuple fT fdT) (GT : FnOk P w K mg base CX0 1 fT fdT ["value", "many"] (spTup K)) (bT : Binds K fdT ["value", "many"] []) (mT : mg "is_tuple" = some (.ref fT))
    (FC : Fun K "is_cost" "is_cost" sIsCost fC fdC) (GC : FnOk P w K mg base CX0 3 fC fdC ["value"] spCost) (bC : Binds K fdC ["value"] []) (mC : mg "is_cost" = some (.ref fC)) : FnOk P w K mg base CX0 4 f fd ["some"] (spChkO K) := by
  refine F.ok scChkO (fun vs H Q E h => ?_) (fun cdv A outer s H vs Q E hr h => ?_)
  · obtain ⟨d, kvs, o, rfl, _⟩ := h
    rfl
  · obtain ⟨d, kvs, o, rfl, hd, ho, hok, z⟩ := h
    have hr1 := hr.mono (show 1 ≤ 3 by decide)
    refine ⟨_, pss_one (ps_lock (ps_for PassesOwn.never rfl (pi_items (pv 0)) (pg_tup rfl (pgs_cons (pg_name (i := 1) scChkO.nd rfl (.inl rfl)) (pgs_cons (pg_name (i := 2) scChkO.nd rfl (.inl rfl)) pgs_nil)))
      (pss_cons (ps_if (pt_not (pt_val (pe_call GL hr1 rfl mL FL.kp bL .nil pass0 (pa_cons (pv 1) pa_nil)))) (pss_one ps_never) pss_nil)
      (pss_one (ps_if (pt_not (PW.pt (pw_and (pt_val (pe_call GT hr1 rfl mT FT.kp bT .nil pass0 (pa_cons (pv 2) (pa_cons pe_int pa_nil)))) (pw_and (pt_val (pe_call GC hr rfl mC FC.kp bC .nil pass0 (pa_cons (pe_ix ix_tup (pv 2) pe_int (fun _ _ => rfl)) pa_nil))) (pw_and1 (pt_val (pe_call GC hr rfl mC FC.kp bC .nil pass0 (pa_cons (pe_ix ix_tup (pv 2) pe_int (fun _ _ => rfl)) pa_nil)))))))) (pss_one ps_never) pss_nil))))), ?_⟩
    refine ⟨d, _, hd, trivial, fun od => ?_⟩
    have ho0 : OwnR K (upd H d (.frz od (.dK kvs))) kvs o := ho.updD hd
    have hd0 : upd H d (.frz od (.dK kvs)) d = some (.frz od (.dK kvs)) := upd_same
    refine ⟨_, rfl, d, od, kvs, rfl, hd0, ?_⟩
    have un : ∀ H', Same (upd H d (.frz od (.dK kvs))) H' → Same H (upd H' d (.dK kvs)) := fun H' s' => Same.unlock hd s'
    generalize upd H d (.frz od (.dK kvs)) = H0 at *
    refine for_it (walk_items (kvs := kvs)) (fun i σ H' => Same H0 H' ∧ ∃ x1 x2, σ = [some (V.ref d), x1, x2]) ⟨fun _ _ e => e, _, _, rfl⟩ (fun i σ H' _ hh => hh.1 _ _ hd0) ?_ ?_
    · rintro i x σ Ha Hb hi ⟨sm, x1, x2, rfl⟩ ⟨t, y1, y2, rfl, nt, rfl, e1, e2⟩
      obtain ⟨kv, hkv⟩ : ∃ kv, kvs[i]? = some kv := ⟨_, List.getElem?_eq_getElem hi⟩
      obtain ⟨s, a, b, r, hq, rfl, hr'⟩ := ho0.get hkv
      dsimp only at e1 e2
      rw [hkv] at e1 e2
      cases e1
      cases e2
      have st := same_upd (o := .tup [V.str s, V.ref r]) nt
      have sa := sm.trans st
      obtain ⟨k1, k2, k3, k4, k5⟩ := hok.ok _ (List.mem_of_getElem? hq)
      refine ⟨t, _, rfl, .inl (.inl upd_same), rfl, _, _, rfl, _, _, rfl, rfl, ?_⟩
      refine ⟨_, rfl, .str s, .str s, rfl, .str s, fun H1 s1 => ⟨_, rfl, ?_⟩⟩
      rw [k1]
      refine iteF ?_
      have r1 := XR.Same.tup (sa.trans s1) hr'
      refine ⟨_, rfl, .ref r, pairD (a, b), 2, rfl, pair_dq r1, fun H2 s2 => ⟨_, rfl, ?_⟩⟩
      have r2 := XR.Same.tup s2 r1
      rw [show isTup 2 (pairD (a, b)) = true from rfl]
      refine iteT ⟨_, rfl, r, _, _, _, rfl, rfl, r2, atI_nat (j := 0) rfl, a, rfl, k2, k3, fun H3 s3 => ⟨_, rfl, ?_⟩⟩
      have r3 := XR.Same.tup s3 r2
      refine iteT ⟨_, rfl, r, _, _, _, rfl, rfl, r3, atI_nat (j := 1) rfl, b, rfl, k4, k5, fun H4 s4 => ⟨_, rfl, ?_⟩⟩
      exact iteF ⟨(((sa.trans s1).trans s2).trans s3).trans s4, _, _, rfl⟩
    · rintro σ H' ⟨sm, x1, x2, rfl⟩
      exact ⟨sm _ _ hd0, z _ (un _ sm)⟩
end
end K14
namespace XR
open PySem L2
theorem cflds_put (q d : Addr) : putF "_own" (V.ref d) (putF "_plain" (.ref q) []) = cflds q d := by
  have kc : ¬ (("_plain" : Str) = "_own") := by decide +kernel
  show (if ("_plain" : Str) = "_own" then [(("_plain" : Str), V.ref d)] else (("_plain" : Str), V.ref q) :: putF "_own" (V.ref d) []) = cflds q d
  rw [if_neg kc]
  rfl
end XR
namespace K14
open PySem L2 XR
section
variable {P : Program} {w : World} {K : PySem.W.Frag} {mg : Str → Option Value} {base : Heap}
theorem fund_ok {x qual : Str} {params : Arguments} {body : List Stmt} {scope : Scope} {dvs : List V} {kws : List (Str × V)} {f : Addr} {fd : FuncData} {N ps : List Str} {k : Nat} {sp : Sp} (F : FunD K x qual params body scope dvs kws f fd) (S : FnScope N ps scope) (len : ∀ vs H Q E, sp vs H Q E → vs.length = ps.length)
    (hbody : ∀ (cdv : Value) (A : Around) (outer : List Env) (s : Shared) (H : Hp) (vs : List V) (Q : VK) (E : XK), Room k (A.deeper (PyProof.Rows.envOfC qual scope s.heap.objs.size f cdv)) → sp vs H Q E →
      ∃ t, PSs (cxOf CX0 P w K mg base N qual scope f cdv A outer s H E).nox body t ∧ t { nx := fun _ H' => Q .non H', rt := Q } (L2.start N vs) H) : FnOk P w K mg base CX0 (k + 1) f fd ps sp := by
  refine F.ok S len fun cdv A outer s H vs Q E hr hsp => ?_
  obtain ⟨t, h, q⟩ := hbody cdv A outer s H vs Q E hr hsp
  exact ⟨t, h.nox, q⟩
theorem cInit_binds {f : Addr} {fd : FuncData} (F : FunD K "__init__" "Costs.__init__" (defArgs sCInit) (defBody sCInit) (defScope sCInit) [.int 1, .int 1, .non] [] f fd) : Binds K fd ["self", "going", "coming", "some"] [] := by
  obtain ⟨ds, h1, h2⟩ := F.binds1 (ps := ["self", "going", "coming", "some"]) 4 3 (by simp) rfl fun T kV doc pm an cdv ct us its h1 h2 => match us, its, h1, h2 with | [_, _, _, _], [_, _, _], _, _ => ⟨_, rfl, rfl⟩
  cases h1
  exact h2
theorem scCInit : FnScope ["self", "going", "coming", "some", "given", "line"] ["self", "going", "coming", "some"] (defScope sCInit) := ⟨rfl, rfl, rfl, by decide +kernel, rfl, by decide +kernel, by decide +kernel⟩
theorem ok_cInit {f fC fO C : Addr} {fd fdC fdO : FuncData} (F : FunD K "__init__" "Costs.__init__" (defArgs sCInit) (defBody sCInit) (defScope sCInit) [.int 1, .int 1, .non] [] f fd) (T : Blt mg) (T2 : Blt2 mg) (X : CsX K mg C)
    (FC : Fun K "is_cost" "is_cost" sIsCost fC fdC) (GC : FnOk P w K mg base CX0 3 fC fdC ["value"] spCost) (bC : Binds K fdC ["value"] []) (mC : mg "is_cost" = some (.ref fC))
    (FO : Fun K "check_own" "check_own" sChkO fO fdO) (GO : FnOk P w K mg base CX0 4 fO fdO ["some"] (spChkO K)) (bO : Binds K fdO ["some"] []) (mO : mg "check_own" = some (.ref fO)) :
    FnOk P w K mg base CX0 5 f fd ["self", "going", "coming", "some"] (spCInit K C) := by
  refine fund_ok F scCInit (fun vs H Q E h => ?_) (fun cdv A outer s H vs Q E hr h => ?_)
  · obtain ⟨p, dx, d, g, c, kvs, o, rfl, _⟩ := h
    rfl
  · obtain ⟨p, dx, d, g, c, kvs, o, rfl, hp, hd, ho, hok, hpl, z⟩ := h
    have hr3 := hr.mono (show 3 ≤ 4 by decide)
    have hu := hu_of hr
    refine ⟨_, pss_cons (ps_if (pt_not (pt_val (pe_call GC hr3 rfl mC FC.kp bC .nil pass0 (pa_cons (pv 1) pa_nil)))) (pss_one ps_never) pss_nil)
      (pss_cons (ps_if (pt_not (pt_val (pe_call GC hr3 rfl mC FC.kp bC .nil pass0 (pa_cons (pv 2) pa_nil)))) (pss_one ps_never) pss_nil)
      (pss_cons (ps_set (i := 4) scCInit.nd rfl (.inr rfl) (pe_ifExp (pt_cmpR op_isN (pv 3) pe_non (nomark _)) pe_dnewK (pv 3)))
      (pss_cons (ps_if (pt_not (pt_val (pe_callB call_isi (by rfl) T.isin (by decide +kernel) (pa_cons (pv 4) (pa_cons (pe_bltn (v := .ty "dict") (u := .type "dict") (by rfl) (T.all "dict" (by decide)) (by decide +kernel) rfl) pa_nil))))) (pss_one ps_never) pss_nil)
      (pss_cons (ps_expr (pe_call GO hr rfl mO FO.kp bO .nil pass0 (pa_cons (pv 4) pa_nil)))
      (pss_cons (ps_fld (pv 0) (pe_tup (pa_cons (pv 1) (pa_cons (pv 2) pa_nil))) rfl)
      (pss_one (ps_fld (pv 0) (pe_dc (own := [("line", 5)]) (g := gName 5) (tt := tTest (tOp (rNeD K) (tDGet (tVar 4) (tVar 5)) (tFld K (tVar 0) "_plain"))) (tk := tVar 5) (tv := tDGet (tVar 4) (tVar 5)) rfl scCInit.nd
          (pi_list (pe_callB (call_sortedD rfl) (by rfl) T2.srt (by decide +kernel) (pa_cons (pv 4) pa_nil)))
          (blkOk_by (own := [("line", 5)]) (N := ["self", "going", "coming", "some", "given", "line"]) (sc := defScope sCInit) (by decide +kernel))
          (fun _ _ _ _ _ => pg_name (i := 5) scCInit.nd rfl (.inl rfl))
          (fun _ _ _ _ _ => pts_one (pt_cmpR (op_neD hr.units) (pe_dget hu (pv 4) (pv 5) (fun _ _ => rfl)) (pe_fld (pv 0) rfl) (nomark _)))
          (fun _ _ _ _ _ => pv 5) (fun _ _ _ _ _ => pe_dget hu (pv 4) (pv 5) (fun _ _ => rfl))) rfl))))))), ?_⟩
    obtain ⟨k2, k3, k4, k5⟩ := id hpl
    refine ⟨_, rfl, g, rfl, k2, k3, fun H1 s1 => ⟨_, rfl, iteF ?_⟩⟩
    refine ⟨_, rfl, c, rfl, k4, k5, fun H2 s2 => ⟨_, rfl, iteF ?_⟩⟩
    have s12 := s1.trans s2
    refine ⟨_, rfl, rfl, _, rfl, ?_⟩
    refine iteF ⟨_, rfl, ?_⟩
    have hd2 := s12 _ _ hd
    refine ⟨_, rfl, .ref d, .ty "dict", .type "dict", .type "dict", true, rfl, .ty "dict", .base (.dK hd2), rfl, _, rfl, iteF ?_⟩
    refine ⟨_, rfl, d, kvs, o, rfl, hd2, ho.same s12, hok, fun H3 s3 => ?_⟩
    have s13 := s12.trans s3
    refine ⟨_, rfl, _, rfl, ll20 (by show 2 ≤ 20; decide), fun q nq => ?_⟩
    have sq := same_upd (o := .tup [V.int g, V.int c]) nq
    have s14 := s13.trans sq
    have hq := upd_same (H := H3) (a := q) (o := .tup [V.int g, V.int c])
    generalize upd H3 q (.tup [V.int g, V.int c]) = H4 at s14 hq ⊢
    have hp4 := s14 _ _ hp
    refine ⟨_, rfl, p, C, dx, [], rfl, hp4, X.cl, X.nP, by show 0 < 1000; decide, ?_⟩
    have pq : q ≠ p := ne_of hq hp4 (by intro z; cases z)
    have pd : d ≠ p := ne_of (s14 _ _ hd) hp4 (by intro z; cases z)
    have hp5 := upd_same (H := H4) (a := p) (o := .ins C dx (putF "_plain" (V.ref q) []))
    have hq5 : upd H4 p (.ins C dx (putF "_plain" (V.ref q) [])) q = some (.tup [V.int g, V.int c]) := by rw [upd_ne pq]; exact hq
    have hd5 : upd H4 p (.ins C dx (putF "_plain" (V.ref q) [])) d = some (.dK kvs) := by rw [upd_ne pd]; exact s14 _ _ hd
    have b5 : But p H (upd H4 p (.ins C dx (putF "_plain" (V.ref q) []))) := fun b o h n => by rw [upd_ne n]; exact s14 _ _ h
    have ho5 : OwnR K (upd H4 p (.ins C dx (putF "_plain" (V.ref q) []))) kvs o := (ho.same s14).updI hp4
    generalize upd H4 p (.ins C dx (putF "_plain" (V.ref q) [])) = H5 at hp5 hq5 hd5 b5 ho5 ⊢
    refine ⟨_, rfl, d, kvs, o.map (·.1), rfl, .of hd5, ho5.keys, ?_, fun ys l per srt nl => ?_⟩
    · rw [List.length_map]; have := hok.len; omega
    have sl := same_upd (o := .lst (ys.map V.str)) nl
    have hl := upd_same (H := H5) (a := l) (o := .lst (ys.map V.str))
    have hp6 := sl _ _ hp5
    have hq6 := sl _ _ hq5
    have hd6 := sl _ _ hd5
    have ho6 := ho5.same sl
    have b6 := b5.same sl
    generalize upd H5 l (.lst (ys.map V.str)) = H6 at hl hp6 hq6 hd6 ho6 b6 ⊢
    refine ⟨l, rfl, ⟨_, SqL.of hl⟩, fun D nD => ?_⟩
    have sD := same_upd (o := .dK []) nD
    have ylen : ys.length ≤ 20 := by have h1 := per.length_eq; rw [List.length_map] at h1; have := hok.len; omega
    refine dc_it (walk_list (xs := ys.map V.str)) (fun i H' => Same H6 H' ∧ ∃ kv', H' D = some (.dK kv') ∧ OwnR K H' kv' (keep (g, c) o (ys.take i))) ⟨sD, [], upd_same, .nil⟩ (fun i H' _ hh => SqL.of (hh.1 _ _ hl)) ?_ ?_
    · rintro i x Ha Hb hi ⟨sm, kv', hD, hk⟩ ⟨rfl, hxi⟩
      obtain ⟨s, hs, rfl⟩ : ∃ s, ys[i]? = some s ∧ x = V.str s := by
        rw [List.getElem?_map] at hxi
        obtain ⟨s, e1, e2⟩ := Option.map_eq_some_iff.mp hxi
        exact ⟨s, e1, e2.symm⟩
      have hmem : s ∈ o.map (·.1) := per.mem_iff.mp (List.mem_of_getElem? hs)
      obtain ⟨a, b, r, v1, v2, v3⟩ : ∃ a b r, look o s = some (a, b) ∧ valV kvs (Sum.inr s) = some (.ref r) ∧ SqT K H6 r [.int a, .int b] := by
        rcases ho6.val s with ⟨e1, e2⟩ | e
        · obtain ⟨q, hq, rfl⟩ := List.mem_map.mp hmem
          rw [look_of hok.nd (v := q.2) hq] at e1; cases e1
        · exact e
      have ghave : DGet Hb d (.str s) (some (.ref r)) := by
        have := DGet.k (k := Sum.inr s) (sm _ _ hd6)
        rw [v2] at this
        exact this
      have hkl := hk.length
      have klen : kv'.length ≤ 20 := by
        rw [hkl]
        have h1 := (keep_keys (g, c) o (ys.take i)).length_le
        rw [List.length_map, List.length_take] at h1
        omega
      have tk : keep (g, c) o (ys.take (i + 1)) = keep (g, c) o (ys.take i) ++ (if (a, b) = (g, c) then [] else [(s, (a, b))]) := by
        rw [List.take_add_one, hs]
        unfold keep
        rw [List.filterMap_append]
        congr 1
        show List.filterMap _ [s] = _
        rw [List.filterMap_cons, v1]
        by_cases e : (a, b) = (g, c)
        · simp [e]
        · simp [e]
      refine ⟨rfl, _, rfl, _, rfl, d, _, rfl, ghave, _, rfl, p, C, dx, _, _, rfl, sm _ _ hp6, X.cl, X.nP, ?_, pairD (a, b), pairD (g, c), pair_dp (XR.Same.tup sm v3), pair_dp (.inl (.inl (sm _ _ hq6))), pair_shaped _, pair_shaped _, _, rfl, ?_⟩
      · rw [lookup_putF, if_pos rfl]
      · rw [pair_eqv]
        by_cases e : (a, b) = (g, c)
        · rw [decide_eq_true e]
          refine iteF ⟨sm, kv', hD, ?_⟩
          rw [tk, if_pos e, List.append_nil]
          exact hk
        · rw [decide_eq_false e]
          refine iteT ⟨_, rfl, _, rfl, _, rfl, d, _, rfl, ghave, kv', Sum.inr s, rfl, hD, Nat.lt_of_le_of_lt klen (by decide), fun b' o' h => ?_, _, upd_same, ?_⟩
          · rw [upd_ne (ne_of_none h nD)]
            exact sm _ _ h
          · have fresh : valV kv' (Sum.inr s) = none := by
              rcases hk.val s with ⟨_, e2⟩ | ⟨a2, b2, r2, e1, _, _⟩
              · exact e2
              · have hin := (keep_mem.mp (look_mem e1)).1
                have nd := per.nodup_iff.mpr hok.nd
                obtain ⟨j, hj⟩ := List.getElem?_of_mem hin
                rw [List.getElem?_take] at hj
                by_cases cc : j < i
                · rw [if_pos cc] at hj
                  have l1 := (List.getElem?_eq_some_iff.mp hj)
                  have l2 := (List.getElem?_eq_some_iff.mp hs)
                  obtain ⟨l1a, l1b⟩ := l1
                  obtain ⟨l2a, l2b⟩ := l2
                  exact absurd (l1b.trans l2b.symm) (List.pairwise_iff_getElem.mp nd j i l1a l2a cc)
                · rw [if_neg cc] at hj; cases hj
            rw [putK_new _ fresh, tk, if_neg e]
            exact (hk.updD hD).snoc (tup_updD (XR.Same.tup sm v3) hD)
    · rintro H7 ⟨sm, kv', hD, hk⟩
      rw [List.length_map, List.take_length] at hk
      have hp7 := sm _ _ hp6
      refine ⟨_, rfl, p, C, dx, _, rfl, hp7, X.cl, X.nO, by show 1 < 1000; decide, ?_⟩
      have qp : q ≠ p := pq
      have Dp : D ≠ p := ne_of hD hp7 (by intro z; cases z)
      refine z _ (keep (g, c) o ys) (fun b o h n => ?_) ⟨dx, q, D, kv', ?_, ?_, ?_, hk.updI hp7, keep_ok hok per, hpl⟩ (fun s => keep_of hok.nd per s)
      · rw [upd_ne n]
        exact sm _ _ (b6 _ _ h n)
      · rw [upd_same, cflds_put]
      · exact .inl (.inl (by rw [upd_ne qp]; exact sm _ _ hq6))
      · rw [upd_ne Dp]; exact hD
end
end K14
namespace K14
open PySem L2 XR
section
variable {P : Program} {w : World} {K : PySem.W.Frag} {mg : Str → Option Value} {base : Heap}
theorem scOf : FnScope ["self", "line"] ["self", "line"] (defScope sOf) := ⟨rfl, rfl, rfl, by decide +kernel, rfl, by decide +kernel, by decide +kernel⟩
theorem ok_of {f fL C : Addr} {fd fdL : FuncData} (F : Fun K "_of" "Costs._of" sOf f fd) (X : CsX K mg C)
    (FL : Fun K "is_line" "is_line" sLine fL fdL) (GL : FnOk P w K mg base CX0 1 fL fdL ["value"] (spJudge K isLine)) (bL : Binds K fdL ["value"] []) (mL : mg "is_line" = some (.ref fL)) : FnOk P w K mg base CX0 2 f fd ["self", "line"] (spOf K C) := by
  refine F.ok scOf (fun vs H Q E h => ?_) (fun cdv A outer s H vs Q E hr h => ?_)
  · obtain ⟨p, s, pl, o, rfl, _⟩ := h
    rfl
  · obtain ⟨p, s, pl, o, rfl, hc, hl, z⟩ := h
    refine ⟨_, pss_cons (ps_if (pt_not (pt_val (pe_call GL hr rfl mL FL.kp bL .nil pass0 (pa_cons (pv 1) pa_nil)))) (pss_one ps_never) pss_nil)
      (pss_one (ps_ret (pe_dget2 (hu_of hr) (pe_fld (pv 0) rfl) (pv 1) (pe_fld (pv 0) rfl) ⟨rfl, rfl, rfl, rfl⟩))), ?_⟩
    refine ⟨_, rfl, .str s, .str s, rfl, .str s, fun H1 s1 => ⟨_, rfl, ?_⟩⟩
    rw [hl]
    refine iteF ?_
    obtain ⟨dx, q, d, kvs, h1, h2, h3, h4, h5, h6⟩ := hc.same s1
    refine ⟨_, rfl, p, C, dx, _, _, rfl, h1, X.cl, X.nO, rfl, d, rfl, .inl ⟨_, .of h3⟩, _, rfl, _, rfl, p, C, dx, _, _, rfl, h1, X.cl, X.nP, rfl, _, DGet.k (k := Sum.inr s) h3, ?_⟩
    rcases h4.val s with ⟨e1, e2⟩ | ⟨a, b, r, e1, e2, e3⟩
    · rw [e2]
      refine z H1 q s1 ?_
      unfold ofC
      rw [e1]
      exact h2
    · rw [e2]
      refine z H1 r s1 ?_
      unfold ofC
      rw [e1]
      exact e3
theorem scGoing : FnScope ["self", "line"] ["self", "line"] (defScope sGoing) := ⟨rfl, rfl, rfl, by decide +kernel, rfl, by decide +kernel, by decide +kernel⟩
theorem scComing : FnScope ["self", "line"] ["self", "line"] (defScope sComing) := ⟨rfl, rfl, rfl, by decide +kernel, rfl, by decide +kernel, by decide +kernel⟩
theorem ok_going {f fO C : Addr} {fd fdO : FuncData} (F : Fun K "going" "Costs.going" sGoing f fd) (X : CsX K mg C)
    (FO : Fun K "_of" "Costs._of" sOf fO fdO) (GO : FnOk P w K mg base CX0 2 fO fdO ["self", "line"] (spOf K C)) (bO : Binds K fdO ["self", "line"] []) (mO : Meth K C "_of" fO) : FnOk P w K mg base CX0 3 f fd ["self", "line"] (spCst K C (·.1)) := by
  refine F.ok scGoing (fun vs H Q E h => ?_) (fun cdv A outer s H vs Q E hr h => ?_)
  · obtain ⟨x, s, cf, rfl, _⟩ := h
    rfl
  · obtain ⟨x, s, cf, rfl, ⟨p, pl, o, rfl, hc, hcf⟩, hl, z⟩ := h
    refine ⟨_, pss_one (ps_ret (pe_ix ix_tup (pe_meth (pv 0) X.cl mO GO hr bO .nil pass0 (pa_cons (pv 1) pa_nil)) pe_int (fun _ _ => rfl))), ?_⟩
    obtain ⟨dx, q, d, kvs, h1, _⟩ := id hc
    refine ⟨_, rfl, p, dx, _, rfl, h1, rfl, _, rfl, p, s, pl, o, rfl, hc, hl, fun H' r s' hr' => ?_⟩
    refine ⟨r, _, _, _, rfl, rfl, hr', atI_nat (j := 0) rfl, ?_⟩
    have zz := z H' s'
    rw [hcf] at zz
    exact zz
theorem ok_coming {f fO C : Addr} {fd fdO : FuncData} (F : Fun K "coming" "Costs.coming" sComing f fd) (X : CsX K mg C)
    (FO : Fun K "_of" "Costs._of" sOf fO fdO) (GO : FnOk P w K mg base CX0 2 fO fdO ["self", "line"] (spOf K C)) (bO : Binds K fdO ["self", "line"] []) (mO : Meth K C "_of" fO) : FnOk P w K mg base CX0 3 f fd ["self", "line"] (spCst K C (·.2)) := by
  refine F.ok scComing (fun vs H Q E h => ?_) (fun cdv A outer s H vs Q E hr h => ?_)
  · obtain ⟨x, s, cf, rfl, _⟩ := h
    rfl
  · obtain ⟨x, s, cf, rfl, ⟨p, pl, o, rfl, hc, hcf⟩, hl, z⟩ := h
    refine ⟨_, pss_one (ps_ret (pe_ix ix_tup (pe_meth (pv 0) X.cl mO GO hr bO .nil pass0 (pa_cons (pv 1) pa_nil)) pe_int (fun _ _ => rfl))), ?_⟩
    obtain ⟨dx, q, d, kvs, h1, _⟩ := id hc
    refine ⟨_, rfl, p, dx, _, rfl, h1, rfl, _, rfl, p, s, pl, o, rfl, hc, hl, fun H' r s' hr' => ?_⟩
    refine ⟨r, _, _, _, rfl, rfl, hr', atI_nat (j := 1) rfl, ?_⟩
    have zz := z H' s'
    rw [hcf] at zz
    exact zz
end
end K14
namespace XR
open PySem L2
/-- a list of pairs of numbers, where they stand -/
def NPs (K : PySem.W.Frag) (H : Hp) (xs : List V) (ps : List (Nat × Nat)) : Prop := xs.length = ps.length ∧ ∀ (i : Nat) (q : Nat × Nat), ps[i]? = some q → ∃ r : Addr, xs[i]? = some (V.ref r) ∧ SqT K H r [.int (q.1 : Int), .int (q.2 : Int)]
theorem NPs.same {K : PySem.W.Frag} {H H' : Hp} {xs : List V} {ps : List (Nat × Nat)} (s : Same H H') (h : NPs K H xs ps) : NPs K H' xs ps :=
  ⟨h.1, fun i q hq => let ⟨r, a, b⟩ := h.2 i q hq; ⟨r, a, XR.Same.tup s b⟩⟩
theorem NPs.append {K : PySem.W.Frag} {H : Hp} {xs ys : List V} {ps qs : List (Nat × Nat)} (h : NPs K H xs ps) (k : NPs K H ys qs) : NPs K H (xs ++ ys) (ps ++ qs) := by
  refine ⟨by rw [List.length_append, List.length_append, h.1, k.1], fun i q hq => ?_⟩
  rw [List.getElem?_append] at hq ⊢
  rw [h.1]
  by_cases c : i < ps.length
  · rw [if_pos c] at hq ⊢; exact h.2 i q hq
  · rw [if_neg c] at hq ⊢; exact k.2 _ q hq
theorem NPs.one {K : PySem.W.Frag} {H : Hp} {r : Addr} {q : Nat × Nat} (h : SqT K H r [.int (q.1 : Int), .int (q.2 : Int)]) : NPs K H [V.ref r] [q] := ⟨rfl, fun i p hp => by
  cases i with
  | zero => cases Option.some.inj hp; exact ⟨r, rfl, h⟩
  | succ i => simp at hp⟩
theorem wipe_aux {i : Nat} {v : Option V} : ∀ (vs : List Nat) (σ : St), (wipe (σ.set i v) vs).set i none = (wipe σ vs).set i none
  | [], σ => by show (σ.set i v).set i none = σ.set i none; rw [List.set_set]
  | w :: ws, σ => by
    have ih := wipe_aux (i := i) (v := v) ws σ
    show ((wipe (σ.set i v) ws).set w none).set i none = ((wipe σ ws).set w none).set i none
    by_cases e : w = i
    · subst e
      rw [List.set_set, List.set_set]
      exact ih
    · rw [List.set_comm none none e, ih, List.set_comm none none (Ne.symm e)]
theorem wipe_set {i : Nat} {v : Option V} : ∀ {vs : List Nat} {σ : St}, i ∈ vs → wipe (σ.set i v) vs = wipe σ vs
  | [], σ, h => nomatch h
  | w :: ws, σ, h => by
    show (wipe (σ.set i v) ws).set w none = (wipe σ ws).set w none
    rcases List.mem_cons.mp h with e | h
    · subst e
      exact wipe_aux ws σ
    · rw [wipe_set h]
theorem wipe_sub {vs : List Nat} {σ : St} : ∀ {ws : List Nat}, (∀ i ∈ ws, i ∈ vs) → wipe (wipe σ ws) vs = wipe σ vs
  | [], _ => rfl
  | w :: ws, h => by
    show wipe ((wipe σ ws).set w none) vs = _
    rw [wipe_set (h w (List.mem_cons_self ..)), wipe_sub fun i hi => h i (List.mem_cons_of_mem _ hi)]
/-- behind a comprehension's turn with four names all is as it was -/
theorem wipe4 {σ : St} {a b c d : Nat} {w x y z : Option V} : wipe (((((wipe σ [a, b, c, d]).set a w).set b x).set c y).set d z) [a, b, c, d] = wipe σ [a, b, c, d] := by
  rw [wipe_set (by simp), wipe_set (by simp), wipe_set (by simp), wipe_set (by simp), wipe_sub fun _ h => h]
/-- what is told of two texts and a diff as a new list of blocks -/
def spFours (K : PySem.W.Frag) (f : Nat → Nat → List (Nat × Nat) → List (Nat × Nat × Nat × Nat)) : Sp := fun vs H Q _ => ∃ (x1 x2 v : V) (ss1 ss2 : List Str) (ps : List (Nat × Nat)), vs = [x1, x2, v] ∧ TxV K H x1 ss1 ∧ TxV K H x2 ss2 ∧ DfV K H v ps ∧ IsDf ss1 ss2 ps ∧
  ∀ l rs H', Same H H' → H l = none → H' l = some (.lst (refs rs)) → BsAt H' rs (f ss1.length ss2.length ps) → Q (.ref l) H'
theorem BsAt.same {H H' : Hp} {rs : List Addr} {bs : List (Nat × Nat × Nat × Nat)} (s : Same H H') (h : BsAt H rs bs) : BsAt H' rs bs :=
  ⟨h.1, fun i b hb => let ⟨r, x, y⟩ := h.2 i b hb; ⟨r, x, s _ _ y⟩⟩
theorem BsAt.nil {H : Hp} : BsAt H [] [] := ⟨rfl, fun i q h => by simp at h⟩
theorem BsAt.snoc {H : Hp} {rs : List Addr} {bs : List (Nat × Nat × Nat × Nat)} {r : Addr} {b : Nat × Nat × Nat × Nat} (h : BsAt H rs bs) (k : H r = some (fourV b)) : BsAt H (rs ++ [r]) (bs ++ [b]) := by
  refine ⟨by rw [List.length_append, List.length_append, h.1]; rfl, fun i q hq => ?_⟩
  rw [List.getElem?_append] at hq ⊢
  rw [h.1]
  by_cases c : i < bs.length
  · rw [if_pos c] at hq ⊢; exact h.2 i q hq
  · rw [if_neg c] at hq ⊢
    have e : i - bs.length = 0 := by
      cases e : i - bs.length with
      | zero => rfl
      | succ n => rw [e] at hq; simp at hq
    rw [e] at hq ⊢
    cases Option.some.inj hq
    exact ⟨r, rfl, k⟩
theorem BsAt.updL {H : Hp} {p : Addr} {xs ys : List V} {rs : List Addr} {bs : List (Nat × Nat × Nat × Nat)} (h : BsAt H rs bs) (k : H p = some (.lst xs)) : BsAt (upd H p (.lst ys)) rs bs :=
  ⟨h.1, fun i b hb => let ⟨r, x, y⟩ := h.2 i b hb; ⟨r, x, by rw [upd_ne (fun e => by rw [e, k] at y; cases y)]; exact y⟩⟩
/-- one more block, made new and appended -/
theorem bsStep {H : Hp} {D r : Addr} {rs : List Addr} {bs : List (Nat × Nat × Nat × Nat)} {b : Nat × Nat × Nat × Nat} (hD : H D = some (.lst (refs rs))) (h : BsAt H rs bs) (nr : H r = none) :
    upd H r (fourV b) D = some (.lst (refs rs)) ∧ BsAt (upd (upd H r (fourV b)) D (.lst (refs rs ++ [V.ref r]))) (rs ++ [r]) (bs ++ [b]) ∧ upd (upd H r (fourV b)) D (.lst (refs rs ++ [V.ref r])) D = some (.lst (refs (rs ++ [r]))) := by
  have s := same_upd (o := fourV b) nr
  have hD' := s _ _ hD
  refine ⟨hD', ((h.same s).snoc upd_same).updL hD', ?_⟩
  rw [upd_same]
  unfold refs
  rw [List.map_append]
  rfl
theorem IsDf.pos {ss1 ss2 : List Str} {ps : List (Nat × Nat)} (h : IsDf ss1 ss2 ps) {q : Nat × Nat} (hq : q ∈ ps) : 1 ≤ q.1 ∧ q.1 ≤ ss1.length ∧ 1 ≤ q.2 ∧ q.2 ≤ ss2.length := by
  obtain ⟨a, b, c, d, _⟩ := h.1 q hq
  exact ⟨a, b, c, d⟩
end XR
namespace K14
open PySem L2 XR
section
variable {P : Program} {w : World} {K : PySem.W.Frag} {mg : Str → Option Value} {base : Heap}
theorem scGaps : FnScope ["old", "new", "diff", "starts", "stops", "a", "c", "i", "j"] ["old", "new", "diff"] (defScope sGaps) := ⟨rfl, rfl, rfl, by decide +kernel, rfl, by decide +kernel, by decide +kernel⟩
theorem ok_gaps {f : Addr} {fd : FuncData} (F : Fun K "gaps_of" "gaps_of" sGaps f fd) (T : Blt mg) : FnOk P w K mg base CX0 1 f fd ["old", "new", "diff"] (spFours K gapsL) := by
  refine F.ok scGaps (fun vs H Q E h => ?_) (fun cdv A outer s H vs Q E hr h => ?_)
  · obtain ⟨x1, x2, v, ss1, ss2, ps, rfl, _⟩ := h
    rfl
  · obtain ⟨x1, x2, v, ss1, ss2, ps, rfl, t1, t2, hv, hd, z⟩ := h
    refine ⟨_, pss_cons (ps_set (i := 3) scGaps.nd rfl (.inl rfl) (pe_lst (pa_cons (pe_tup (pa_cons pe_int (pa_cons pe_int pa_nil))) (StX.pa_star (pv 2) pa_nil))))
      (pss_cons (ps_set (i := 4) scGaps.nd rfl (.inl rfl) (pe_lst (StX.pa_star (pv 2) (pa_cons (pe_tup (pa_cons (pe_op op_add (pe_callB call_len_seq (by rfl) T.len PySem.boot_len (pa_cons (pv 0) pa_nil)) pe_int) (pa_cons (pe_op op_add (pe_callB call_len_seq (by rfl) T.len PySem.boot_len (pa_cons (pv 1) pa_nil)) pe_int) pa_nil))) pa_nil))))
      (pss_one (ps_ret (pe_lc (own := [("a", 5), ("c", 6), ("i", 7), ("j", 8)]) (g := gTup K 2 (gCons (gTup K 2 (gCons (gName 5) (gCons (gName 6) gNil))) (gCons (gTup K 2 (gCons (gName 7) (gCons (gName 8) gNil))) gNil))) (tt := tYes)
        (te := tTup (tCons (tVar 5) (tCons (tOp (rI0 fun i j => V.int (i - j)) (tVar 7) (tC (V.int 1))) (tCons (tVar 6) (tCons (tOp (rI0 fun i j => V.int (i - j)) (tVar 8) (tC (V.int 1))) tNil))))) rfl scGaps.nd
        (pi_zip rfl (T.all "zip" (by decide)) (pa_cons (pv 3) (pa_cons (pv 4) pa_nil)))
        (blkOk_by (own := [("a", 5), ("c", 6), ("i", 7), ("j", 8)]) (N := ["old", "new", "diff", "starts", "stops", "a", "c", "i", "j"]) (sc := defScope sGaps) (by decide +kernel))
        (fun _ _ _ _ _ => pg_tup rfl (pgs_cons (pg_tup rfl (pgs_cons (pg_name (i := 5) scGaps.nd rfl (.inl rfl)) (pgs_cons (pg_name (i := 6) scGaps.nd rfl (.inl rfl)) pgs_nil))) (pgs_cons (pg_tup rfl (pgs_cons (pg_name (i := 7) scGaps.nd rfl (.inl rfl)) (pgs_cons (pg_name (i := 8) scGaps.nd rfl (.inl rfl)) pgs_nil))) pgs_nil))) (fun _ _ _ _ _ => pts_nil)
        (fun _ _ _ _ _ => pe_tup (pa_cons (pv 5) (pa_cons (pe_op op_sub (pv 7) pe_int) (pa_cons (pv 6) (pa_cons (pe_op op_sub (pv 8) pe_int) pa_nil))))))))), ?_⟩
    have l60 := t1.len
    have dl := df_len hd
    obtain ⟨t, xs, rfl, ht, hl, hx⟩ := hv.items
    have np : NPs K H xs ps := ⟨hl, fun i q hq => by
      have hi : i < xs.length := by rw [hl]; exact (List.getElem?_eq_some_iff.mp hq).1
      obtain ⟨q', r, e1, e2, e3⟩ := hx i _ (List.getElem?_eq_getElem hi)
      rw [hq] at e1
      cases e1
      exact ⟨r, by rw [List.getElem?_eq_getElem hi, e2], e3⟩⟩
    have xl : xs.length ≤ 60 := by omega
    refine ⟨ll20 (by show 2 ≤ 20; decide), fun t0 n0 => ?_⟩
    have s0 := same_upd (o := .tup [V.int 0, V.int 0]) n0
    refine ⟨_, rfl, t, xs, rfl, .inl (XR.Same.tup s0 ht), ?_, fun A0 nA => ?_⟩
    · show (V.ref t0 :: (xs ++ [])).length ≤ sizeLine
      rw [List.append_nil, List.length_cons]
      exact Nat.le_trans (show xs.length + 1 ≤ 61 by omega) (by decide)
    have sA := s0.trans (same_upd (o := .lst (V.ref t0 :: (xs ++ []))) nA)
    have hA := upd_same (H := upd H t0 (.tup [V.int 0, V.int 0])) (a := A0) (o := .lst (V.ref t0 :: (xs ++ [])))
    have ht0 : upd (upd H t0 (.tup [V.int 0, V.int 0])) A0 (.lst (V.ref t0 :: (xs ++ []))) t0 = some (.tup [V.int 0, V.int 0]) := same_upd nA _ _ upd_same
    have npA : NPs K (upd (upd H t0 (.tup [V.int 0, V.int 0])) A0 (.lst (V.ref t0 :: (xs ++ [])))) (V.ref t0 :: (xs ++ [])) ((0, 0) :: ps) := by
      have := (NPs.one (K := K) (q := (0, 0)) (.inl (.inl ht0))).append (np.same sA)
      rw [List.append_nil] at this ⊢
      exact this
    rw [List.append_nil] at sA hA ht0 npA ⊢
    generalize upd (upd H t0 (.tup [V.int 0, V.int 0])) A0 (.lst (V.ref t0 :: xs)) = H1 at sA hA ht0 npA ⊢
    obtain ⟨a1, rfl, h1⟩ := (t1.same sA).a
    obtain ⟨a2, rfl, h2⟩ := (t2.same sA).a
    refine ⟨_, rfl, t, xs, rfl, .inl (XR.Same.tup sA ht), ?_⟩
    refine ⟨_, rfl, a1, _, rfl, h1, _, _, rfl, rfl, _, rfl, a2, _, rfl, h2, _, _, rfl, rfl, ll20 (by show 2 ≤ 20; decide), fun t3 n3 => ?_⟩
    rw [List.length_map, List.length_map]
    have s3 := same_upd (o := .tup [V.int ((ss1.length : Nat) + 1), V.int ((ss2.length : Nat) + 1)]) n3
    refine ⟨?_, fun B0 nB => ?_⟩
    · show (xs ++ [V.ref t3]).length ≤ sizeLine
      rw [List.length_append]
      exact Nat.le_trans (show xs.length + 1 ≤ 61 by omega) (by decide)
    have sB := s3.trans (same_upd (o := .lst (xs ++ [V.ref t3])) nB)
    have hB := upd_same (H := upd H1 t3 (.tup [V.int ((ss1.length : Nat) + 1), V.int ((ss2.length : Nat) + 1)])) (a := B0) (o := .lst (xs ++ [V.ref t3]))
    have ht3 : upd (upd H1 t3 (.tup [V.int ((ss1.length : Nat) + 1), V.int ((ss2.length : Nat) + 1)])) B0 (.lst (xs ++ [V.ref t3])) t3 = some (.tup [V.int ((ss1.length : Nat) + 1), V.int ((ss2.length : Nat) + 1)]) := same_upd nB _ _ upd_same
    have npB := ((np.same sA).same sB).append (NPs.one (K := K) (q := (ss1.length + 1, ss2.length + 1)) (.inl (.inl ht3)))
    have npA' := npA.same sB
    have hA' := sB _ _ hA
    have sAB := sA.trans sB
    generalize upd (upd H1 t3 (.tup [V.int ((ss1.length : Nat) + 1), V.int ((ss2.length : Nat) + 1)])) B0 (.lst (xs ++ [V.ref t3])) = H2 at hB npB npA' hA' sAB ⊢
    refine ⟨_, rfl, _, rfl, A0, B0, _, _, rfl, SqL.of hA', SqL.of hB, fun D nD => ?_⟩
    have sD := same_upd (o := .lst []) nD
    have lenA := npA'.1
    have lenB := npB.1
    have lA : ((0, 0) :: ps : List (Nat × Nat)).length = ps.length + 1 := rfl
    have lB : (ps ++ [(ss1.length + 1, ss2.length + 1)] : List (Nat × Nat)).length = ps.length + 1 := by rw [List.length_append]; rfl
    refine lc_it (walk_zip (n := ps.length + 1) (by rw [lenA, lenB, lA, lB, Nat.min_self])) (fun i H' => Same H2 H' ∧ ∃ rs, H' D = some (.lst (refs rs)) ∧ BsAt H' rs ((gapsL ss1.length ss2.length ps).take i)) ⟨sD, [], upd_same, .nil⟩ (fun i H' _ hh => ⟨SqL.of (hh.1 _ _ hA'), SqL.of (hh.1 _ _ hB)⟩) ?_ ?_
    · rintro i x Ha Hb hi ⟨sm, rs, hD, hk⟩ ⟨T0, y1, y2, rfl, nT, rfl, e1, e2⟩
      obtain ⟨b, hb⟩ : ∃ b, ((0, 0) :: ps : List (Nat × Nat))[i]? = some b := ⟨_, List.getElem?_eq_getElem (by omega)⟩
      obtain ⟨e, he⟩ : ∃ e, (ps ++ [(ss1.length + 1, ss2.length + 1)] : List (Nat × Nat))[i]? = some e := ⟨_, List.getElem?_eq_getElem (by omega)⟩
      obtain ⟨r1, f1, g1⟩ := npA'.2 i b hb
      obtain ⟨r2, f2, g2⟩ := npB.2 i e he
      obtain rfl : y1 = V.ref r1 := Option.some.inj (e1.symm.trans f1)
      obtain rfl : y2 = V.ref r2 := Option.some.inj (e2.symm.trans f2)
      have hgap := gaps_at ss1.length ss2.length ps (0, 0) i b e hb he
      have e1p : 1 ≤ e.1 ∧ 1 ≤ e.2 := by
        rcases List.mem_append.mp (List.mem_of_getElem? he) with h | h
        · have := hd.pos h; omega
        · rw [List.mem_singleton.mp h]; exact ⟨by simp, by simp⟩
      have sT := same_upd (o := .tup [V.ref r1, V.ref r2]) nT
      have sa := sm.trans sT
      refine ⟨T0, _, rfl, .inl (.inl upd_same), rfl, _, _, rfl, r1, _, rfl, XR.Same.tup sa g1, rfl, _, _, rfl, _, _, rfl, rfl, _, _, rfl, r2, _, rfl, XR.Same.tup sa g2, rfl, _, _, rfl, _, _, rfl, rfl, rfl, wipe4, ?_⟩
      unfold tYes
      dsimp only
      rw [if_pos rfl]
      refine ⟨_, rfl, _, rfl, _, _, rfl, rfl, _, rfl, _, rfl, _, _, rfl, rfl, ll20 (by show 4 ≤ 20; decide), fun u nu => ?_⟩
      obtain ⟨k1, k2, k3⟩ := bsStep (b := (b.1, e.1 - 1, b.2, e.2 - 1)) (sT _ _ hD) (hk.same sT) nu
      have en : HO.tup [V.int (b.1 : Int), V.int ((e.1 : Int) - 1), V.int (b.2 : Int), V.int ((e.2 : Int) - 1)] = fourV (b.1, e.1 - 1, b.2, e.2 - 1) := by
        show _ = HO.tup [V.int (b.1 : Int), V.int ((e.1 - 1 : Nat) : Int), V.int (b.2 : Int), V.int ((e.2 - 1 : Nat) : Int)]
        rw [show ((e.1 : Int) - 1) = ((e.1 - 1 : Nat) : Int) by omega, show ((e.2 : Int) - 1) = ((e.2 - 1 : Nat) : Int) by omega]
      rw [en]
      refine ⟨_, k1, ?_, fun b' o' h => ?_, rs ++ [u], k3, ?_⟩
      · unfold refs
        rw [List.length_map, hk.1, List.length_take]
        exact Nat.lt_of_le_of_lt (show min i _ ≤ 61 by omega) (by decide)
      · rw [upd_ne (ne_of_none h nD)]
        exact same_upd nu _ _ (sa _ _ h)
      · rw [List.take_add_one]
        unfold gapsL at hgap ⊢
        rw [hgap]
        exact k2
    · rintro H' ⟨sm, rs, hD, hk⟩
      rw [List.take_of_length_le (by unfold gapsL; rw [gaps_len]; exact Nat.le_refl _)] at hk
      exact z D rs H' (sAB.trans sm) (none_before sAB nD) hD hk
end
end K14
namespace XR
open PySem L2
abbrev Four := Nat × Nat × Nat × Nat
def sw4 (b : Four) : Four := (b.2.2.1, b.2.2.2, b.1, b.2.1)
def ov4 (m n : Nat) (b : Four) : Four := (m - b.2.1, m - b.1, n - b.2.2.2, n - b.2.2.1)
theorem gaps_swp (m n : Nat) : ∀ (ps : List (Nat × Nat)) (s : Nat × Nat), gapsFrom n m (swp s) (ps.map swp) = (gapsFrom m n s ps).map sw4
  | [], (a, c) => rfl
  | (i, j) :: ps, (a, c) => by
    show (c, j - 1, a, i - 1) :: gapsFrom n m (swp (i, j)) (ps.map swp) = (c, j - 1, a, i - 1) :: (gapsFrom m n (i, j) ps).map sw4
    rw [gaps_swp m n ps (i, j)]
def blkP (b : Four) : Bool := decide (b.1 < b.2.1) || decide (b.2.2.1 < b.2.2.2)
theorem blocks_swp (m n : Nat) (ps : List (Nat × Nat)) : blocksL n m (ps.map swp) = (blocksL m n ps).map sw4 := by
  show (gapsFrom n m (swp (0, 0)) (ps.map swp)).filter blkP = ((gapsFrom m n (0, 0) ps).filter blkP).map sw4
  rw [gaps_swp, List.filter_map]
  congr 1
  refine List.filter_congr fun b _ => ?_
  show (decide (b.2.2.1 < b.2.2.2) || decide (b.1 < b.2.1)) = _
  exact Bool.or_comm _ _
def gp (x y : Nat × Nat) : Four := (x.1, y.1 - 1, x.2, y.2 - 1)
theorem gaps_zip (m n : Nat) : ∀ (ps : List (Nat × Nat)) (s : Nat × Nat), gapsFrom m n s ps = List.zipWith gp (s :: ps) (ps ++ [(m + 1, n + 1)])
  | [], (a, c) => rfl
  | (i, j) :: ps, (a, c) => by
    show (a, i - 1, c, j - 1) :: gapsFrom m n (i, j) ps = gp (a, c) (i, j) :: List.zipWith gp ((i, j) :: ps) (ps ++ [(m + 1, n + 1)])
    rw [gaps_zip m n ps (i, j)]
    rfl
theorem zipWith_congr' {α β γ : Type} {f g : α → β → γ} : ∀ {as : List α} {bs : List β}, (∀ a ∈ as, ∀ b ∈ bs, f a b = g a b) → List.zipWith f as bs = List.zipWith g as bs
  | [], _, _ => by simp
  | a :: as, [], _ => by simp
  | a :: as, b :: bs, h => by
    rw [List.zipWith_cons_cons, List.zipWith_cons_cons, h a (List.mem_cons_self ..) b (List.mem_cons_self ..), zipWith_congr' fun x hx y hy => h x (List.mem_cons_of_mem _ hx) y (List.mem_cons_of_mem _ hy)]
theorem zipWith_swap {α β γ : Type} (f : α → β → γ) : ∀ (as : List α) (bs : List β), List.zipWith f as bs = List.zipWith (fun b a => f a b) bs as
  | [], bs => by simp
  | a :: as, [] => by simp
  | a :: as, b :: bs => by rw [List.zipWith_cons_cons, List.zipWith_cons_cons, zipWith_swap f as bs]
theorem gaps_over {m n : Nat} {ps : List (Nat × Nat)} (h : Bd m n ps) : gapsL m n (ps.reverse.map (over m n)) = ((gapsL m n ps).reverse).map (ov4 m n) := by
  unfold gapsL
  rw [gaps_zip, gaps_zip]
  have e1 : ((0, 0) :: ps.reverse.map (over m n)) = ((ps ++ [(m + 1, n + 1)]).reverse).map (over m n) := by
    rw [List.reverse_append]
    show _ = over m n (m + 1, n + 1) :: ps.reverse.map (over m n)
    unfold over
    simp
  have e2 : (ps.reverse.map (over m n) ++ [(m + 1, n + 1)]) = (((0, 0) :: ps).reverse).map (over m n) := by
    rw [List.reverse_cons, List.map_append]
    rfl
  rw [e1, e2, List.zipWith_map, ← List.reverse_zipWith (by rw [List.length_append, List.length_cons]; rfl), List.map_reverse, List.map_zipWith]
  congr 1
  rw [zipWith_swap]
  refine zipWith_congr' fun b hb a ha => ?_
  have ha1 : 1 ≤ a.1 ∧ 1 ≤ a.2 := by
    rcases List.mem_append.mp ha with h' | h'
    · have := h a h'; omega
    · rw [List.mem_singleton.mp h']; exact ⟨by simp, by simp⟩
  obtain ⟨a1, a2⟩ := a
  obtain ⟨b1, b2⟩ := b
  show (m + 1 - a1, m + 1 - b1 - 1, n + 1 - a2, n + 1 - b2 - 1) = (m - (a1 - 1), m - b1, n - (a2 - 1), n - b2)
  have h1 : 1 ≤ a1 := ha1.1
  have h2 : 1 ≤ a2 := ha1.2
  refine Prod.ext ?_ (Prod.ext ?_ (Prod.ext ?_ ?_)) <;> dsimp only <;> omega
/-- where blocks lie -/
def In4 (m n : Nat) (b : Four) : Prop := b.1 ≤ m ∧ b.2.1 ≤ m ∧ b.2.2.1 ≤ n ∧ b.2.2.2 ≤ n
theorem gaps_in {m n : Nat} : ∀ {ps : List (Nat × Nat)} {s : Nat × Nat}, Bd m n ps → s.1 ≤ m → s.2 ≤ n → ∀ b ∈ gapsFrom m n s ps, In4 m n b
  | [], (a, c), _, h1, h2, b, hb => by
    rw [List.mem_singleton.mp hb]
    exact ⟨h1, Nat.le_refl _, h2, Nat.le_refl _⟩
  | (i, j) :: ps, (a, c), h, h1, h2, b, hb => by
    have hij := h (i, j) (List.mem_cons_self ..)
    rcases List.mem_cons.mp hb with rfl | hb
    · refine ⟨h1, ?_, h2, ?_⟩
      · show i - 1 ≤ m; have := hij.2.1; dsimp only at this; omega
      · show j - 1 ≤ n; have := hij.2.2.2; dsimp only at this; omega
    · exact gaps_in (fun q hq => h q (List.mem_cons_of_mem _ hq)) hij.2.1 hij.2.2.2 b hb
theorem blocks_in {m n : Nat} {ps : List (Nat × Nat)} (h : Bd m n ps) : ∀ b ∈ blocksL m n ps, In4 m n b := fun b hb =>
  gaps_in (s := (0, 0)) h (Nat.zero_le _) (Nat.zero_le _) b (List.mem_filter.mp hb).1
theorem blocks_len (m n : Nat) (ps : List (Nat × Nat)) : (blocksL m n ps).length ≤ ps.length + 1 := by
  have h1 := List.length_filter_le blkP (gapsL m n ps)
  have h2 : (gapsL m n ps).length = ps.length + 1 := gaps_len _ _ _ _
  rw [h2] at h1
  exact h1
theorem blocks_over {m n : Nat} {ps : List (Nat × Nat)} (h : Bd m n ps) : blocksL m n (ps.reverse.map (over m n)) = ((blocksL m n ps).reverse).map (ov4 m n) := by
  show (gapsL m n (ps.reverse.map (over m n))).filter blkP = (((gapsL m n ps).filter blkP).reverse).map (ov4 m n)
  rw [gaps_over h, List.filter_map, List.filter_reverse]
  congr 2
  refine List.filter_congr fun b hb => ?_
  obtain ⟨h1, h2, h3, h4⟩ := gaps_in (s := (0, 0)) h (Nat.zero_le _) (Nat.zero_le _) b hb
  show (decide (m - b.2.1 < m - b.1) || decide (n - b.2.2.2 < n - b.2.2.1)) = (decide (b.1 < b.2.1) || decide (b.2.2.1 < b.2.2.2))
  rw [decide_eq_decide.mpr (show m - b.2.1 < m - b.1 ↔ b.1 < b.2.1 by omega), decide_eq_decide.mpr (show n - b.2.2.2 < n - b.2.2.1 ↔ b.2.2.1 < b.2.2.2 by omega)]
/-- costs of a diff -/
def sumAt (f : Str → Int) (ss : List Str) (l : List Nat) : Int := (l.map fun i => f (ss.getD (i - 1) "")).sum
def costL (cf : Str → Int × Int) (ss1 ss2 : List Str) (ps : List (Nat × Nat)) : Int := sumAt (fun s => (cf s).1) ss1 (goneL ss1.length ps) + sumAt (fun s => (cf s).2) ss2 (comeL ss2.length ps)
theorem cost_swp (cf : Str → Int × Int) (ss1 ss2 : List Str) (ps : List (Nat × Nat)) : costL (fun s => ((cf s).2, (cf s).1)) ss2 ss1 (ps.map swp) = costL cf ss1 ss2 ps := by
  unfold costL goneL comeL
  rw [List.map_map, List.map_map]
  exact Int.add_comm _ _
theorem outL_mem {m i : Nat} {ks : List Nat} : i ∈ outL m ks ↔ 1 ≤ i ∧ i ≤ m ∧ i ∉ ks := by
  unfold outL
  rw [List.mem_filter, List.mem_map]
  constructor
  · rintro ⟨⟨k, h1, rfl⟩, h2⟩
    rw [List.mem_range] at h1
    refine ⟨by omega, by omega, fun h => ?_⟩
    rw [decide_eq_true h] at h2
    cases h2
  · rintro ⟨h1, h2, h3⟩
    exact ⟨⟨i - 1, List.mem_range.mpr (by omega), by omega⟩, by rw [decide_eq_false h3]; rfl⟩
theorem range_rev (m : Nat) : ((List.range m).map (· + 1)).reverse.map (m + 1 - ·) = (List.range m).map (· + 1) := by
  apply List.ext_getElem?
  intro i
  rw [List.getElem?_map]
  by_cases h : i < m
  · rw [List.getElem?_reverse (by rw [List.length_map, List.length_range]; exact h), List.length_map, List.length_range, List.getElem?_map, List.getElem?_map, List.getElem?_range (by omega), List.getElem?_range h]
    show some (m + 1 - (m - 1 - i + 1)) = some (i + 1)
    congr 1
    omega
  · rw [List.getElem?_eq_none (by rw [List.length_reverse, List.length_map, List.length_range]; omega), List.getElem?_eq_none (by rw [List.length_map, List.length_range]; omega)]
    rfl
theorem outL_rev {m : Nat} {ks : List Nat} (h : ∀ k ∈ ks, 1 ≤ k ∧ k ≤ m) : outL m (ks.reverse.map (m + 1 - ·)) = (outL m ks).reverse.map (m + 1 - ·) := by
  unfold outL
  rw [← List.filter_reverse]
  conv => lhs; rw [← range_rev m]
  rw [List.filter_map]
  congr 1
  refine List.filter_congr fun i hi => ?_
  rw [List.mem_reverse, List.mem_map] at hi
  obtain ⟨k, hk, rfl⟩ := hi
  rw [List.mem_range] at hk
  show (!decide (m + 1 - (k + 1) ∈ ks.reverse.map (m + 1 - ·))) = !decide (k + 1 ∈ ks)
  congr 1
  rw [decide_eq_decide, List.mem_map]
  constructor
  · rintro ⟨j, hj, e⟩
    rw [List.mem_reverse] at hj
    have := h j hj
    have : j = k + 1 := by omega
    rw [← this]; exact hj
  · intro hk2
    exact ⟨k + 1, List.mem_reverse.mpr hk2, rfl⟩
theorem sum_rev (l : List Int) : l.reverse.sum = l.sum := by
  induction l with
  | nil => rfl
  | cons a l ih => rw [List.reverse_cons, List.sum_append, ih, List.sum_cons, List.sum_cons, List.sum_nil]; omega
theorem sumAt_rev {f : Str → Int} {ss : List Str} {l : List Nat} (h : ∀ i ∈ l, 1 ≤ i ∧ i ≤ ss.length) : sumAt f ss.reverse (l.reverse.map (ss.length + 1 - ·)) = sumAt f ss l := by
  unfold sumAt
  rw [List.map_map, List.map_reverse, sum_rev]
  congr 1
  refine List.map_congr_left fun i hi => ?_
  have := h i hi
  show f (ss.reverse.getD (ss.length + 1 - i - 1) "") = f (ss.getD (i - 1) "")
  rw [List.getD_eq_getElem?_getD, List.getD_eq_getElem?_getD, List.getElem?_reverse (by omega)]
  congr 3
  omega
theorem cost_over {cf : Str → Int × Int} {ss1 ss2 : List Str} {ps : List (Nat × Nat)} (h : Bd ss1.length ss2.length ps) :
    costL cf ss1.reverse ss2.reverse (ps.reverse.map (over ss1.length ss2.length)) = costL cf ss1 ss2 ps := by
  unfold costL goneL comeL
  rw [List.length_reverse, List.length_reverse, List.map_map, List.map_map]
  have e1 : ps.reverse.map ((·.1) ∘ over ss1.length ss2.length) = (ps.map (·.1)).reverse.map (ss1.length + 1 - ·) := by rw [← List.map_reverse, List.map_map]; rfl
  have e2 : ps.reverse.map ((·.2) ∘ over ss1.length ss2.length) = (ps.map (·.2)).reverse.map (ss2.length + 1 - ·) := by rw [← List.map_reverse, List.map_map]; rfl
  rw [e1, e2, outL_rev (fun k hk => ?_), outL_rev (fun k hk => ?_), sumAt_rev (fun i hi => ?_), sumAt_rev (fun i hi => ?_)]
  · have := outL_mem.mp hi; omega
  · have := outL_mem.mp hi; omega
  · obtain ⟨q, hq, rfl⟩ := List.mem_map.mp hk
    have := h q hq; omega
  · obtain ⟨q, hq, rfl⟩ := List.mem_map.mp hk
    have := h q hq; omega
end XR
namespace XR
open PySem L2
theorem TxV.line {K : PySem.W.Frag} {H : Hp} {x : V} {ss : List Str} (h : TxV K H x ss) {s : Str} (hs : s ∈ ss) : isLine (.str s) = true := by
  obtain ⟨d, a, b, rfl⟩ := h
  unfold isText at b
  rw [Bool.and_eq_true, Bool.and_eq_true] at b
  have e := all_line (itemsOf d) b.2.2
  unfold strsOf at hs
  have : PyData.str s ∈ itemsOf d := by rw [e]; exact List.mem_map.mpr ⟨s, hs, rfl⟩
  exact List.all_eq_true.mp b.2.2 _ this
def spCostOf (K : PySem.W.Frag) (C : Addr) : Sp := fun vs H Q _ => ∃ (x1 x2 v c : V) (ss1 ss2 : List Str) (ps : List (Nat × Nat)) (cf : Str → Int × Int), vs = [x1, x2, v, c] ∧ TxV K H x1 ss1 ∧ TxV K H x2 ss2 ∧ DfV K H v ps ∧ IsDf ss1 ss2 ps ∧ CsV K C H c cf ∧
  ∀ H', Same H H' → Q (.int (costL cf ss1 ss2 ps)) H'
theorem intsV_map (l : List Nat) : intsV l = l.map fun i : Nat => V.int (i : Int) := rfl
end XR
namespace K14
open PySem L2 XR
abbrev sCostOf : Stmt := top 28
section
variable {P : Program} {w : World} {K : PySem.W.Frag} {mg : Str → Option Value} {base : Heap}
theorem scCostOf : FnScope ["old", "new", "diff", "costs", "gone", "come", "i", "j"] ["old", "new", "diff", "costs"] (defScope sCostOf) := ⟨rfl, rfl, rfl, by decide +kernel, rfl, by decide +kernel, by decide +kernel⟩
theorem ok_costOf {f fC CT CD fK fG fM fO fN C : Addr} {fd fdC fdK fdG fdM fdO fdN : FuncData} (F : Fun K "cost_of" "cost_of" sCostOf f fd) (T2 : Blt2 mg) (Ch : Chk P w K mg base fC CT CD fdC) (X : CsX K mg C)
    (FK : Fun K "check_costs" "check_costs" sChkC fK fdK) (GK : FnOk P w K mg base CX0 1 fK fdK ["costs"] (spChkC C)) (bK : Binds K fdK ["costs"] []) (mK : mg "check_costs" = some (.ref fK))
    (FG : Fun K "gone_lines" "gone_lines" sGone fG fdG) (GG : FnOk P w K mg base CX0 7 fG fdG ["old", "new", "diff"] (spNums K fun m _ ps => goneL m ps)) (bG : Binds K fdG ["old", "new", "diff"] []) (mG : mg "gone_lines" = some (.ref fG))
    (FM : Fun K "come_lines" "come_lines" sCome fM fdM) (GM : FnOk P w K mg base CX0 6 fM fdM ["old", "new", "diff"] (spNums K fun _ n ps => comeL n ps)) (bM : Binds K fdM ["old", "new", "diff"] []) (mM : mg "come_lines" = some (.ref fM))
    (GO : FnOk P w K mg base CX0 3 fO fdO ["self", "line"] (spCst K C (·.1))) (bO : Binds K fdO ["self", "line"] []) (mO : Meth K C "going" fO)
    (GN : FnOk P w K mg base CX0 3 fN fdN ["self", "line"] (spCst K C (·.2))) (bN : Binds K fdN ["self", "line"] []) (mN : Meth K C "coming" fN) :
    FnOk P w K mg base CX0 8 f fd ["old", "new", "diff", "costs"] (spCostOf K C) := by
  refine F.ok scCostOf (fun vs H Q E h => ?_) (fun cdv A outer s H vs Q E hr h => ?_)
  · obtain ⟨x1, x2, v, c, ss1, ss2, ps, cf, rfl, _⟩ := h
    rfl
  · obtain ⟨x1, x2, v, c, ss1, ss2, ps, cf, rfl, t1, t2, hv, hd, hc, z⟩ := h
    have hr3 := hr.mono (show 3 ≤ 7 by decide)
    refine ⟨_, pss_cons (ps_expr (pe_callS Ch.G (hr.mono (by decide)) rfl Ch.m Ch.F.kp Ch.b (fun σ => passF σ) (pa_cons (pv 0) (pa_cons (pv 1) (pa_cons (pv 2) pa_nil)))))
      (pss_cons (ps_expr (pe_call GK (hr.mono (by decide)) rfl mK FK.kp bK .nil pass0 (pa_cons (pv 3) pa_nil)))
      (pss_cons (ps_set (i := 4) scCostOf.nd rfl (.inl rfl) (pe_callB (cr_sum rfl) (by rfl) T2.sum (by decide +kernel) (pa_cons (pe_lc (own := [("i", 6)]) (g := gName 6) (tt := tYes)
          (te := tMeth C "going" (spCst K C (·.1)) [] E0 (tVar 3) (tCons (tOp (rIx K) (tVar 0) (tOp (rI0 fun i j => V.int (i - j)) (tVar 6) (tC (V.int 1)))) tNil)) rfl scCostOf.nd
          (pi_list (pe_call GG hr rfl mG FG.kp bG .nil pass0 (pa_cons (pv 0) (pa_cons (pv 1) (pa_cons (pv 2) pa_nil)))))
          (blkOk_by (own := [("i", 6)]) (N := ["old", "new", "diff", "costs", "gone", "come", "i", "j"]) (sc := defScope sCostOf) (by decide +kernel))
          (fun _ _ _ _ _ => pg_name (i := 6) scCostOf.nd rfl (.inl rfl)) (fun _ _ _ _ _ => pts_nil)
          (fun _ _ _ _ _ => pe_meth (pv 3) X.cl mO GO hr3 bO .nil pass0 (pa_cons (pe_ix ix_seq (pv 0) (pe_op op_sub (pv 6) pe_int) (fun _ _ => rfl)) pa_nil))) pa_nil)))
      (pss_cons (ps_set (i := 5) scCostOf.nd rfl (.inl rfl) (pe_callB (cr_sum rfl) (by rfl) T2.sum (by decide +kernel) (pa_cons (pe_lc (own := [("j", 7)]) (g := gName 7) (tt := tYes)
          (te := tMeth C "coming" (spCst K C (·.2)) [] E0 (tVar 3) (tCons (tOp (rIx K) (tVar 1) (tOp (rI0 fun i j => V.int (i - j)) (tVar 7) (tC (V.int 1)))) tNil)) rfl scCostOf.nd
          (pi_list (pe_call GM (hr.mono (by decide)) rfl mM FM.kp bM .nil pass0 (pa_cons (pv 0) (pa_cons (pv 1) (pa_cons (pv 2) pa_nil)))))
          (blkOk_by (own := [("j", 7)]) (N := ["old", "new", "diff", "costs", "gone", "come", "i", "j"]) (sc := defScope sCostOf) (by decide +kernel))
          (fun _ _ _ _ _ => pg_name (i := 7) scCostOf.nd rfl (.inl rfl)) (fun _ _ _ _ _ => pts_nil)
          (fun _ _ _ _ _ => pe_meth (pv 3) X.cl mN GN hr3 bN .nil pass0 (pa_cons (pe_ix ix_seq (pv 1) (pe_op op_sub (pv 7) pe_int) (fun _ _ => rfl)) pa_nil))) pa_nil)))
      (pss_one (ps_ret (pe_op op_add (pv 4) (pv 5))))))), ?_⟩
    have l60 := t1.len
    have l61 := t2.len
    refine ⟨_, rfl, _, rfl, _, rfl, ?_⟩
    dsimp only [tNil]
    refine chk_ok t1 t2 hv hd fun H1 s1 => ?_
    have hc1 := hc.same s1
    obtain ⟨p, pl, o, rfl, ⟨dx, q, d, kvs, hp1, _⟩, _⟩ := id hc1
    refine ⟨_, rfl, p, dx, _, rfl, hp1, ?_⟩
    have part : ∀ (g : Int × Int → Int) (x : V) (ss : List Str) (l : List Nat) (H2 : Hp) (D : Addr) (Qd : Hp → Prop), True := fun _ _ _ _ _ _ _ => trivial
    refine ⟨_, rfl, _, rfl, _, rfl, x1, x2, v, ss1, ss2, ps, rfl, t1.same s1, t2.same s1, hv.same s1, hd, fun l H2 s2 nl hl => ?_⟩
    have s12 := s1.trans s2
    have hp2 := s2 _ _ hp1
    have glen := outL_len ss1.length (ps.map (·.1))
    refine ⟨l, rfl, ⟨_, SqL.of hl⟩, fun D nD => ?_⟩
    have sD := same_upd (o := .lst []) nD
    refine lc_list (K := K) (a := l) (xs := intsV (goneL ss1.length ps)) (fun i H' => Same H2 H' ∧ H' D = some (.lst ((((goneL ss1.length ps).take i).map fun i => (cf (ss1.getD (i - 1) "")).1).map V.int))) ⟨sD, upd_same⟩ (fun i H' _ hh => SqL.of (hh.1 _ _ hl)) ?_ ?_
    · rintro i x H' hx ⟨sm, hD⟩
      obtain ⟨k, hk, rfl⟩ : ∃ k : Nat, (goneL ss1.length ps)[i]? = some k ∧ x = V.int (k : Int) := by
        unfold intsV at hx
        rw [List.getElem?_map] at hx
        obtain ⟨k, e1, e2⟩ := Option.map_eq_some_iff.mp hx
        exact ⟨k, e1, e2.symm⟩
      obtain ⟨k1, k2, _⟩ := outL_mem.mp (List.mem_of_getElem? hk)
      have hlt : k - 1 < ss1.length := by omega
      refine ⟨rfl, ?_⟩
      unfold tYes
      dsimp only
      rw [if_pos rfl]
      refine ⟨_, rfl, p, dx, _, rfl, sm _ _ hp2, rfl, _, rfl, _, rfl, _, _, rfl, rfl, ?_⟩
      refine (((t1.same s12).same sm).a).ix (i := k - 1) (List.getElem?_eq_getElem hlt) (by omega) ?_
      refine ⟨_, ss1[k - 1], cf, rfl, (hc.same s12).same sm, t1.line (List.getElem_mem hlt), fun H3 s3 => ?_⟩
      refine ⟨_, s3 _ _ hD, ?_, fun b o' h => ?_, ?_⟩
      · rw [List.length_map, List.length_map, List.length_take]
        unfold goneL
        exact Nat.lt_of_le_of_lt (show min i _ ≤ 60 by omega) (by decide)
      · rw [upd_ne (ne_of_none h nD)]
        exact s3 _ _ (sm _ _ h)
      · rw [upd_same, List.take_add_one, hk, List.map_append, List.map_append]
        show some (HO.lst (_ ++ [V.int (cf ss1[k - 1]).1])) = some (HO.lst (_ ++ [V.int (cf (ss1.getD (k - 1) "")).1]))
        rw [List.getD_eq_getElem?_getD, List.getElem?_eq_getElem hlt]
        rfl
    rintro H3 ⟨s3, hD⟩
    rw [show (intsV (goneL ss1.length ps)).length = (goneL ss1.length ps).length from List.length_map .., List.take_length] at hD
    refine ⟨D, _, rfl, SqL.of hD, ?_⟩
    have s13 := s12.trans s3
    have hp3 := s3 _ _ hp2
    refine ⟨_, rfl, _, rfl, _, rfl, x1, x2, v, ss1, ss2, ps, rfl, t1.same s13, t2.same s13, hv.same s13, hd, fun l2 H4 s4 nl2 hl2 => ?_⟩
    have s14 := s13.trans s4
    have hp4 := s4 _ _ hp3
    have clen := outL_len ss2.length (ps.map (·.2))
    refine ⟨l2, rfl, ⟨_, SqL.of hl2⟩, fun D2 nD2 => ?_⟩
    have sD2 := same_upd (o := .lst []) nD2
    refine lc_list (K := K) (a := l2) (xs := intsV (comeL ss2.length ps)) (fun i H' => Same H4 H' ∧ H' D2 = some (.lst ((((comeL ss2.length ps).take i).map fun i => (cf (ss2.getD (i - 1) "")).2).map V.int))) ⟨sD2, upd_same⟩ (fun i H' _ hh => SqL.of (hh.1 _ _ hl2)) ?_ ?_
    · rintro i x H' hx ⟨sm, hD⟩
      obtain ⟨k, hk, rfl⟩ : ∃ k : Nat, (comeL ss2.length ps)[i]? = some k ∧ x = V.int (k : Int) := by
        unfold intsV at hx
        rw [List.getElem?_map] at hx
        obtain ⟨k, e1, e2⟩ := Option.map_eq_some_iff.mp hx
        exact ⟨k, e1, e2.symm⟩
      obtain ⟨k1, k2, _⟩ := outL_mem.mp (List.mem_of_getElem? hk)
      have hlt : k - 1 < ss2.length := by omega
      refine ⟨rfl, ?_⟩
      unfold tYes
      dsimp only
      rw [if_pos rfl]
      refine ⟨_, rfl, p, dx, _, rfl, sm _ _ hp4, rfl, _, rfl, _, rfl, _, _, rfl, rfl, ?_⟩
      refine (((t2.same s14).same sm).a).ix (i := k - 1) (List.getElem?_eq_getElem hlt) (by omega) ?_
      refine ⟨_, ss2[k - 1], cf, rfl, (hc.same s14).same sm, t2.line (List.getElem_mem hlt), fun H5 s5 => ?_⟩
      refine ⟨_, s5 _ _ hD, ?_, fun b o' h => ?_, ?_⟩
      · rw [List.length_map, List.length_map, List.length_take]
        unfold comeL
        exact Nat.lt_of_le_of_lt (show min i _ ≤ 60 by omega) (by decide)
      · rw [upd_ne (ne_of_none h nD2)]
        exact s5 _ _ (sm _ _ h)
      · rw [upd_same, List.take_add_one, hk, List.map_append, List.map_append]
        show some (HO.lst (_ ++ [V.int (cf ss2[k - 1]).2])) = some (HO.lst (_ ++ [V.int (cf (ss2.getD (k - 1) "")).2]))
        rw [List.getD_eq_getElem?_getD, List.getElem?_eq_getElem hlt]
        rfl
    rintro H5 ⟨s5, hD2⟩
    rw [show (intsV (comeL ss2.length ps)).length = (comeL ss2.length ps).length from List.length_map .., List.take_length] at hD2
    refine ⟨D2, _, rfl, SqL.of hD2, ?_⟩
    exact ⟨_, rfl, _, rfl, _, _, rfl, rfl, z H5 (s14.trans s5)⟩
end
end K14
namespace XR
open PySem L2
def blkD (bs : List Four) : PyData := .list (bs.map fourD)
theorem shw_four {b : Four} (h : In4 60 60 b) : Shw 19 2 (fourD b) := by
  refine Shw.tuple (n := 2) (k := 1) (m := 4) (fun d hd => ?_) (Nat.le_refl 4)
  obtain ⟨h1, h2, h3, h4⟩ := h
  simp only [List.mem_cons, List.not_mem_nil, or_false] at hd
  rcases hd with rfl | rfl | rfl | rfl
  · exact shw_num h1
  · exact shw_num h2
  · exact shw_num h3
  · exact shw_num h4
theorem shw_blk {bs : List Four} (h : ∀ b ∈ bs, In4 60 60 b) (l : bs.length ≤ 61) : Shw 1283 3 (blkD bs) := by
  refine Shw.list (n := 19) (k := 2) (m := 61) (fun d hd => ?_) (by rw [List.length_map]; exact l)
  obtain ⟨b, hb, rfl⟩ := List.mem_map.mp hd
  exact shw_four (h b hb)
theorem dq_blk {K : PySem.W.Frag} {H : Hp} {l : Addr} {rs : List Addr} {bs : List Four} (h : H l = some (.lst (refs rs))) (k : BsAt H rs bs) : Dq K H (.ref l) (blkD bs) := by
  have key : ∀ (rs : List Addr) (bs : List Four), rs.length = bs.length → (∀ (i : Nat) (b : Four), bs[i]? = some b → ∃ r : Addr, rs[i]? = some r ∧ H r = some (fourV b)) → DqAll K H (refs rs) (bs.map fourD) := by
    intro rs
    induction rs with
    | nil =>
      intro bs hl _
      cases bs with
      | nil => exact .nil
      | cons p ps => simp at hl
    | cons r rs ih =>
      intro bs hl hq
      cases bs with
      | nil => simp at hl
      | cons p ps =>
        obtain ⟨r', e1, e2⟩ := hq 0 p rfl
        obtain rfl : r = r' := Option.some.inj e1
        exact .cons (.tup (.inl (.inl e2)) (.cons (.int _) (.cons (.int _) (.cons (.int _) (.cons (.int _) .nil))))) (ih ps (by simpa using hl) fun i q h => hq (i + 1) q h)
  exact .lst (SqL.of h) (key rs bs k.1 k.2)
theorem In4.sw {m n : Nat} {b : Four} (h : In4 m n b) : In4 n m (sw4 b) := ⟨h.2.2.1, h.2.2.2, h.1, h.2.1⟩
theorem In4.ov {m n : Nat} {b : Four} : In4 m n (ov4 m n b) := ⟨Nat.sub_le _ _, Nat.sub_le _ _, Nat.sub_le _ _, Nat.sub_le _ _⟩
theorem In4.le {m n : Nat} {b : Four} (h : In4 m n b) (h1 : m ≤ 60) (h2 : n ≤ 60) : In4 60 60 b := ⟨Nat.le_trans h.1 h1, Nat.le_trans h.2.1 h1, Nat.le_trans h.2.2.1 h2, Nat.le_trans h.2.2.2 h2⟩
theorem BsAt.get {H : Hp} {rs : List Addr} {bs : List Four} {i : Nat} {x : V} (h : BsAt H rs bs) (hx : (refs rs)[i]? = some x) : ∃ r b, bs[i]? = some b ∧ x = V.ref r ∧ H r = some (fourV b) := by
  unfold refs at hx
  rw [List.getElem?_map] at hx
  obtain ⟨r, e1, rfl⟩ := Option.map_eq_some_iff.mp hx
  have hi : i < bs.length := by rw [← h.1]; exact (List.getElem?_eq_some_iff.mp e1).1
  obtain ⟨b, hb⟩ : ∃ b, bs[i]? = some b := ⟨_, List.getElem?_eq_getElem hi⟩
  obtain ⟨r1, er1, hr1⟩ := h.2 i b hb
  rw [e1] at er1
  cases er1
  exact ⟨r, b, hb, rfl, hr1⟩
theorem nb_true (v : V) : (!decide (v = v)) = false := by rw [decide_eq_true rfl]; rfl
theorem revWd {ss : List Str} (w : Wd ss) : Wd ss.reverse := fun s hs => w s (List.mem_reverse.mp hs)
/-- a law's look at a diff and costs -/
def spLook (K : PySem.W.Frag) (C : Addr) : Sp := fun vs H Q _ => ∃ (x1 x2 v c : V) (ss1 ss2 : List Str) (ps : List (Nat × Nat)) (cf : Str → Int × Int), vs = [x1, x2, v, c] ∧ LsAt H x1 ss1 ∧ LsAt H x2 ss2 ∧ DfV K H v ps ∧ IsDf ss1 ss2 ps ∧ CsV K C H c cf ∧
  ∀ H', Same H H' → Q (.bl true) H'
end XR
namespace XR
open PySem L2
def blkB (b : Nat × Nat × Nat × Nat) : Bool := decide (b.1 < b.2.1) || decide (b.2.2.1 < b.2.2.2)
theorem blocks_filter (m n : Nat) (ps : List (Nat × Nat)) : blocksL m n ps = (gapsL m n ps).filter blkB := rfl
end XR
namespace K14
open PySem L2 XR
section
variable {P : Program} {w : World} {K : PySem.W.Frag} {mg : Str → Option Value} {base : Heap}
theorem scBlocks : FnScope ["old", "new", "diff", "a", "b", "c", "d"] ["old", "new", "diff"] (defScope sBlocks) := ⟨rfl, rfl, rfl, by decide +kernel, rfl, by decide +kernel, by decide +kernel⟩
theorem ok_blocks {f fC CT CD fG : Addr} {fd fdC fdG : FuncData} (F : Fun K "blocks_of" "blocks_of" sBlocks f fd) (C : Chk P w K mg base fC CT CD fdC)
    (FG : Fun K "gaps_of" "gaps_of" sGaps fG fdG) (GG : FnOk P w K mg base CX0 1 fG fdG ["old", "new", "diff"] (spFours K gapsL)) (bG : Binds K fdG ["old", "new", "diff"] []) (mG : mg "gaps_of" = some (.ref fG)) : FnOk P w K mg base CX0 6 f fd ["old", "new", "diff"] (spFours K blocksL) := by
  refine F.ok scBlocks (fun vs H Q E h => ?_) (fun cdv A outer s H vs Q E hr h => ?_)
  · obtain ⟨x1, x2, v, ss1, ss2, ps, rfl, _⟩ := h
    rfl
  · obtain ⟨x1, x2, v, ss1, ss2, ps, rfl, t1, t2, hv, hd, z⟩ := h
    refine ⟨_, pss_cons (ps_expr (pe_callS C.G hr rfl C.m C.F.kp C.b (fun σ => passF σ) (pa_cons (pv 0) (pa_cons (pv 1) (pa_cons (pv 2) pa_nil)))))
      (pss_one (ps_ret (pe_lc (own := [("a", 3), ("b", 4), ("c", 5), ("d", 6)]) (g := gTup K 4 (gCons (gName 3) (gCons (gName 4) (gCons (gName 5) (gCons (gName 6) gNil))))) (tt := tOr (tTest (tOp (rI0 fun i j => V.bl (decide (i < j))) (tVar 3) (tVar 4))) (tTest (tOp (rI0 fun i j => V.bl (decide (i < j))) (tVar 5) (tVar 6))))
        (te := tTup (tCons (tVar 3) (tCons (tVar 4) (tCons (tVar 5) (tCons (tVar 6) tNil))))) rfl scBlocks.nd
        (pi_list (pe_call GG (hr.mono (by decide)) rfl mG FG.kp bG .nil pass0 (pa_cons (pv 0) (pa_cons (pv 1) (pa_cons (pv 2) pa_nil)))))
        (blkOk_by (own := [("a", 3), ("b", 4), ("c", 5), ("d", 6)]) (N := ["old", "new", "diff", "a", "b", "c", "d"]) (sc := defScope sBlocks) (by decide +kernel))
        (fun _ _ _ _ _ => pg_tup rfl (pgs_cons (pg_name (i := 3) scBlocks.nd rfl (.inl rfl)) (pgs_cons (pg_name (i := 4) scBlocks.nd rfl (.inl rfl)) (pgs_cons (pg_name (i := 5) scBlocks.nd rfl (.inl rfl)) (pgs_cons (pg_name (i := 6) scBlocks.nd rfl (.inl rfl)) pgs_nil)))))
        (fun _ _ _ _ _ => pts_one (PW.pt (pw_or (pt_cmpR op_lt (pv 3) (pv 4) (nomark _)) (pw_or1 (pt_cmpR op_lt (pv 5) (pv 6) (nomark _))))))
        (fun _ _ _ _ _ => pe_tup (pa_cons (pv 3) (pa_cons (pv 4) (pa_cons (pv 5) (pa_cons (pv 6) pa_nil)))))))), ?_⟩
    have l60 := t1.len
    have dl := df_len hd
    refine ⟨_, rfl, _, rfl, _, rfl, ?_⟩
    dsimp only [tNil]
    refine chk_ok t1 t2 hv hd fun H1 s1 => ?_
    refine ⟨_, rfl, _, rfl, _, rfl, x1, x2, v, ss1, ss2, ps, rfl, t1.same s1, t2.same s1, hv.same s1, hd, fun l rs H2 s2 nl hl hb => ?_⟩
    have s12 := s1.trans s2
    have glen : (gapsL ss1.length ss2.length ps).length = ps.length + 1 := gaps_len _ _ _ _
    refine ⟨l, rfl, ⟨_, SqL.of hl⟩, fun D nD => ?_⟩
    have sD := same_upd (o := .lst []) nD
    refine lc_list (K := K) (a := l) (xs := refs rs) (fun i H' => Same H2 H' ∧ ∃ qs, H' D = some (.lst (refs qs)) ∧ BsAt H' qs (((gapsL ss1.length ss2.length ps).take i).filter blkB)) ⟨sD, [], upd_same, .nil⟩ (fun i H' _ hh => SqL.of (hh.1 _ _ hl)) ?_ ?_
    · rintro i x H' hx ⟨sm, qs, hD, hk⟩
      obtain ⟨r0, er0, rfl⟩ : ∃ r, rs[i]? = some r ∧ x = V.ref r := by
        unfold refs at hx
        rw [List.getElem?_map] at hx
        obtain ⟨r, e1, e2⟩ := Option.map_eq_some_iff.mp hx
        exact ⟨r, e1, e2.symm⟩
      have hi : i < (gapsL ss1.length ss2.length ps).length := by rw [← hb.1]; exact (List.getElem?_eq_some_iff.mp er0).1
      obtain ⟨b, hb1⟩ : ∃ b, (gapsL ss1.length ss2.length ps)[i]? = some b := ⟨_, List.getElem?_eq_getElem hi⟩
      obtain ⟨r1, er1, hr1⟩ := hb.2 i b hb1
      rw [er0] at er1
      cases er1
      have hr2 : SqT K H' r0 _ := .inl (.inl (sm _ _ hr1))
      have tk : ((gapsL ss1.length ss2.length ps).take (i + 1)).filter blkB = ((gapsL ss1.length ss2.length ps).take i).filter blkB ++ (if blkB b = true then [b] else []) := by
        rw [List.take_add_one, hb1, List.filter_append]
        congr 1
        show List.filter blkB [b] = _
        rw [List.filter_cons]
        rfl
      have klen : qs.length ≤ 61 := by
        rw [hk.1]
        have := List.length_filter_le blkB ((gapsL ss1.length ss2.length ps).take i)
        rw [List.length_take] at this
        omega
      have mk : blkB b = true → ∀ u, H' u = none → ∃ acc, upd H' u (.tup [V.int (b.1 : Int), V.int (b.2.1 : Int), V.int (b.2.2.1 : Int), V.int (b.2.2.2 : Int)]) D = some (.lst acc) ∧ acc.length < sizeLine ∧ Same H2 (upd (upd H' u (.tup [V.int (b.1 : Int), V.int (b.2.1 : Int), V.int (b.2.2.1 : Int), V.int (b.2.2.2 : Int)])) D (.lst (acc ++ [V.ref u]))) ∧ ∃ qs, upd (upd H' u (.tup [V.int (b.1 : Int), V.int (b.2.1 : Int), V.int (b.2.2.1 : Int), V.int (b.2.2.2 : Int)])) D (.lst (acc ++ [V.ref u])) D = some (.lst (refs qs)) ∧ BsAt (upd (upd H' u (.tup [V.int (b.1 : Int), V.int (b.2.1 : Int), V.int (b.2.2.1 : Int), V.int (b.2.2.2 : Int)])) D (.lst (acc ++ [V.ref u]))) qs (((gapsL ss1.length ss2.length ps).take (i + 1)).filter blkB) := fun eb u nu => by
        obtain ⟨k1, k2, k3⟩ := bsStep (b := b) hD hk nu
        refine ⟨_, k1, ?_, fun b' o' h => ?_, qs ++ [u], k3, ?_⟩
        · unfold refs
          rw [List.length_map]
          exact Nat.lt_of_le_of_lt klen (by decide)
        · rw [upd_ne (ne_of_none h nD)]
          exact same_upd nu _ _ (sm _ _ h)
        · rw [tk, if_pos eb]
          exact k2
      refine ⟨r0, _, rfl, hr2, rfl, _, _, rfl, _, _, rfl, _, _, rfl, _, _, rfl, rfl, wipe4, ?_⟩
      refine ⟨_, rfl, _, rfl, _, _, rfl, rfl, _, rfl, ?_⟩
      by_cases c1 : b.1 < b.2.1
      · rw [decide_eq_true (show (b.1 : Int) < (b.2.1 : Int) by omega)]
        refine iteT (iteT ⟨_, rfl, _, rfl, _, rfl, _, rfl, ll20 (by show 4 ≤ 20; decide), fun u nu => mk ?_ u nu⟩)
        unfold blkB; rw [decide_eq_true c1]; rfl
      · rw [decide_eq_false (show ¬ (b.1 : Int) < (b.2.1 : Int) by omega)]
        refine iteF ⟨_, rfl, _, rfl, _, _, rfl, rfl, _, rfl, ?_⟩
        by_cases c2 : b.2.2.1 < b.2.2.2
        · rw [decide_eq_true (show (b.2.2.1 : Int) < (b.2.2.2 : Int) by omega)]
          refine iteT ⟨_, rfl, _, rfl, _, rfl, _, rfl, ll20 (by show 4 ≤ 20; decide), fun u nu => mk ?_ u nu⟩
          unfold blkB; rw [decide_eq_true c2, Bool.or_true]
        · rw [decide_eq_false (show ¬ (b.2.2.1 : Int) < (b.2.2.2 : Int) by omega)]
          refine iteF ⟨sm, qs, hD, ?_⟩
          rw [tk, if_neg (by unfold blkB; rw [decide_eq_false c1, decide_eq_false c2]; decide), List.append_nil]
          exact hk
    · rintro H' ⟨sm, qs, hD, hk⟩
      have e1 : (refs rs).length = (gapsL ss1.length ss2.length ps).length := by unfold refs; rw [List.length_map, hb.1]
      rw [e1, List.take_length] at hk
      exact z D qs H' (s12.trans sm) (none_before s12 nD) hD hk
end
end K14
namespace XR
open PySem L2
def ivL (a b : Nat) : List Nat := List.range' (a + 1) (b - a)
theorem ivL_mem {a b i : Nat} : i ∈ ivL a b ↔ a < i ∧ i ≤ b := by
  unfold ivL
  rw [List.mem_range'_1]
  omega
theorem ivL_app {a b c : Nat} (h1 : a ≤ b) (h2 : b ≤ c) : ivL a b ++ ivL b c = ivL a c := by
  unfold ivL
  have e : b + 1 = a + 1 + (b - a) := by omega
  rw [e, List.range'_append_1]
  congr 1
  omega
theorem ivL_one {i : Nat} (h : 1 ≤ i) : ivL (i - 1) i = [i] := by
  unfold ivL
  rw [show i - (i - 1) = 1 by omega, show i - 1 + 1 = i by omega]
  rfl
theorem ivL_nil {a b : Nat} (h : b ≤ a) : ivL a b = [] := by unfold ivL; rw [show b - a = 0 by omega]; rfl
theorem ivL_zero (m : Nat) : ivL 0 m = (List.range m).map (· + 1) := by
  unfold ivL
  rw [List.range'_eq_map_range]
  refine List.map_congr_left fun i _ => ?_
  omega
theorem ivL_len (a b : Nat) : (ivL a b).length = b - a := by unfold ivL; rw [List.length_range']
theorem rg_iv (a b : Nat) : rgV ((a : Int) + 1) ((b : Int) + 1) = intsV (ivL a b) := by
  unfold rgV intsV ivL
  rw [List.range'_eq_map_range, List.map_map, show ((b : Int) + 1 - ((a : Int) + 1)).toNat = b - a by omega]
  refine List.map_congr_left fun i _ => ?_
  show V.int _ = V.int _
  congr 1
theorem keep_all {l ks : List Nat} (h : ∀ i ∈ l, i ∉ ks) : l.filter (fun i => !decide (i ∈ ks)) = l :=
  List.filter_eq_self.mpr fun i hi => by rw [decide_eq_false (h i hi)]; rfl
theorem go_gaps (m n : Nat) : ∀ (ps : List (Nat × Nat)) (s : Nat × Nat), s.1 ≤ m → (∀ q ∈ ps, s.1 < q.1 ∧ q.1 ≤ m) → ps.Pairwise (fun x y => x.1 < y.1) →
    (gapsFrom m n s ps).flatMap (fun b => ivL b.1 b.2.1) = (ivL s.1 m).filter fun i => !decide (i ∈ ps.map (·.1))
  | [], (a, c), _, _, _ => by
    rw [keep_all (fun i _ h => by simp at h)]
    show ivL a m ++ [] = ivL a m
    rw [List.append_nil]
  | (i, j) :: ps, (a, c), h1, h2, h3 => by
    have hi := h2 (i, j) (List.mem_cons_self ..)
    dsimp only at hi
    obtain ⟨p1, p2⟩ := List.pairwise_cons.mp h3
    have ih := go_gaps m n ps (i, j) hi.2 (fun q hq => ⟨p1 q hq, (h2 q (List.mem_cons_of_mem _ hq)).2⟩) p2
    show ivL a (i - 1) ++ (gapsFrom m n (i, j) ps).flatMap _ = _
    rw [ih, ← ivL_app (show a ≤ i - 1 by omega) (show i - 1 ≤ m by omega), ← ivL_app (show i - 1 ≤ i by omega) hi.2, ivL_one (by omega), List.filter_append, List.filter_append]
    have later : ∀ k ∈ ps.map (·.1), i < k := fun k hk => by
      obtain ⟨q, hq, rfl⟩ := List.mem_map.mp hk
      exact p1 q hq
    rw [keep_all (l := ivL a (i - 1)) (fun k hk hm => by
      have := ivL_mem.mp hk
      rcases List.mem_cons.mp hm with e | e
      · dsimp only at e; omega
      · have := later k e; omega)]
    congr 1
    have e2 : List.filter (fun k => !decide (k ∈ List.map (·.1) ((i, j) :: ps))) [i] = [] := by
      rw [List.filter_cons, decide_eq_true (show i ∈ List.map (·.1) ((i, j) :: ps) from List.mem_cons_self ..)]
      rfl
    rw [e2, List.nil_append]
    refine List.filter_congr fun k hk => ?_
    have := ivL_mem.mp hk
    congr 1
    rw [decide_eq_decide]
    constructor
    · exact fun h => List.mem_cons_of_mem _ h
    · intro h
      rcases List.mem_cons.mp h with e | e
      · dsimp only at e; omega
      · exact e
theorem come_gaps (m n : Nat) : ∀ (ps : List (Nat × Nat)) (s : Nat × Nat), s.2 ≤ n → (∀ q ∈ ps, s.2 < q.2 ∧ q.2 ≤ n) → ps.Pairwise (fun x y => x.2 < y.2) →
    (gapsFrom m n s ps).flatMap (fun b => ivL b.2.2.1 b.2.2.2) = (ivL s.2 n).filter fun i => !decide (i ∈ ps.map (·.2))
  | [], (a, c), _, _, _ => by
    rw [keep_all (fun i _ h => by simp at h)]
    show ivL c n ++ [] = ivL c n
    rw [List.append_nil]
  | (i, j) :: ps, (a, c), h1, h2, h3 => by
    have hi := h2 (i, j) (List.mem_cons_self ..)
    dsimp only at hi
    obtain ⟨p1, p2⟩ := List.pairwise_cons.mp h3
    have ih := come_gaps m n ps (i, j) hi.2 (fun q hq => ⟨p1 q hq, (h2 q (List.mem_cons_of_mem _ hq)).2⟩) p2
    show ivL c (j - 1) ++ (gapsFrom m n (i, j) ps).flatMap _ = _
    rw [ih, ← ivL_app (show c ≤ j - 1 by omega) (show j - 1 ≤ n by omega), ← ivL_app (show j - 1 ≤ j by omega) hi.2, ivL_one (by omega), List.filter_append, List.filter_append]
    have later : ∀ k ∈ ps.map (·.2), j < k := fun k hk => by
      obtain ⟨q, hq, rfl⟩ := List.mem_map.mp hk
      exact p1 q hq
    rw [keep_all (l := ivL c (j - 1)) (fun k hk hm => by
      have := ivL_mem.mp hk
      rcases List.mem_cons.mp hm with e | e
      · dsimp only at e; omega
      · have := later k e; omega)]
    congr 1
    have e2 : List.filter (fun k => !decide (k ∈ List.map (·.2) ((i, j) :: ps))) [j] = [] := by
      rw [List.filter_cons, decide_eq_true (show j ∈ List.map (·.2) ((i, j) :: ps) from List.mem_cons_self ..)]
      rfl
    rw [e2, List.nil_append]
    refine List.filter_congr fun k hk => ?_
    have := ivL_mem.mp hk
    congr 1
    rw [decide_eq_decide]
    constructor
    · exact fun h => List.mem_cons_of_mem _ h
    · intro h
      rcases List.mem_cons.mp h with e | e
      · dsimp only at e; omega
      · exact e
theorem flat_filter {α β : Type} {f : α → List β} {p : α → Bool} : ∀ {l : List α}, (∀ b ∈ l, p b = false → f b = []) → (l.filter p).flatMap f = l.flatMap f
  | [], _ => rfl
  | a :: l, h => by
    rw [List.filter_cons, List.flatMap_cons]
    have ih := flat_filter (f := f) (p := p) (l := l) fun b hb => h b (List.mem_cons_of_mem _ hb)
    cases e : p a with
    | true => rw [if_pos rfl, List.flatMap_cons, ih]
    | false => rw [if_neg (by decide), ih, h a (List.mem_cons_self ..) e, List.nil_append]
theorem blk_no {b : Four} (h : blkB b = false) : b.2.1 ≤ b.1 ∧ b.2.2.2 ≤ b.2.2.1 := by
  unfold blkB at h
  rw [Bool.or_eq_false_iff, decide_eq_false_iff_not, decide_eq_false_iff_not] at h
  omega
theorem go_blocks {m n : Nat} {ps : List (Nat × Nat)} (r : Ris ps) (b : Bd m n ps) : (blocksL m n ps).flatMap (fun b => ivL b.1 b.2.1) = goneL m ps := by
  rw [blocks_filter, flat_filter fun b _ h => ivL_nil (blk_no h).1]
  unfold gapsL
  rw [go_gaps m n ps (0, 0) (Nat.zero_le _) (fun q hq => ⟨(b q hq).1, (b q hq).2.1⟩) (r.imp fun h => h.1)]
  unfold goneL outL
  rw [show ivL ((0, 0) : Nat × Nat).1 m = ivL 0 m from rfl, ivL_zero]
theorem come_blocks {m n : Nat} {ps : List (Nat × Nat)} (r : Ris ps) (b : Bd m n ps) : (blocksL m n ps).flatMap (fun b => ivL b.2.2.1 b.2.2.2) = comeL n ps := by
  rw [blocks_filter, flat_filter fun b _ h => ivL_nil (blk_no h).2]
  unfold gapsL
  rw [come_gaps m n ps (0, 0) (Nat.zero_le _) (fun q hq => ⟨(b q hq).2.2.1, (b q hq).2.2.2⟩) (r.imp fun h => h.2)]
  unfold comeL outL
  rw [show ivL ((0, 0) : Nat × Nat).2 n = ivL 0 n from rfl, ivL_zero]
def spLBlocks (K : PySem.W.Frag) : Sp := fun vs H Q _ => ∃ (x1 x2 v : V) (ss1 ss2 : List Str) (ps : List (Nat × Nat)), vs = [x1, x2, v] ∧ TxV K H x1 ss1 ∧ TxV K H x2 ss2 ∧ DfV K H v ps ∧ IsDf ss1 ss2 ps ∧
  ∀ l rs H', Same H H' → H l = none → H' l = some (.lst (refs rs)) → BsAt H' rs (blocksL ss1.length ss2.length ps) → Q (.ref l) H'
def spByB : Sp := fun vs H Q _ => ∃ (l : Addr) (rs : List Addr) (bs : List Four), vs = [.ref l] ∧ H l = some (.lst (refs rs)) ∧ BsAt H rs bs ∧ bs.length ≤ 61 ∧ (∀ b ∈ bs, In4 60 60 b) ∧ (bs.flatMap fun b => ivL b.1 b.2.1).length ≤ 60 ∧ (bs.flatMap fun b => ivL b.2.2.1 b.2.2.2).length ≤ 60 ∧
  ∀ p g c H', Same H H' → H' p = some (.lst [.ref g, .ref c]) → H' g = some (.lst (intsV (bs.flatMap fun b => ivL b.1 b.2.1))) → H' c = some (.lst (intsV (bs.flatMap fun b => ivL b.2.2.1 b.2.2.2))) → g ≠ c → H p = none → H g = none → H c = none → Q (.ref p) H'
end XR
namespace K14
open PySem L2 XR
abbrev sLBlocks : Stmt := top 44
abbrev sByB : Stmt := top 46
def Blt.repr {mg : Str → Option Value} (T : Blt mg) : mg "repr" = none := T.all _ (by decide)
def Blt.tuple {mg : Str → Option Value} (T : Blt mg) : mg "tuple" = none := T.all _ (by decide)
def Blt.list {mg : Str → Option Value} (T : Blt mg) : mg "list" = none := T.all _ (by decide)
section
variable {P : Program} {w : World} {K : PySem.W.Frag} {mg : Str → Option Value} {base : Heap}
theorem scByB : FnScope ["_law_blocks_here", "_law_going", "_law_coming", "_law_a", "_law_b", "_law_c", "_law_d"] ["_law_blocks_here"] (defScope sByB) := ⟨rfl, rfl, rfl, by decide +kernel, rfl, by decide +kernel, by decide +kernel⟩
theorem ok_byB {f : Addr} {fd : FuncData} (F : Fun K "_law_by_blocks" "_law_by_blocks" sByB f fd) (T : Blt mg) : FnOk P w K mg base CX0 1 f fd ["_law_blocks_here"] spByB := by
  refine F.ok scByB (fun vs H Q E h => ?_) (fun cdv A outer s H vs Q E hr h => ?_)
  · obtain ⟨l, rs, bs, rfl, _⟩ := h
    rfl
  · obtain ⟨l, rs, bs, rfl, hl, hb, blen, bin, n1, n2, z⟩ := h
    refine ⟨_, pss_cons (ps_par (i := 1) (j := 2) rfl scByB.nd rfl rfl (by decide) rfl rfl (pa_cons (pe_lst pa_nil) (pa_cons (pe_lst pa_nil) pa_nil)) rfl)
      (pss_cons (ps_for PassesOwn.never rfl (pi_list (pv 0)) (pg_tup rfl (pgs_cons (pg_name (i := 3) scByB.nd rfl (.inl rfl)) (pgs_cons (pg_name (i := 4) scByB.nd rfl (.inl rfl)) (pgs_cons (pg_name (i := 5) scByB.nd rfl (.inl rfl)) (pgs_cons (pg_name (i := 6) scByB.nd rfl (.inl rfl)) pgs_nil)))))
        (pss_cons (ps_set (i := 1) scByB.nd rfl (.inl rfl) (pe_op op_cat (pv 1) (pe_listRg rfl (by rfl) T.list (prg_2 (by rfl) T.range (pe_op op_add (pv 3) pe_int) (pe_op op_add (pv 4) pe_int)))))
        (pss_one (ps_set (i := 2) scByB.nd rfl (.inl rfl) (pe_op op_cat (pv 2) (pe_listRg rfl (by rfl) T.list (prg_2 (by rfl) T.range (pe_op op_add (pv 5) pe_int) (pe_op op_add (pv 6) pe_int))))))))
      (pss_one (ps_ret (pe_lst (pa_cons (pv 1) (pa_cons (pv 2) pa_nil)))))), ?_⟩
    refine ⟨ll20 (by decide), fun g0 ng => ⟨ll20 (by decide), fun c0 nc => ?_⟩⟩
    have sg := same_upd (o := .lst []) ng
    have sc := same_upd (o := .lst []) nc
    have hg0 := sc _ _ (upd_same (H := H) (a := g0) (o := .lst []))
    have hc0 := upd_same (H := upd H g0 (.lst [])) (a := c0) (o := .lst [])
    have s0 := sg.trans sc
    have gc0 : g0 ≠ c0 := fun e => by rw [← e, upd_same] at nc; cases nc
    have nc' : H c0 = none := by rw [upd_ne gc0.symm] at nc; exact nc
    generalize upd (upd H g0 (.lst [])) c0 (.lst []) = H0 at hg0 hc0 s0 ⊢
    refine ⟨_, _, rfl, ?_⟩
    refine ⟨_, rfl, l, rfl, ⟨_, SqL.of (s0 _ _ hl)⟩, ?_⟩
    have fl : ∀ (f : Four → List Nat) (i : Nat), ((bs.take i).flatMap f).length ≤ (bs.flatMap f).length := fun f i => by
      have e : bs.flatMap f = (bs.take i).flatMap f ++ (bs.drop i).flatMap f := by rw [← List.flatMap_append, List.take_append_drop]
      rw [e, List.length_append]
      exact Nat.le_add_right _ _
    refine for_list (K := K) (a := l) (xs := refs rs) (fun i σ H' => Same H H' ∧ ∃ g c x3 x4 x5 x6, σ = [some (V.ref l), some (V.ref g), some (V.ref c), x3, x4, x5, x6] ∧ H' g = some (.lst (intsV ((bs.take i).flatMap fun b => ivL b.1 b.2.1))) ∧ H' c = some (.lst (intsV ((bs.take i).flatMap fun b => ivL b.2.2.1 b.2.2.2))) ∧ g ≠ c ∧ H g = none ∧ H c = none)
      ⟨s0, g0, c0, _, _, _, _, rfl, hg0, hc0, gc0, ng, nc'⟩ (fun i σ H' _ hh => SqL.of (hh.1 _ _ hl)) ?_ ?_
    · rintro i x σ Ha hx ⟨sm, g, c, x3, x4, x5, x6, rfl, hg, hc, gc, ng', nc'⟩
      obtain ⟨r, b, hbi, rfl, hr'⟩ := hb.get hx
      obtain ⟨i1, i2, i3, i4⟩ := bin b (List.mem_of_getElem? hbi)
      have tk : ∀ f : Four → List Nat, (bs.take (i + 1)).flatMap f = (bs.take i).flatMap f ++ f b := fun f => by
        rw [List.take_add_one, hbi, List.flatMap_append]
        show _ ++ (f b ++ []) = _
        rw [List.append_nil]
      refine ⟨r, _, rfl, .inl (.inl (sm _ _ hr')), rfl, _, _, rfl, _, _, rfl, _, _, rfl, _, _, rfl, rfl, ?_⟩
      refine ⟨_, rfl, _, rfl, _, _, rfl, rfl, _, rfl, _, _, rfl, rfl, _, _, rfl, rfl, .of_le (by omega) (by omega) (by omega) (by omega), fun q nq => ?_⟩
      rw [rg_iv]
      have sq := same_upd (o := .lst (intsV (ivL b.1 b.2.1))) nq
      have hq := upd_same (H := Ha) (a := q) (o := .lst (intsV (ivL b.1 b.2.1)))
      have sq2 := sm.trans sq
      have hg2 := sq _ _ hg
      have hc2 := sq _ _ hc
      generalize upd Ha q (.lst (intsV (ivL b.1 b.2.1))) = Hb at hq sq2 hg2 hc2 ⊢
      have lg := fl (fun b => ivL b.1 b.2.1) (i + 1)
      have lc := fl (fun b => ivL b.2.2.1 b.2.2.2) (i + 1)
      rw [tk, List.length_append] at lg lc
      refine ⟨_, _, _, _, rfl, rfl, hg2, hq, ?_, fun u nu => ?_⟩
      · unfold intsV
        rw [List.length_map, List.length_map]
        exact Nat.le_trans (show _ ≤ 60 by omega) (by decide)
      have su := same_upd (o := .lst (intsV ((bs.take i).flatMap fun b => ivL b.1 b.2.1) ++ intsV (ivL b.1 b.2.1))) nu
      have hu := upd_same (H := Hb) (a := u) (o := .lst (intsV ((bs.take i).flatMap fun b => ivL b.1 b.2.1) ++ intsV (ivL b.1 b.2.1)))
      have su2 := sq2.trans su
      have hc3 := su _ _ hc2
      have uc : u ≠ c := fun e => by rw [e, hc2] at nu; cases nu
      generalize upd Hb u (.lst (intsV ((bs.take i).flatMap fun b => ivL b.1 b.2.1) ++ intsV (ivL b.1 b.2.1))) = Hc at hu su2 hc3 ⊢
      refine ⟨_, rfl, _, rfl, _, _, rfl, rfl, _, rfl, _, _, rfl, rfl, _, _, rfl, rfl, .of_le (by omega) (by omega) (by omega) (by omega), fun q' nq' => ?_⟩
      rw [rg_iv]
      have sq' := same_upd (o := .lst (intsV (ivL b.2.2.1 b.2.2.2))) nq'
      have hq' := upd_same (H := Hc) (a := q') (o := .lst (intsV (ivL b.2.2.1 b.2.2.2)))
      have sq2' := su2.trans sq'
      have hu2 := sq' _ _ hu
      have hc4 := sq' _ _ hc3
      generalize upd Hc q' (.lst (intsV (ivL b.2.2.1 b.2.2.2))) = Hd at hq' sq2' hu2 hc4 ⊢
      refine ⟨_, _, _, _, rfl, rfl, hc4, hq', ?_, fun u' nu' => ?_⟩
      · unfold intsV
        rw [List.length_map, List.length_map]
        exact Nat.le_trans (show _ ≤ 60 by omega) (by decide)
      have su' := same_upd (o := .lst (intsV ((bs.take i).flatMap fun b => ivL b.2.2.1 b.2.2.2) ++ intsV (ivL b.2.2.1 b.2.2.2))) nu'
      have uu : u ≠ u' := fun e => by rw [← e, hu2] at nu'; cases nu'
      refine ⟨sq2'.trans su', u, u', _, _, _, _, rfl, ?_, ?_, uu, none_before sq2 nu, none_before sq2' nu'⟩
      · rw [upd_ne uu, hu2, tk]
        unfold intsV
        rw [List.map_append]
      · rw [upd_same, tk]
        unfold intsV
        rw [List.map_append]
    · rintro σ Ha ⟨sm, g, c, x3, x4, x5, x6, rfl, hg, hc, gc, ng', nc'⟩
      have el : (refs rs).length = bs.length := by unfold refs; rw [List.length_map, hb.1]
      rw [el, List.take_length] at hg hc
      refine ⟨_, rfl, _, rfl, ll20 (by show 2 ≤ 20; decide), fun p np => ?_⟩
      have sp := same_upd (o := .lst [V.ref g, V.ref c]) np
      exact z p g c _ (sm.trans sp) upd_same (sp _ _ hg) (sp _ _ hc) gc (none_before sm np) ng' nc'
end
end K14
namespace XR
open PySem L2
theorem DfV.nps {K : PySem.W.Frag} {H : Hp} {v : V} {ps : List (Nat × Nat)} (h : DfV K H v ps) : ∃ (t : Addr) (xs : List V), v = .ref t ∧ SqT K H t xs ∧ NPs K H xs ps := by
  obtain ⟨t, xs, rfl, ht, hl, hx⟩ := h.items
  refine ⟨t, xs, rfl, ht, hl, fun i q hq => ?_⟩
  have hi : i < xs.length := by rw [hl]; exact (List.getElem?_eq_some_iff.mp hq).1
  obtain ⟨q', r, e1, e2, e3⟩ := hx i _ (List.getElem?_eq_getElem hi)
  rw [hq] at e1
  cases e1
  exact ⟨r, by rw [List.getElem?_eq_getElem hi, e2], e3⟩
end XR
namespace K14
open PySem L2 XR
section
variable {P : Program} {w : World} {K : PySem.W.Frag} {mg : Str → Option Value} {base : Heap}
theorem scLBlocks : FnScope ["_law_elder", "_law_newer", "_law_pairing", "_law_found", "_law_a", "_law_c", "_law_i", "_law_j"] ["_law_elder", "_law_newer", "_law_pairing"] (defScope sLBlocks) := ⟨rfl, rfl, rfl, by decide +kernel, rfl, by decide +kernel, by decide +kernel⟩
theorem ok_lBlocks {f : Addr} {fd : FuncData} (F : Fun K "_law_blocks" "_law_blocks" sLBlocks f fd) (T : Blt mg) : FnOk P w K mg base CX0 1 f fd ["_law_elder", "_law_newer", "_law_pairing"] (spLBlocks K) := by
  refine F.ok scLBlocks (fun vs H Q E h => ?_) (fun cdv A outer s H vs Q E hr h => ?_)
  · obtain ⟨x1, x2, v, ss1, ss2, ps, rfl, _⟩ := h
    rfl
  · obtain ⟨x1, x2, v, ss1, ss2, ps, rfl, t1, t2, hv, hd, z⟩ := h
    refine ⟨_, pss_cons (ps_par3 (i := 3) (j := 4) (l := 5) rfl scLBlocks.nd rfl rfl rfl (by decide) (by decide) (by decide) rfl rfl rfl (pa_cons (pe_lst pa_nil) (pa_cons pe_int (pa_cons pe_int pa_nil))) rfl)
      (pss_cons (ps_for PassesOwn.never rfl (pi_list (pe_op op_cat (pe_callTy call_list_of (by rfl) T.list (by decide +kernel) (pa_cons (pv 2) pa_nil)) (pe_lst (pa_cons (pe_tup (pa_cons (pe_op op_add (pe_callB call_len_seq (by rfl) T.len PySem.boot_len (pa_cons (pv 0) pa_nil)) pe_int) (pa_cons (pe_op op_add (pe_callB call_len_seq (by rfl) T.len PySem.boot_len (pa_cons (pv 1) pa_nil)) pe_int) pa_nil))) pa_nil))))
        (pg_tup rfl (pgs_cons (pg_name (i := 6) scLBlocks.nd rfl (.inl rfl)) (pgs_cons (pg_name (i := 7) scLBlocks.nd rfl (.inl rfl)) pgs_nil)))
        (pss_cons (ps_if (PW.pt (pw_or (pt_cmpR op_gt (pe_op op_sub (pv 6) pe_int) (pv 4) (nomark _)) (pw_or1 (pt_cmpR op_gt (pe_op op_sub (pv 7) pe_int) (pv 5) (nomark _)))))
            (pss_one (ps_expr (pe_bm PySem.F.plainAttrs_list PySem.F.slot_list_append PySem.F.type_list_append mt_append (pv 3) (pa_cons (pe_tup (pa_cons (pv 4) (pa_cons (pe_op op_sub (pv 6) pe_int) (pa_cons (pv 5) (pa_cons (pe_op op_sub (pv 7) pe_int) pa_nil))))) pa_nil)))) pss_nil)
        (pss_one (ps_par (i := 4) (j := 5) rfl scLBlocks.nd rfl rfl (by decide) rfl rfl (pa_cons (pv 6) (pa_cons (pv 7) pa_nil)) rfl))))
      (pss_one (ps_ret (pv 3)))), ?_⟩
    have l60 := t1.len
    have dl := df_len hd
    refine ⟨ll20 (by decide), fun f0 nf => ⟨_, _, _, rfl, ?_⟩⟩
    have s0 := same_upd (o := .lst []) nf
    have hf0 := upd_same (H := H) (a := f0) (o := .lst [])
    generalize upd H f0 (.lst []) = H0 at s0 hf0 ⊢
    obtain ⟨t, xs, rfl, ht, np⟩ := hv.nps
    refine ⟨_, rfl, t, xs, rfl, .inr (XR.Same.tup s0 ht), fun q nq => ?_⟩
    have sq := same_upd (o := .lst xs) nq
    have hq := upd_same (H := H0) (a := q) (o := .lst xs)
    have hf1 := sq _ _ hf0
    have s1 := s0.trans sq
    generalize upd H0 q (.lst xs) = H1 at hq hf1 s1 ⊢
    obtain ⟨a1, rfl, h1⟩ := (t1.same s1).a
    obtain ⟨a2, rfl, h2⟩ := (t2.same s1).a
    refine ⟨_, rfl, a1, _, rfl, h1, _, _, rfl, rfl, _, rfl, a2, _, rfl, h2, _, _, rfl, rfl, ll20 (by show 2 ≤ 20; decide), fun e0 ne => ⟨ll20 (by show 1 ≤ 20; decide), fun b0 nb => ?_⟩⟩
    rw [List.length_map, List.length_map] at nb ⊢
    have se := same_upd (o := .tup [V.int ((ss1.length : Nat) + 1), V.int ((ss2.length : Nat) + 1)]) ne
    have he := upd_same (H := H1) (a := e0) (o := .tup [V.int ((ss1.length : Nat) + 1), V.int ((ss2.length : Nat) + 1)])
    generalize upd H1 e0 (.tup [V.int ((ss1.length : Nat) + 1), V.int ((ss2.length : Nat) + 1)]) = H2 at se he nb ⊢
    have sb := same_upd (o := .lst [V.ref e0]) nb
    have hb := upd_same (H := H2) (a := b0) (o := .lst [V.ref e0])
    have he2 := sb _ _ he
    have s2 := s1.trans (se.trans sb)
    have hq2 := (se.trans sb) _ _ hq
    have hf2 := (se.trans sb) _ _ hf1
    generalize upd H2 b0 (.lst [V.ref e0]) = H3 at hb he2 s2 hq2 hf2 ⊢
    have xl := np.1
    refine ⟨_, _, _, _, rfl, rfl, hq2, hb, Nat.le_trans (show xs.length + 1 ≤ 61 by omega) (by decide), fun l nl => ⟨l, rfl, ⟨_, SqL.of upd_same⟩, ?_⟩⟩
    have sl := same_upd (o := .lst (xs ++ [V.ref e0])) nl
    have hl := upd_same (H := H3) (a := l) (o := .lst (xs ++ [V.ref e0]))
    have he3 := sl _ _ he2
    have hf3 := sl _ _ hf2
    have s3 := s2.trans sl
    have fl : f0 ≠ l := ne_of_none hf2 nl
    have nps : NPs K (upd H3 l (.lst (xs ++ [V.ref e0]))) (xs ++ [V.ref e0]) (ps ++ [(ss1.length + 1, ss2.length + 1)]) := (np.same s3).append (NPs.one (K := K) (q := (ss1.length + 1, ss2.length + 1)) (.inl (.inl he3)))
    generalize upd H3 l (.lst (xs ++ [V.ref e0])) = H4 at hl he3 hf3 s3 nps ⊢
    have glen : (gapsL ss1.length ss2.length ps).length = ps.length + 1 := gaps_len _ _ _ _
    have lB : (ps ++ [(ss1.length + 1, ss2.length + 1)] : List (Nat × Nat)).length = ps.length + 1 := by rw [List.length_append]; rfl
    have lX : (xs ++ [V.ref e0]).length = ps.length + 1 := by rw [List.length_append, xl]; rfl
    clear nl sl hb he2 hq2 sb se nb ne hq sq nq hf1 he hf2
    refine for_list (K := K) (a := l) (xs := xs ++ [V.ref e0]) (fun i σ H' => H' l = some (.lst (xs ++ [V.ref e0])) ∧ (∀ b o, H4 b = some o → b ≠ f0 → H' b = some o) ∧ ∃ (rs : List Addr) (b : Nat × Nat) (x6 x7 : Option V), (((0, 0) :: ps)[i]? = some b ∨ i = ps.length + 1) ∧ σ = [some (V.ref a1), some (V.ref a2), some (V.ref t), some (V.ref f0), some (V.int (b.1 : Int)), some (V.int (b.2 : Int)), x6, x7] ∧
        H' f0 = some (.lst (refs rs)) ∧ BsAt H' rs (((gapsL ss1.length ss2.length ps).take i).filter blkB))
      ⟨hl, fun _ _ h _ => h, [], (0, 0), _, _, .inl rfl, rfl, hf3, .nil⟩ (fun i σ H' _ hh => SqL.of hh.1) ?_ ?_
    · rintro i x σ Ha hx ⟨hla, hk, rs, b, x6, x7, hb, rfl, hfa, hbs⟩
      have hi : i < ps.length + 1 := by rw [← lX]; exact (List.getElem?_eq_some_iff.mp hx).1
      have hb : ((0, 0) :: ps)[i]? = some b := by
        rcases hb with h | h
        · exact h
        · omega
      obtain ⟨e, he⟩ : ∃ e, (ps ++ [(ss1.length + 1, ss2.length + 1)] : List (Nat × Nat))[i]? = some e := ⟨_, List.getElem?_eq_getElem (by omega)⟩
      obtain ⟨r, er, hr4⟩ := nps.2 i e he
      obtain rfl : x = V.ref r := Option.some.inj (hx.symm.trans er)
      have hgap := gaps_at ss1.length ss2.length ps (0, 0) i b e hb he
      have e1p : 1 ≤ e.1 ∧ 1 ≤ e.2 := by
        rcases List.mem_append.mp (List.mem_of_getElem? he) with h | h
        · have := hd.pos h; omega
        · rw [List.mem_singleton.mp h]; exact ⟨by simp, by simp⟩
      have hra : SqT K Ha r [.int (e.1 : Int), .int (e.2 : Int)] := by
        rcases hr4 with (h | ⟨q, h⟩) | h
        · exact .inl (.inl (hk _ _ h (fun c => by rw [c, hf3] at h; cases h)))
        · exact .inl (.inr ⟨q, hk _ _ h (fun c => by rw [c, hf3] at h; cases h)⟩)
        · exact .inr h
      have next : ((0, 0) :: ps)[i + 1]? = some e ∨ i + 1 = ps.length + 1 := by
        by_cases c : i < ps.length
        · left
          rw [List.getElem?_append_left c] at he
          rw [List.getElem?_cons_succ]
          exact he
        · right; omega
      have tk : ((gapsL ss1.length ss2.length ps).take (i + 1)).filter blkB = ((gapsL ss1.length ss2.length ps).take i).filter blkB ++ (if blkB (b.1, e.1 - 1, b.2, e.2 - 1) = true then [(b.1, e.1 - 1, b.2, e.2 - 1)] else []) := by
        rw [List.take_add_one]
        unfold gapsL at hgap ⊢
        rw [hgap, List.filter_append]
        congr 1
        show List.filter blkB [_] = _
        rw [List.filter_cons]
        rfl
      have klen : rs.length ≤ 61 := by
        rw [hbs.1]
        have := List.length_filter_le blkB ((gapsL ss1.length ss2.length ps).take i)
        rw [List.length_take] at this
        omega
      have en : HO.tup [V.int (b.1 : Int), V.int ((e.1 : Int) - 1), V.int (b.2 : Int), V.int ((e.2 : Int) - 1)] = fourV (b.1, e.1 - 1, b.2, e.2 - 1) := by
        show _ = HO.tup [V.int (b.1 : Int), V.int ((e.1 - 1 : Nat) : Int), V.int (b.2 : Int), V.int ((e.2 - 1 : Nat) : Int)]
        rw [show ((e.1 : Int) - 1) = ((e.1 - 1 : Nat) : Int) by omega, show ((e.2 : Int) - 1) = ((e.2 - 1 : Nat) : Int) by omega]
      refine ⟨r, _, rfl, hra, rfl, _, _, rfl, _, _, rfl, rfl, ?_⟩
      have grow : blkB (b.1, e.1 - 1, b.2, e.2 - 1) = true → ∀ u, Ha u = none →
          let Hz := upd (upd Ha u (.tup [V.int (b.1 : Int), V.int ((e.1 : Int) - 1), V.int (b.2 : Int), V.int ((e.2 : Int) - 1)])) f0 (.lst (refs rs ++ [V.ref u]))
          upd Ha u (.tup [V.int (b.1 : Int), V.int ((e.1 : Int) - 1), V.int (b.2 : Int), V.int ((e.2 : Int) - 1)]) f0 = some (.lst (refs rs)) ∧ (refs rs).length < sizeLine ∧ Hz l = some (.lst (xs ++ [V.ref e0])) ∧ (∀ b o, H4 b = some o → b ≠ f0 → Hz b = some o) ∧ Hz f0 = some (.lst (refs (rs ++ [u]))) ∧ BsAt Hz (rs ++ [u]) (((gapsL ss1.length ss2.length ps).take (i + 1)).filter blkB) := fun eb u nu => by
        rw [en]
        obtain ⟨k1, k2, k3⟩ := bsStep (b := (b.1, e.1 - 1, b.2, e.2 - 1)) hfa hbs nu
        refine ⟨k1, ?_, ?_, fun b' o' h n => ?_, k3, ?_⟩
        · unfold refs
          rw [List.length_map]
          exact Nat.lt_of_le_of_lt klen (by decide)
        · rw [upd_ne fl.symm]
          exact same_upd nu _ _ hla
        · rw [upd_ne n]
          exact same_upd nu _ _ (hk _ _ h n)
        · rw [tk, if_pos eb]
          exact k2
      have mk : blkB (b.1, e.1 - 1, b.2, e.2 - 1) = true → ∀ u, Ha u = none → _ := grow
      refine ⟨_, rfl, _, _, rfl, rfl, _, rfl, _, _, rfl, rfl, _, rfl, ?_⟩
      by_cases c1 : b.1 < e.1 - 1
      · rw [decide_eq_true (show (e.1 : Int) - 1 > (b.1 : Int) by omega)]
        refine iteT (iteT ⟨_, rfl, .inl ⟨rfl, _, SqL.of hfa⟩, _, rfl, _, rfl, _, _, rfl, rfl, _, rfl, _, rfl, _, _, rfl, rfl, ll20 (by show 4 ≤ 20; decide), fun u nu => ?_⟩)
        obtain ⟨g1, g2, g3, g4, g5, g6⟩ := grow (by unfold blkB; rw [decide_eq_true c1]; rfl) u nu
        exact ⟨f0, _, _, rfl, rfl, g1, g2, _, rfl, _, rfl, _, _, rfl, g3, g4, rs ++ [u], e, _, _, next, rfl, g5, g6⟩
      · rw [decide_eq_false (show ¬ ((e.1 : Int) - 1 > (b.1 : Int)) by omega)]
        refine iteF ⟨_, rfl, _, _, rfl, rfl, _, rfl, _, _, rfl, rfl, _, rfl, ?_⟩
        by_cases c2 : b.2 < e.2 - 1
        · rw [decide_eq_true (show (e.2 : Int) - 1 > (b.2 : Int) by omega)]
          refine iteT ⟨_, rfl, .inl ⟨rfl, _, SqL.of hfa⟩, _, rfl, _, rfl, _, _, rfl, rfl, _, rfl, _, rfl, _, _, rfl, rfl, ll20 (by show 4 ≤ 20; decide), fun u nu => ?_⟩
          obtain ⟨g1, g2, g3, g4, g5, g6⟩ := grow (by unfold blkB; rw [decide_eq_true c2, Bool.or_true]) u nu
          exact ⟨f0, _, _, rfl, rfl, g1, g2, _, rfl, _, rfl, _, _, rfl, g3, g4, rs ++ [u], e, _, _, next, rfl, g5, g6⟩
        · rw [decide_eq_false (show ¬ ((e.2 : Int) - 1 > (b.2 : Int)) by omega)]
          refine iteF ⟨_, rfl, _, rfl, _, _, rfl, hla, hk, rs, e, _, _, next, rfl, hfa, ?_⟩
          rw [tk, if_neg (by unfold blkB; rw [decide_eq_false c1, decide_eq_false c2]; decide), List.append_nil]
          exact hbs
    · rintro σ Ha ⟨hla, hk, rs, b, x6, x7, hb, rfl, hfa, hbs⟩
      rw [lX, ← glen, List.take_length] at hbs
      refine ⟨_, rfl, z f0 rs Ha (fun b o h => hk _ _ (s3 _ _ h) (ne_of_none h nf)) nf hfa hbs⟩
end
end K14
namespace XR
open PySem L2
theorem tup_but {K : PySem.W.Frag} {H H' : Hp} {a r : Addr} {xs : List V} (h : SqT K H r xs) (p : PotAt H a) (b : But a H H') : SqT K H' r xs := by
  obtain ⟨p1, p2, hp, _⟩ := p
  rcases h with (h | ⟨q, h⟩) | h
  · exact .inl (.inl (b _ _ h (fun e => by rw [e, hp] at h; cases h)))
  · exact .inl (.inr ⟨q, b _ _ h (fun e => by rw [e, hp] at h; cases h)⟩)
  · exact .inr h
theorem OwnR.but {K : PySem.W.Frag} {H H' : Hp} {a : Addr} (p : PotAt H a) (b : But a H H') : ∀ {kvs : List (Key × V)} {o : Own}, OwnR K H kvs o → OwnR K H' kvs o
  | _, _, .nil => .nil
  | _, _, .cons h t => .cons (tup_but h p b) (t.but p b)
/-- drawn fees: a new tuple of two costs and a dict of own ones -/
def FeeAt (K : PySem.W.Frag) (H : Hp) (x : V) (pl : Int × Int) (o : Own) : Prop := ∃ t d kvs, x = .ref t ∧ H t = some (.tup [.int pl.1, .int pl.2, .ref d]) ∧ H d = some (.dK kvs) ∧ OwnR K H kvs o
theorem FeeAt.same {K : PySem.W.Frag} {H H' : Hp} {x : V} {pl : Int × Int} {o : Own} (s : Same H H') (h : FeeAt K H x pl o) : FeeAt K H' x pl o :=
  let ⟨t, d, kvs, e, h1, h2, h3⟩ := h; ⟨t, d, kvs, e, s _ _ h1, s _ _ h2, h3.same s⟩
def spLFees (K : PySem.W.Frag) : Sp := fun vs H Q _ => ∃ a, vs = [.ref a] ∧ PotAt H a ∧ ∀ x pl o H', PotAt H' a → But a H H' → FeeAt K H' x pl o → OkOwn o → OkC pl → Q x H'
def cWords : List Str := ["a", "", "keep", "-"]
theorem cWords_nd : cWords.Nodup := by decide +kernel
theorem cWords_line : ∀ s ∈ cWords, isLine (.str s) = true := by decide +kernel
theorem pick_int {x : V} {ns : List Int} (hx : x ∈ ns.map V.int) (ok : ∀ n ∈ ns, 1 ≤ n ∧ n ≤ 999999) : ∃ u : Int, x = .int u ∧ 1 ≤ u ∧ u ≤ 999999 := by
  obtain ⟨n, hn, rfl⟩ := List.mem_map.mp hx
  exact ⟨n, rfl, ok n hn⟩
def spLCost (K : PySem.W.Frag) : Sp := fun vs H Q _ => ∃ (x1 x2 v x : V) (ss1 ss2 : List Str) (ps : List (Nat × Nat)) (pl : Int × Int) (o : Own), vs = [x1, x2, v, x] ∧ LsAt H x1 ss1 ∧ LsAt H x2 ss2 ∧ DfV K H v ps ∧ IsDf ss1 ss2 ps ∧ FeeAt K H x pl o ∧
  ∀ H', Same H H' → Q (.int (costL (ofC pl o) ss1 ss2 ps)) H'
theorem sumAt_snoc (f : Str → Int) (ss : List Str) (l : List Nat) (i : Nat) : sumAt f ss (l ++ [i + 1]) = sumAt f ss l + f (ss.getD i "") := by
  unfold sumAt
  rw [List.map_append, List.sum_append]
  show _ + (f (ss.getD (i + 1 - 1) "") + 0) = _
  rw [Nat.add_sub_cancel, Int.add_zero]
end XR
namespace K14
open PySem L2 XR
abbrev sLFees : Stmt := top 43
abbrev sLCost : Stmt := top 45
section
variable {P : Program} {w : World} {K : PySem.W.Frag} {mg : Str → Option Value} {base : Heap}
theorem scLFees : FnScope ["_law_pot_here", "_law_own", "_law_word"] ["_law_pot_here"] (defScope sLFees) := ⟨rfl, rfl, rfl, by decide +kernel, rfl, by decide +kernel, by decide +kernel⟩
theorem ok_lFees {f fD fP : Addr} {fd fdD fdP : FuncData} (F : Fun K "_law_costs" "_law_costs" sLFees f fd) (D : Draws P w K mg base fD fP fdD fdP) : FnOk P w K mg base CX0 3 f fd ["_law_pot_here"] (spLFees K) := by
  refine F.ok scLFees (fun vs H Q E h => ?_) (fun cdv A outer s H vs Q E hr h => ?_)
  · obtain ⟨a, rfl, _⟩ := h
    rfl
  · obtain ⟨a, rfl, hpot, z⟩ := h
    have hr1 := hr.mono (show 1 ≤ 2 by decide)
    refine ⟨_, pss_cons (ps_set (i := 1) scLFees.nd rfl (.inl rfl) pe_dnewK)
      (pss_cons (ps_for PassesOwn.never rfl (pi_list (pe_lst (pa_cons pe_str (pa_cons pe_str (pa_cons pe_str (pa_cons pe_str pa_nil)))))) (pg_name (i := 2) scLFees.nd rfl (.inl rfl))
        (pss_one (ps_if (pt_cmpR op_eq (pe_call D.GD hr1 rfl D.mD D.FD.kp D.bD .nil pass0 (pa_cons (pv 0) (pa_cons pe_int pa_nil))) pe_int (nomark _))
          (pss_one (ps_dput (hu_of hr) (pv 1) (pv 2) (pe_tup (pa_cons (pe_call D.GP hr rfl D.mP D.FP.kp D.bP .nil pass0 (pa_cons (pv 0) (pa_cons (pe_lst (pa_cons pe_int (pa_cons pe_int (pa_cons pe_int pa_nil)))) pa_nil))) (pa_cons (pe_call D.GP hr rfl D.mP D.FP.kp D.bP .nil pass0 (pa_cons (pv 0) (pa_cons (pe_lst (pa_cons pe_int (pa_cons pe_int (pa_cons pe_int pa_nil)))) pa_nil))) pa_nil))) rfl)) pss_nil)))
      (pss_one (ps_ret (pe_tup (pa_cons (pe_call D.GP hr rfl D.mP D.FP.kp D.bP .nil pass0 (pa_cons (pv 0) (pa_cons (pe_lst (pa_cons pe_int (pa_cons pe_int (pa_cons pe_int (pa_cons pe_int pa_nil))))) pa_nil))) (pa_cons (pe_call D.GP hr rfl D.mP D.FP.kp D.bP .nil pass0 (pa_cons (pv 0) (pa_cons (pe_lst (pa_cons pe_int (pa_cons pe_int (pa_cons pe_int (pa_cons pe_int pa_nil))))) pa_nil))) (pa_cons (pv 1) pa_nil))))))), ?_⟩
    intro d nd
    have s0 := same_upd (o := .dK []) nd
    have ad := hpot.ne nd
    have hd0 := upd_same (H := H) (a := d) (o := .dK [])
    have hpot0 := hpot.same s0
    generalize upd H d (.dK []) = H0 at s0 hd0 hpot0 ⊢
    refine ⟨ll20 (by show 4 ≤ 20; decide), fun l nl => ⟨l, rfl, ⟨_, SqL.of upd_same⟩, ?_⟩⟩
    have sl := same_upd (o := .lst [V.str "a", V.str "", V.str "keep", V.str "-"]) nl
    have hl := upd_same (H := H0) (a := l) (o := .lst [V.str "a", V.str "", V.str "keep", V.str "-"])
    have al := hpot0.ne nl
    have dl : d ≠ l := ne_of_none hd0 nl
    have hd1 := sl _ _ hd0
    have hpot1 := hpot0.same sl
    have b1 : But a H (upd H0 l (.lst [V.str "a", V.str "", V.str "keep", V.str "-"])) := Same.but (s0.trans sl)
    generalize upd H0 l (.lst [V.str "a", V.str "", V.str "keep", V.str "-"]) = H1 at hl hd1 hpot1 b1 ⊢
    clear sl nl s0 hd0 hpot0
    -- a pick among numbers
    have pick : ∀ (ns : List Int) (Ha : Hp) (R : V → Hp → Prop), PotAt Ha a → 0 < ns.length → ns.length ≤ 20 → (∀ n ∈ ns, 1 ≤ n ∧ n ≤ 999999) → (∀ (u : Int) Hb, PotAt Hb a → But a Ha Hb → 1 ≤ u → u ≤ 999999 → R (.int u) Hb) →
        (ns.map V.int).length ≤ sizeLine ∧ ∀ q, Ha q = none → spPick [V.ref a, V.ref q] (upd Ha q (.lst (ns.map V.int))) R (fun _ _ _ => False) := fun ns Ha R hp n0 n20 ok k => by
      refine ⟨by rw [List.length_map]; exact ll20 n20, fun q nq => ⟨a, q, _, rfl, hp.same (same_upd nq), upd_same, hp.ne nq, by rw [List.length_map]; exact n0, by rw [List.length_map]; omega, fun x Hb hx hpb bb => ?_⟩⟩
      obtain ⟨u, rfl, u1, u2⟩ := pick_int hx ok
      exact k u Hb hpb ((Same.but (same_upd nq)).trans bb) u1 u2
    refine for_list (K := K) (a := l) (xs := cWords.map V.str) (fun i σ H' => PotAt H' a ∧ But a H H' ∧ H' l = some (.lst (cWords.map V.str)) ∧ ∃ kvs o x2, σ = [some (V.ref a), some (V.ref d), x2] ∧ H' d = some (.dK kvs) ∧ OwnR K H' kvs o ∧ (∀ q ∈ o, OkC q.2) ∧ (o.map (·.1)).Sublist (cWords.take i))
      ⟨hpot1, b1, hl, [], [], _, rfl, hd1, .nil, (fun q h => nomatch h), .slnil⟩ (fun i σ H' _ hh => SqL.of hh.2.2.1) ?_ ?_
    · rintro i x σ Ha hx ⟨hp, hb, hla, kvs, o, x2, rfl, hda, ho, hok, hsub⟩
      obtain ⟨s, hs, rfl⟩ : ∃ s, cWords[i]? = some s ∧ x = V.str s := by
        rw [List.getElem?_map] at hx
        obtain ⟨s, e1, e2⟩ := Option.map_eq_some_iff.mp hx
        exact ⟨s, e1, e2.symm⟩
      have tk : cWords.take (i + 1) = cWords.take i ++ [s] := by rw [List.take_add_one, hs]; rfl
      refine ⟨_, rfl, a, 3, rfl, hp, by decide, by decide, fun r Hb r0 r1 hpb bb => ⟨rfl, _, rfl, ?_⟩⟩
      have hlb := bb _ _ hla al.symm
      have hdb := bb _ _ hda ad.symm
      have hob := ho.but hp bb
      refine ite2 (fun _ => ?_) (fun _ => ?_)
      · refine ⟨_, rfl, pick [1, 5, 999999] Hb _ hpb (by decide) (by decide) (by decide) fun u Hc hpc bc u0 u1 => ?_⟩
        refine ⟨_, rfl, pick [1, 7, 999999] Hc _ hpc (by decide) (by decide) (by decide) fun v Hd hpd bd v0 v1 => ?_⟩
        have hdd := bd _ _ (bc _ _ hdb ad.symm) ad.symm
        have hld := bd _ _ (bc _ _ hlb al.symm) al.symm
        have hod := (hob.but hpb bc).but hpc bd
        refine ⟨ll20 (by show 2 ≤ 20; decide), fun t nt => ?_⟩
        have st := same_upd (o := .tup [V.int u, V.int v]) nt
        have hdt := st _ _ hdd
        have olen : o.length ≤ 4 := by
          have h1 := hsub.length_le
          rw [List.length_map, List.length_take] at h1
          have h2 : cWords.length = 4 := rfl
          omega
        have fresh : valV kvs (Sum.inr s) = none := by
          rcases ho.val s with ⟨_, e2⟩ | ⟨a2, b2, r2, e1, _, _⟩
          · exact e2
          · have hin : s ∈ cWords.take i := hsub.subset (List.mem_map.mpr ⟨_, look_mem e1, rfl⟩)
            have nd2 := (List.take_sublist (i + 1) cWords).nodup cWords_nd
            rw [tk, List.nodup_append] at nd2
            exact absurd rfl (nd2.2.2 s hin s (List.mem_singleton.mpr rfl))
        refine ⟨_, rfl, _, rfl, d, _, rfl, DPut.k (k := Sum.inr s) hdt (by rw [ho.length]; exact Nat.lt_of_le_of_lt olen (by decide)), ?_⟩
        have bt : But a H (upd Hd t (.tup [V.int u, V.int v])) := (((hb.trans bb).trans bc).trans bd).same st
        refine ⟨(hpd.same st).upd ad, fun b' o' h n => ?_, ?_, _, o ++ [(s, (u, v))], _, rfl, upd_same, ?_, fun q hq => ?_, ?_⟩
        · rw [upd_ne (ne_of_none h nd)]
          exact bt _ _ h n
        · rw [upd_ne dl.symm]
          exact st _ _ hld
        · rw [putK_new _ fresh]
          exact ((hod.same st).updD hdt).snoc (tup_updD (.inl (.inl upd_same)) hdt)
        · rcases List.mem_append.mp hq with h | h
          · exact hok q h
          · rw [List.mem_singleton.mp h]
            exact ⟨u0, u1, v0, v1⟩
        · rw [List.map_append, tk]
          exact hsub.append (List.Sublist.refl _)
      · refine ⟨hpb, hb.trans bb, hlb, kvs, o, _, rfl, hdb, hob, hok, ?_⟩
        rw [tk]
        exact hsub.trans (List.sublist_append_left _ _)
    · rintro σ Ha ⟨hp, hb, hla, kvs, o, x2, rfl, hda, ho, hok, hsub⟩
      have hoo : OkOwn o := by
        refine ⟨fun q hq => ⟨cWords_line _ (List.mem_of_mem_take (hsub.subset (List.mem_map.mpr ⟨q, hq, rfl⟩))), hok q hq⟩, (hsub.trans (List.take_sublist _ _)).nodup cWords_nd, ?_⟩
        have h1 := hsub.length_le
        rw [List.length_map, List.length_take] at h1
        have h2 : cWords.length = 4 := rfl
        omega
      refine ⟨_, rfl, pick [1, 1, 2, 999999] Ha _ hp (by decide) (by decide) (by decide) fun u Hc hpc bc u0 u1 => ?_⟩
      refine ⟨_, rfl, pick [1, 1, 3, 999999] Hc _ hpc (by decide) (by decide) (by decide) fun v Hd hpd bd v0 v1 => ?_⟩
      have hdd := bd _ _ (bc _ _ hda ad.symm) ad.symm
      have hod := (ho.but hp bc).but hpc bd
      refine ⟨_, rfl, ll20 (by show 3 ≤ 20; decide), fun t nt => ?_⟩
      have st := same_upd (o := .tup [V.int u, V.int v, V.ref d]) nt
      exact z (.ref t) (u, v) o _ (hpd.same st) (((hb.trans bc).trans bd).same st) ⟨t, d, kvs, rfl, upd_same, st _ _ hdd, hod.same st⟩ hoo ⟨u0, u1, v0, v1⟩
end
end K14
namespace K14
open PySem L2 XR
section
variable {P : Program} {w : World} {K : PySem.W.Frag} {mg : Str → Option Value} {base : Heap}
abbrev nLCost : List Str := ["_law_elder", "_law_newer", "_law_pairing", "_law_fees", "_law_going", "_law_coming", "_law_own", "_law_kept", "_law_stayed", "_law_found", "_law_i", "_law_j", "_law_k", "_law_line"]
theorem scLCost : FnScope nLCost ["_law_elder", "_law_newer", "_law_pairing", "_law_fees"] (defScope sLCost) := ⟨rfl, rfl, rfl, by decide +kernel, rfl, by decide +kernel, by decide +kernel⟩
theorem ok_lCost {f : Addr} {fd : FuncData} (F : Fun K "_law_cost" "_law_cost" sLCost f fd) (T : Blt mg) : FnOk P w K mg base CX0 1 f fd ["_law_elder", "_law_newer", "_law_pairing", "_law_fees"] (spLCost K) := by
  refine F.ok scLCost (fun vs H Q E h => ?_) (fun cdv A outer s H vs Q E hr h => ?_)
  · obtain ⟨x1, x2, v, x, ss1, ss2, ps, pl, o, rfl, _⟩ := h
    rfl
  · obtain ⟨x1, x2, v, x, ss1, ss2, ps, pl, o, rfl, k1, k2, hv, hd, hf, z⟩ := h
    have hu := hu_of hr
    refine ⟨_, pss_cons (ps_asg (pv 3) (pg_tup (by rfl) (pgs_cons (pg_name (i := 4) scLCost.nd rfl (.inl rfl)) (pgs_cons (pg_name (i := 5) scLCost.nd rfl (.inl rfl)) (pgs_cons (pg_name (i := 6) scLCost.nd rfl (.inl rfl)) pgs_nil)))))
      (pss_cons (ps_par (i := 7) (j := 8) rfl scLCost.nd rfl rfl (by decide) rfl rfl (pa_cons (pe_lc (own := [("_law_i", 10), ("_law_j", 11)]) (g := gTup K 2 (gCons (gName 10) (gCons (gName 11) gNil))) (tt := tYes) (te := tVar 10) rfl scLCost.nd (pi_tup (pv 2))
            (blkOk_by (own := [("_law_i", 10), ("_law_j", 11)]) (N := nLCost) (sc := defScope sLCost) (by decide +kernel))
            (fun _ _ _ _ _ => pg_tup rfl (pgs_cons (pg_name (i := 10) scLCost.nd rfl (.inl rfl)) (pgs_cons (pg_name (i := 11) scLCost.nd rfl (.inl rfl)) pgs_nil))) (fun _ _ _ _ _ => pts_nil) (fun _ _ _ _ _ => pv 10))
          (pa_cons (pe_lc (own := [("_law_i", 10), ("_law_j", 11)]) (g := gTup K 2 (gCons (gName 10) (gCons (gName 11) gNil))) (tt := tYes) (te := tVar 11) rfl scLCost.nd (pi_tup (pv 2))
            (blkOk_by (own := [("_law_i", 10), ("_law_j", 11)]) (N := nLCost) (sc := defScope sLCost) (by decide +kernel))
            (fun _ _ _ _ _ => pg_tup rfl (pgs_cons (pg_name (i := 10) scLCost.nd rfl (.inl rfl)) (pgs_cons (pg_name (i := 11) scLCost.nd rfl (.inl rfl)) pgs_nil))) (fun _ _ _ _ _ => pts_nil) (fun _ _ _ _ _ => pv 11)) pa_nil)) rfl)
      (pss_cons (ps_set (i := 9) scLCost.nd rfl (.inl rfl) pe_int)
      (pss_cons (ps_for PassesOwn.never rfl (pi_enum (by rfl) T.enum (pa_cons (pv 0) pa_nil)) (pg_tup rfl (pgs_cons (pg_name (i := 12) scLCost.nd rfl (.inl rfl)) (pgs_cons (pg_name (i := 13) scLCost.nd rfl (.inl rfl)) pgs_nil)))
        (pss_one (ps_if (pt_cmpR op_notIn_seq (pe_op op_add (pv 12) pe_int) (pv 7) (by rfl))
          (pss_one (ps_set (i := 9) scLCost.nd rfl (.inl rfl) (pe_op op_add (pv 9) (pe_ix ix_tup (pe_dget2 hu (pv 6) (pv 13) (pe_tup (pa_cons (pv 4) (pa_cons (pv 5) pa_nil))) ⟨rfl, rfl, rfl, rfl⟩) pe_int (fun _ _ => rfl))))) pss_nil)))
      (pss_cons (ps_for PassesOwn.never rfl (pi_enum (by rfl) T.enum (pa_cons (pv 1) pa_nil)) (pg_tup rfl (pgs_cons (pg_name (i := 12) scLCost.nd rfl (.inl rfl)) (pgs_cons (pg_name (i := 13) scLCost.nd rfl (.inl rfl)) pgs_nil)))
        (pss_one (ps_if (pt_cmpR op_notIn_seq (pe_op op_add (pv 12) pe_int) (pv 8) (by rfl))
          (pss_one (ps_set (i := 9) scLCost.nd rfl (.inl rfl) (pe_op op_add (pv 9) (pe_ix ix_tup (pe_dget2 hu (pv 6) (pv 13) (pe_tup (pa_cons (pv 4) (pa_cons (pv 5) pa_nil))) ⟨rfl, rfl, rfl, rfl⟩) pe_int (fun _ _ => rfl))))) pss_nil)))
      (pss_one (ps_ret (pv 9))))))), ?_⟩
    obtain ⟨tf, d, kvs, rfl, ht, hdk, ho⟩ := hf
    obtain ⟨a1, rfl, ha1, _, l1⟩ := id k1
    obtain ⟨a2, rfl, ha2, _, l2⟩ := id k2
    have dl := df_len hd
    obtain ⟨t, xs, rfl, htp, hl, hx⟩ := id hv.items
    refine ⟨_, rfl, tf, _, rfl, .inl (.inl ht), rfl, _, _, rfl, _, _, rfl, _, _, rfl, rfl, ?_⟩
    refine ⟨_, rfl, t, rfl, ⟨_, htp⟩, fun D nD => ?_⟩
    have sD := same_upd (o := .lst []) nD
    refine lc_tup (K := K) (a := t) (xs := xs) (fun i H' => Same H H' ∧ H' D = some (.lst (intsV ((ps.take i).map (·.1))))) ⟨sD, upd_same⟩ (fun i H' _ hh => XR.Same.tup hh.1 htp) ?_ ?_
    · rintro i x H' hi ⟨sm, hD⟩
      obtain ⟨q, r, hq, rfl, hr'⟩ := hx i x hi
      refine ⟨r, _, rfl, XR.Same.tup sm hr', rfl, _, _, rfl, _, _, rfl, rfl, rfl, ?_⟩
      unfold tYes
      dsimp only
      rw [if_pos rfl]
      refine ⟨_, rfl, _, hD, ?_, fun b o h => ?_, ?_⟩
      · unfold intsV
        rw [List.length_map, List.length_map, List.length_take]
        exact Nat.lt_of_le_of_lt (show min i ps.length ≤ 60 by omega) (by decide)
      · rw [upd_ne (ne_of_none h nD)]
        exact sm _ _ h
      · rw [upd_same, List.take_add_one, hq]
        unfold intsV
        rw [List.map_append, List.map_append]
        rfl
    rintro H1 ⟨s1, hD⟩
    rw [hl, List.take_length] at hD
    refine ⟨_, rfl, t, rfl, ⟨_, XR.Same.tup s1 htp⟩, fun D2 nD2 => ?_⟩
    have sD2 := same_upd (o := .lst []) nD2
    refine lc_tup (K := K) (a := t) (xs := xs) (fun i H' => Same H1 H' ∧ H' D2 = some (.lst (intsV ((ps.take i).map (·.2))))) ⟨sD2, upd_same⟩ (fun i H' _ hh => XR.Same.tup (s1.trans hh.1) htp) ?_ ?_
    · rintro i x H' hi ⟨sm, hD⟩
      obtain ⟨q, r, hq, rfl, hr'⟩ := hx i x hi
      refine ⟨r, _, rfl, XR.Same.tup (s1.trans sm) hr', rfl, _, _, rfl, _, _, rfl, rfl, rfl, ?_⟩
      unfold tYes
      dsimp only
      rw [if_pos rfl]
      refine ⟨_, rfl, _, hD, ?_, fun b o h => ?_, ?_⟩
      · unfold intsV
        rw [List.length_map, List.length_map, List.length_take]
        exact Nat.lt_of_le_of_lt (show min i ps.length ≤ 60 by omega) (by decide)
      · rw [upd_ne (ne_of_none h nD2)]
        exact sm _ _ h
      · rw [upd_same, List.take_add_one, hq]
        unfold intsV
        rw [List.map_append, List.map_append]
        rfl
    rintro H2 ⟨s2', hD2⟩
    rw [hl, List.take_length] at hD2
    have s2 := s1.trans s2'
    have hDa := s2' _ _ hD
    refine ⟨_, _, rfl, ?_⟩
    -- what own costs say of a line
    have fee : ∀ (Ha : Hp) (s : Str), Same H2 Ha → ∀ tt, Ha tt = none → ∃ ob, DGet (upd Ha tt (.tup [V.int pl.1, V.int pl.2])) d (.str s) ob ∧ ∃ r, ob.getD (.ref tt) = .ref r ∧ SqT K (upd Ha tt (.tup [V.int pl.1, V.int pl.2])) r [.int (ofC pl o s).1, .int (ofC pl o s).2] := fun Ha s sa tt nt => by
      have st := same_upd (o := .tup [V.int pl.1, V.int pl.2]) nt
      have sall := s2.trans (sa.trans st)
      refine ⟨_, DGet.k (k := Sum.inr s) (sall _ _ hdk), ?_⟩
      rcases (ho.same sall).val s with ⟨e1, e2⟩ | ⟨a, b, r, e1, e2, e3⟩
      · rw [e2]
        refine ⟨tt, rfl, ?_⟩
        unfold ofC
        rw [e1]
        exact .inl (.inl upd_same)
      · rw [e2]
        refine ⟨r, rfl, ?_⟩
        unfold ofC
        rw [e1]
        exact e3
    refine ⟨_, rfl, a1, _, rfl, SqL.of (s2 _ _ ha1), ?_⟩
    refine for_it walk_enum (fun i σ H' => Same H2 H' ∧ ∃ x10 x11 x12 x13, σ = [some (V.ref a1), some (V.ref a2), some (V.ref t), some (V.ref tf), some (V.int pl.1), some (V.int pl.2), some (V.ref d), some (V.ref D), some (V.ref D2), some (V.int (sumAt (fun s => (ofC pl o s).1) ss1 (outL i (ps.map (·.1))))), x10, x11, x12, x13])
      ⟨fun _ _ e => e, _, _, _, _, rfl⟩ (fun i σ H' _ hh => SqL.of (hh.1 _ _ (s2 _ _ ha1))) ?_ ?_
    · rintro i x σ Ha Hb hi ⟨sm, x10, x11, x12, x13, rfl⟩ ⟨tt, y1, y2, rfl, nt, rfl, hy1, hy2⟩
      cases hy1
      obtain ⟨ln, rfl, hln⟩ := str_of_map hy2
      rw [List.length_map] at hi
      have st := same_upd (o := .tup [V.int (i : Nat), V.str ln]) nt
      have sa := sm.trans st
      refine ⟨tt, _, rfl, .inl (.inl upd_same), rfl, _, _, rfl, _, _, rfl, rfl, ?_⟩
      generalize upd Ha tt (.tup [V.int (i : Nat), V.str ln]) = Hc at sa ⊢
      have ei : ((i : Nat) : Int) + 1 = ((i + 1 : Nat) : Int) := by omega
      refine ⟨_, rfl, _, _, rfl, rfl, _, rfl, D, _, rfl, .inl (SqL.of (sa _ _ hDa)), rfl, intsV_flat _, _, rfl, ?_⟩
      have ein : inV (.int (((i : Nat) : Int) + 1)) (intsV (ps.map (·.1))) = decide (i + 1 ∈ ps.map (·.1)) := by rw [ei]; exact inV_ints
      show if (!inV (.int (((i : Nat) : Int) + 1)) (intsV (ps.map (·.1)))) = true then _ else _
      rw [ein]
      by_cases c : i + 1 ∈ ps.map (·.1)
      · rw [decide_eq_true c]
        refine iteF ⟨sa, x10, x11, some (V.int (i : Nat)), some (V.str ln), ?_⟩
        rw [outL_succ, if_pos c]
        rfl
      · rw [decide_eq_false c]
        have hlt : i < ss1.length := hi
        refine iteT ⟨_, rfl, _, rfl, d, rfl, .inl ⟨_, .of ((s2.trans sa) _ _ hdk)⟩, _, rfl, _, rfl, _, rfl, ll20 (by show 2 ≤ 20; decide), fun t9 n9 => ?_⟩
        obtain ⟨ob, g1, r, g2, g3⟩ := fee Hc ln sa t9 n9
        refine ⟨ob, g1, r, _, _, _, g2, rfl, g3, atI_nat (j := 0) rfl, _, _, rfl, rfl, sa.trans (same_upd n9), x10, x11, some (V.int (i : Nat)), some (V.str ln), ?_⟩
        rw [outL_succ, if_neg c, sumAt_snoc, List.getD_eq_getElem?_getD, hln]
        rfl
    rintro σ H3 ⟨s3, x10, x11, x12, x13, rfl⟩
    rw [List.length_map]
    refine ⟨_, rfl, a2, _, rfl, SqL.of (s3 _ _ (s2 _ _ ha2)), ?_⟩
    refine for_it walk_enum (fun i σ H' => Same H2 H' ∧ ∃ x10 x11 x12 x13, σ = [some (V.ref a1), some (V.ref a2), some (V.ref t), some (V.ref tf), some (V.int pl.1), some (V.int pl.2), some (V.ref d), some (V.ref D), some (V.ref D2), some (V.int (sumAt (fun s => (ofC pl o s).1) ss1 (outL ss1.length (ps.map (·.1))) + sumAt (fun s => (ofC pl o s).2) ss2 (outL i (ps.map (·.2))))), x10, x11, x12, x13])
      ⟨s3, _, _, _, _, by rw [show outL 0 (ps.map (·.2)) = [] from rfl, show sumAt (fun s => (ofC pl o s).2) ss2 [] = 0 from rfl, Int.add_zero]⟩ (fun i σ H' _ hh => SqL.of (hh.1 _ _ (s2 _ _ ha2))) ?_ ?_
    · rintro i x σ Ha Hb hi ⟨sm, x10, x11, x12, x13, rfl⟩ ⟨tt, y1, y2, rfl, nt, rfl, hy1, hy2⟩
      cases hy1
      obtain ⟨ln, rfl, hln⟩ := str_of_map hy2
      rw [List.length_map] at hi
      have st := same_upd (o := .tup [V.int (i : Nat), V.str ln]) nt
      have sa := sm.trans st
      refine ⟨tt, _, rfl, .inl (.inl upd_same), rfl, _, _, rfl, _, _, rfl, rfl, ?_⟩
      generalize upd Ha tt (.tup [V.int (i : Nat), V.str ln]) = Hc at sa ⊢
      have ei : ((i : Nat) : Int) + 1 = ((i + 1 : Nat) : Int) := by omega
      refine ⟨_, rfl, _, _, rfl, rfl, _, rfl, D2, _, rfl, .inl (SqL.of (sa _ _ hD2)), rfl, intsV_flat _, _, rfl, ?_⟩
      have ein : inV (.int (((i : Nat) : Int) + 1)) (intsV (ps.map (·.2))) = decide (i + 1 ∈ ps.map (·.2)) := by rw [ei]; exact inV_ints
      show if (!inV (.int (((i : Nat) : Int) + 1)) (intsV (ps.map (·.2)))) = true then _ else _
      rw [ein]
      by_cases c : i + 1 ∈ ps.map (·.2)
      · rw [decide_eq_true c]
        refine iteF ⟨sa, x10, x11, some (V.int (i : Nat)), some (V.str ln), ?_⟩
        rw [outL_succ, if_pos c]
        rfl
      · rw [decide_eq_false c]
        refine iteT ⟨_, rfl, _, rfl, d, rfl, .inl ⟨_, .of ((s2.trans sa) _ _ hdk)⟩, _, rfl, _, rfl, _, rfl, ll20 (by show 2 ≤ 20; decide), fun t9 n9 => ?_⟩
        obtain ⟨ob, g1, r, g2, g3⟩ := fee Hc ln sa t9 n9
        refine ⟨ob, g1, r, _, _, _, g2, rfl, g3, atI_nat (j := 1) rfl, _, _, rfl, rfl, sa.trans (same_upd n9), x10, x11, some (V.int (i : Nat)), some (V.str ln), ?_⟩
        rw [outL_succ, if_neg c, sumAt_snoc, List.getD_eq_getElem?_getD, hln, ← Int.add_assoc]
        rfl
    rintro σ H4 ⟨s4, x10, x11, x12, x13, rfl⟩
    rw [List.length_map]
    exact ⟨_, rfl, z H4 (s2.trans s4)⟩
end
end K14
namespace XR
open PySem PySem.Spec L2 PyProof.Rows
section
variable {X : Cx} {es : List Expr} {t : TA} {pos : Pos}
/-- a written tuple, its object told -/
def tTupX (t : TA) : TE := fun σ H Q => t σ H fun xs H1 => xs.length ≤ sizeLine ∧ ∀ (p : Addr) (o : Obj), H1 p = none → o.cls = .type "tuple" → o.dict = none → Q (.ref p) (upd H1 p (.frz o (.tup xs)))
theorem pe_tupX {x1} (h : PA X es t) : PE X (.Tuple es x1 pos) (tTupX t) := by
  refine ⟨fun pins s σ H Q I hq => ?_⟩
  refine wpAny_Tuple_spliced (thn (h.run pos pins s σ H _ I hq) fun us s1 ⟨xs, H1, I1, r, z, q⟩ => ⟨by rw [← r.length]; exact z, ?_⟩)
  have hf : H1 s1.heap.objs.size = none := I1.hok.fresh (Nat.le_refl _)
  refine ⟨.ref s1.heap.objs.size, upd H1 s1.heap.objs.size (.frz { cls := .type "tuple", data := .seq us.toArray } (.tup xs)), I1.laid (t' := s1.toks) (fun b u e => Heap.get?_push_of_some _ e) (Nat.le_refl _) ?_, rfl, q _ _ hf rfl rfl⟩
  exact ⟨Heap.get?_push_size _ rfl, z, us, r, ⟨_, Heap.get?_push_size _ rfl, rfl, _, rfl⟩⟩
end
end XR
namespace XR
open PySem L2
theorem shw_int {i : Int} (h0 : 0 ≤ i) (h1 : i < 268435456) : Shw 29 1 (.int i) := by
  have hl : i.natAbs.log2 < 28 := by
    by_cases e : i.natAbs = 0
    · rw [e]; decide
    · exact (Nat.log2_lt e).mpr (by omega)
  refine ⟨?_, ?_, by simp [PyData.depth]⟩
  · simp only [PyData.showable]
    exact decide_eq_true (by omega)
  · have e : (PyData.int i).shown = Str.ofString (toString i) := by simp [PyData.shown]
    rw [e, ofString_length]
    exact int_text_length_le (by decide) hl
def numsD (l : List Nat) : PyData := .list (l.map fun i : Nat => PyData.int (i : Int))
theorem shw_nums2 {l : List Nat} (h : ∀ i ∈ l, i ≤ 60) (n : l.length ≤ 60) : Shw 242 2 (numsD l) := by
  refine Shw.list (n := 2) (k := 1) (m := 60) (fun d hd => ?_) (by rw [List.length_map]; exact n)
  obtain ⟨i, hi, rfl⟩ := List.mem_map.mp hd
  exact shw_num (h i hi)
theorem dq_nums {K : PySem.W.Frag} {H : Hp} {p : Addr} {l : List Nat} (h : H p = some (.lst (intsV l))) : Dq K H (.ref p) (numsD l) := by
  refine .lst (SqL.of h) ?_
  have key : ∀ l : List Nat, DqAll K H (intsV l) (l.map fun i : Nat => PyData.int (i : Int)) := by
    intro l
    induction l with
    | nil => exact .nil
    | cons a l ih => exact .cons (.int _) ih
  exact key l
def fourDue (bs : List Four) (g c k : List Nat) : PyData := .list [blkD bs, numsD g, numsD c, numsD k]
theorem shw_due {bs : List Four} {g c k : List Nat} (h : ∀ b ∈ bs, In4 60 60 b) (l : bs.length ≤ 61) (hg : ∀ i ∈ g, i ≤ 60) (lg : g.length ≤ 60) (hc : ∀ i ∈ c, i ≤ 60) (lc : c.length ≤ 60) (hk : ∀ i ∈ k, i ≤ 60) (lk : k.length ≤ 60) : Shw 5142 4 (fourDue bs g c k) := by
  refine Shw.list (n := 1283) (k := 3) (m := 4) (fun d hd => ?_) (Nat.le_refl 4)
  simp only [List.mem_cons, List.not_mem_nil, or_false] at hd
  rcases hd with rfl | rfl | rfl | rfl
  · exact shw_blk h l
  · exact (shw_nums2 hg lg).le (by decide) (by decide)
  · exact (shw_nums2 hc lc).le (by decide) (by decide)
  · exact (shw_nums2 hk lk).le (by decide) (by decide)
theorem ofC_ok {pl : Int × Int} {o : Own} (h : OkOwn o) (hp : OkC pl) (s : Str) : OkC (ofC pl o s) := by
  unfold ofC
  cases e : look o s with
  | none => exact hp
  | some v => exact (h.ok _ (look_mem e)).2
theorem sumAt_bd {f : Str → Int} {ss : List Str} (hf : ∀ s, 1 ≤ f s ∧ f s ≤ 999999) : ∀ l : List Nat, 0 ≤ sumAt f ss l ∧ sumAt f ss l ≤ 999999 * (l.length : Int)
  | [] => ⟨Int.le_refl 0, Int.le_refl 0⟩
  | i :: l => by
    obtain ⟨h1, h2⟩ := sumAt_bd (ss := ss) hf l
    have h := hf (ss.getD (i - 1) "")
    have e : sumAt f ss (i :: l) = f (ss.getD (i - 1) "") + sumAt f ss l := rfl
    rw [e, List.length_cons]
    constructor
    · omega
    · push_cast; omega
theorem costL_bd {pl : Int × Int} {o : Own} (h : OkOwn o) (hp : OkC pl) {ss1 ss2 : List Str} {ps : List (Nat × Nat)} (l1 : ss1.length ≤ 60) (l2 : ss2.length ≤ 60) : 0 ≤ costL (ofC pl o) ss1 ss2 ps ∧ costL (ofC pl o) ss1 ss2 ps < 268435456 := by
  have k := fun s => ofC_ok h hp s
  obtain ⟨a1, a2⟩ := sumAt_bd (f := fun s => (ofC pl o s).1) (ss := ss1) (fun s => ⟨(k s).1, (k s).2.1⟩) (goneL ss1.length ps)
  obtain ⟨b1, b2⟩ := sumAt_bd (f := fun s => (ofC pl o s).2) (ss := ss2) (fun s => ⟨(k s).2.2.1, (k s).2.2.2⟩) (comeL ss2.length ps)
  have c1 : (goneL ss1.length ps).length ≤ ss1.length := outL_len _ _
  have c2 : (comeL ss2.length ps).length ≤ ss2.length := outL_len _ _
  unfold costL
  omega
theorem outL_le {m i : Nat} {ks : List Nat} (h : i ∈ outL m ks) : i ≤ m := (outL_mem.mp h).2.1
/-- what goes and what is kept are all lines -/
theorem gone_kept {m : Nat} {ks : List Nat} (r : ks.Pairwise (· < ·)) (b : ∀ k ∈ ks, 1 ≤ k ∧ k ≤ m) : (outL m ks ++ ks).Perm (ivL 0 m) := by
  have e1 : outL m ks = (ivL 0 m).filter (fun i => !decide (i ∈ ks)) := by unfold outL; rw [ivL_zero]
  have nd : ks.Nodup := r.imp fun h => Nat.ne_of_lt h
  have ndR : (ivL 0 m).Nodup := List.nodup_range'
  have e2 : ks.Perm ((ivL 0 m).filter (fun i => decide (i ∈ ks))) := by
    refine (List.perm_ext_iff_of_nodup nd (List.Nodup.sublist List.filter_sublist ndR)).mpr fun i => ?_
    rw [List.mem_filter, ivL_mem]
    constructor
    · intro h
      have := b i h
      exact ⟨by omega, decide_eq_true h⟩
    · rintro ⟨_, h⟩
      exact of_decide_eq_true h
  rw [e1]
  refine (List.Perm.append_left _ e2).trans ?_
  refine (List.perm_append_comm).trans ?_
  exact List.filter_append_perm (fun i => decide (i ∈ ks)) (ivL 0 m)
theorem gone_count {m : Nat} {ks : List Nat} (r : ks.Pairwise (· < ·)) (b : ∀ k ∈ ks, 1 ≤ k ∧ k ≤ m) : (outL m ks).length + ks.length = m := by
  have := (gone_kept r b).length_eq
  rw [List.length_append, ivL_len] at this
  omega
/-- the sorted ones are the numbers of lines -/
theorem sorted_is {m : Nat} {ns : List Int} {l : List Nat} (p : ns.Perm (l.map fun i : Nat => (i : Int))) (q : l.Perm (ivL 0 m)) (s : ns.Pairwise (· ≤ ·)) : ns = (ivL 0 m).map fun i : Nat => (i : Int) := by
  refine List.Perm.eq_of_pairwise (le := (· ≤ ·)) (fun a b _ _ h1 h2 => by omega) s ?_ (p.trans (q.map _))
  rw [List.pairwise_map]
  exact (List.pairwise_lt_range' 1).imp fun h => by omega
end XR
namespace XR
open PySem L2
theorem far_none {ps : List (Nat × Nat)} {i : Nat} (h : ∀ q, q ∈ ps → q.1 ≠ i) : far ps i = none := by
  unfold far
  rw [List.find?_eq_none.mpr fun q hq => by simp [h q hq]]
  rfl
theorem merge_map : ∀ (ps acc : List (Nat × Nat)), (∀ (i : Nat) (q : Nat × Nat), (acc ++ ps)[i]? = some q → ∀ p, p ∈ (acc ++ ps).take i → p.1 ≠ q.1) → mergeK (mapK acc) (mapK ps) = mapK (acc ++ ps)
  | [], acc, _ => by rw [List.append_nil]; rfl
  | p :: ps, acc, h => by
    have e : putK (mapK acc) (Sum.inl (p.1 : Int)) (V.int (p.2 : Int)) = mapK (acc ++ [p]) := put_new fun q hq => by
      have := h acc.length p (by simp) q (by simp [hq])
      exact this
    have ih := merge_map ps (acc ++ [p]) (by simpa using h)
    show mergeK (putK (mapK acc) (Sum.inl (p.1 : Int)) (V.int (p.2 : Int))) (mapK ps) = _
    rw [e, ih]
    simp
theorem merge_df {ss1 ss2 : List Str} {ps : List (Nat × Nat)} (h : IsDf ss1 ss2 ps) : mergeK [] (mapK ps) = mapK ps := by
  have := merge_map ps [] (by simpa using df_dis h)
  exact this
theorem ps_paired {K : PySem.W.Frag} {H : Hp} : ∀ {rs : List Addr} {ps : List (Nat × Nat)}, PsAt H rs ps → PySem.Paired (fun (p : Addr) (kv : Key × V) => SqT K H p [kV kv.1, kv.2]) rs (mapK ps)
  | [], [], _ => .nil
  | r :: rs, [], h => by have := h.1; simp at this
  | [], p :: ps, h => by have := h.1; simp at this
  | r :: rs, p :: ps, h => by
    obtain ⟨r', e1, e2⟩ := h.2 0 p rfl
    obtain rfl : r = r' := Option.some.inj e1
    exact .cons (.inl (.inl e2)) (ps_paired ⟨by simpa using h.1, fun i q hq => h.2 (i + 1) q hq⟩)
def farD (ps : List (Nat × Nat)) (i : Nat) : PyData := match far ps i with
  | some k => .int (k : Int)
  | none => .none
theorem dq_far {K : PySem.W.Frag} {H : Hp} (ps : List (Nat × Nat)) (i : Nat) : Dq K H (farV ps i) (farD ps i) := by
  unfold farV farD
  cases far ps i with
  | none => exact .non
  | some k => exact .int _
theorem shw_far {ss1 ss2 : List Str} {ps : List (Nat × Nat)} (h : IsDf ss1 ss2 ps) (l2 : ss2.length ≤ 60) (i : Nat) : Shw 4 1 (farD ps i) := by
  unfold farD
  cases e : far ps i with
  | none => exact ⟨by decide +kernel, by decide +kernel, by decide +kernel⟩
  | some k =>
    have := (h.1 _ (far_mem e)).2.2.2.1
    exact (shw_num (show k ≤ 60 by omega)).le (by decide) (by decide)
def spRight (K : PySem.W.Frag) : Sp := fun vs H Q _ => ∃ (a t : Addr) (x1 x2 : V) (ss1 ss2 : List Str) (ps : List (Nat × Nat)), vs = [.ref a, x1, x2, .ref t] ∧ PotAt H a ∧ LsAt H x1 ss1 ∧ LsAt H x2 ss2 ∧ DfX H t ps ∧ IsDf ss1 ss2 ps ∧
  ∀ H', PotAt H' a → But a H H' → Q (.bl true) H'
def threeD (ss1 ss2 : List Str) (ps : List (Nat × Nat)) : PyData := .list [lsD ss1, lsD ss2, dfD ps]
theorem shw_three {ss1 ss2 : List Str} {ps : List (Nat × Nat)} (w1 : Wd ss1) (w2 : Wd ss2) (l1 : ss1.length ≤ 60) (l2 : ss2.length ≤ 60) (h : IsDf ss1 ss2 ps) : Shw 2357 4 (threeD ss1 ss2 ps) := by
  refine Shw.list (n := 783) (k := 3) (m := 3) (fun d hd => ?_) (Nat.le_refl 3)
  simp only [List.mem_cons, List.not_mem_nil, or_false] at hd
  rcases hd with rfl | rfl | rfl
  · exact (shw_ls w1 l1).le (by decide) (by decide)
  · exact (shw_ls w2 l2).le (by decide) (by decide)
  · exact shw_df h l1 l2
def farsD (ps : List (Nat × Nat)) (m : Nat) : PyData := .list ((List.range m).map fun k => farD ps (k + 1))
theorem shw_fars {ss1 ss2 : List Str} {ps : List (Nat × Nat)} (h : IsDf ss1 ss2 ps) (l2 : ss2.length ≤ 60) {m : Nat} (hm : m ≤ 60) : Shw 362 2 (farsD ps m) := by
  refine Shw.list (n := 4) (k := 1) (m := 60) (fun d hd => ?_) (by rw [List.length_map, List.length_range]; exact hm)
  obtain ⟨k, _, rfl⟩ := List.mem_map.mp hd
  exact shw_far h l2 (k + 1)
def farsV (ps : List (Nat × Nat)) (m : Nat) : List V := (List.range m).map fun k => farV ps (k + 1)
theorem farsV_succ (ps : List (Nat × Nat)) (m : Nat) : farsV ps (m + 1) = farsV ps m ++ [farV ps (m + 1)] := by unfold farsV; rw [List.range_succ, List.map_append]; rfl
theorem dq_fars {K : PySem.W.Frag} {H : Hp} {p : Addr} {ps : List (Nat × Nat)} {m : Nat} (h : H p = some (.lst (farsV ps m))) : Dq K H (.ref p) (farsD ps m) := by
  refine .lst (SqL.of h) ?_
  unfold farsV
  have key : ∀ l : List Nat, DqAll K H (l.map fun k => farV ps (k + 1)) (l.map fun k => farD ps (k + 1)) := by
    intro l
    induction l with
    | nil => exact .nil
    | cons a l ih => exact .cons (dq_far _ _) ih
  exact key _
def numD (i : Int) : PyData := .int i
end XR
namespace K14
open PySem L2 XR
abbrev sRight : Stmt := top 47
abbrev nRight : List Str := ["_law_pot_here", "_law_elder", "_law_newer", "_law_pairing", "_law_fees", "_law_blocks_here", "_law_going", "_law_coming", "_law_kept", "_law_due", "_law_shown", "_law_turn", "_law_told", "_law_one", "_law_named", "_law_made", "_law_much", "_law_partners", "_law_i", "_law_j", "_law_k"]
section
variable {P : Program} {w : World} {K : PySem.W.Frag} {mg : Str → Option Value} {base : Heap}
/-- what of the package _law_right asks -/
structure PkR (P : Program) (w : World) (K : PySem.W.Frag) (mg : Str → Option Value) (base : Heap) (C fI fB fG fM fK fC fP : Addr) (fdI fdB fdG fdM fdK fdC fdP : FuncData) : Prop where
  X : CsX K mg C
  M : Mk K C fI
  GI : FnOk P w K mg base CX0 5 fI fdI ["self", "going", "coming", "some"] (spCInit K C)
  bI : Binds K fdI ["self", "going", "coming", "some"] []
  FB : Fun K "blocks_of" "blocks_of" sBlocks fB fdB
  GB : FnOk P w K mg base CX0 6 fB fdB ["old", "new", "diff"] (spFours K blocksL)
  bB : Binds K fdB ["old", "new", "diff"] []
  kB : KBinds K fdB ["old", "new", "diff"] ["diff", "new", "old"] turn3 turn3
  mB : mg "blocks_of" = some (.ref fB)
  FG : Fun K "gone_lines" "gone_lines" sGone fG fdG
  GG : FnOk P w K mg base CX0 7 fG fdG ["old", "new", "diff"] (spNums K fun m _ ps => goneL m ps)
  bG : Binds K fdG ["old", "new", "diff"] []
  kG : KBinds K fdG ["old", "new", "diff"] ["diff", "new", "old"] turn3 turn3
  mG : mg "gone_lines" = some (.ref fG)
  FM : Fun K "come_lines" "come_lines" sCome fM fdM
  GM : FnOk P w K mg base CX0 6 fM fdM ["old", "new", "diff"] (spNums K fun _ n ps => comeL n ps)
  bM : Binds K fdM ["old", "new", "diff"] []
  kM : KBinds K fdM ["old", "new", "diff"] ["diff", "new", "old"] turn3 turn3
  mM : mg "come_lines" = some (.ref fM)
  FK : Fun K "kept_lines" "kept_lines" sKept fK fdK
  GK : FnOk P w K mg base CX0 6 fK fdK ["old", "new", "diff"] (spNums K fun _ _ ps => keptL ps)
  bK : Binds K fdK ["old", "new", "diff"] []
  kK : KBinds K fdK ["old", "new", "diff"] ["diff", "new", "old"] turn3 turn3
  mK : mg "kept_lines" = some (.ref fK)
  FC : Fun K "cost_of" "cost_of" sCostOf fC fdC
  GC : FnOk P w K mg base CX0 8 fC fdC ["old", "new", "diff", "costs"] (spCostOf K C)
  bC : Binds K fdC ["old", "new", "diff", "costs"] []
  kC : KBinds K fdC ["old", "new", "diff", "costs"] ["costs", "diff", "new", "old"] turn4 turn4
  mC : mg "cost_of" = some (.ref fC)
  FP : Fun K "partner_of" "partner_of" sPartner fP fdP
  GP : FnOk P w K mg base CX0 6 fP fdP ["old", "new", "diff", "i"] (spPartner K)
  bP : Binds K fdP ["old", "new", "diff", "i"] []
  mP : mg "partner_of" = some (.ref fP)
theorem scRight : FnScope nRight ["_law_pot_here", "_law_elder", "_law_newer", "_law_pairing"] (defScope sRight) := ⟨rfl, rfl, rfl, by decide +kernel, rfl, by decide +kernel, by decide +kernel⟩
theorem ok_right {f fL fLB fBy fLC C fI fB fG fM fK fC fP : Addr} {fd fdL fdLB fdBy fdLC fdI fdB fdG fdM fdK fdC fdP : FuncData} (F : Fun K "_law_right" "_law_right" sRight f fd) (T : Blt mg) (T2 : Blt2 mg) (G : PkR P w K mg base C fI fB fG fM fK fC fP fdI fdB fdG fdM fdK fdC fdP)
    (FL : Fun K "_law_costs" "_law_costs" sLFees fL fdL) (GL : FnOk P w K mg base CX0 3 fL fdL ["_law_pot_here"] (spLFees K)) (bL : Binds K fdL ["_law_pot_here"] []) (mL : mg "_law_costs" = some (.ref fL))
    (FLB : Fun K "_law_blocks" "_law_blocks" sLBlocks fLB fdLB) (GLB : FnOk P w K mg base CX0 1 fLB fdLB ["_law_elder", "_law_newer", "_law_pairing"] (spLBlocks K)) (bLB : Binds K fdLB ["_law_elder", "_law_newer", "_law_pairing"] []) (mLB : mg "_law_blocks" = some (.ref fLB))
    (FBy : Fun K "_law_by_blocks" "_law_by_blocks" sByB fBy fdBy) (GBy : FnOk P w K mg base CX0 1 fBy fdBy ["_law_blocks_here"] spByB) (bBy : Binds K fdBy ["_law_blocks_here"] []) (mBy : mg "_law_by_blocks" = some (.ref fBy))
    (FLC : Fun K "_law_cost" "_law_cost" sLCost fLC fdLC) (GLC : FnOk P w K mg base CX0 1 fLC fdLC ["_law_elder", "_law_newer", "_law_pairing", "_law_fees"] (spLCost K)) (bLC : Binds K fdLC ["_law_elder", "_law_newer", "_law_pairing", "_law_fees"] []) (mLC : mg "_law_cost" = some (.ref fLC)) :
    FnG P w K mg base 9 f fd ["_law_pot_here", "_law_elder", "_law_newer", "_law_pairing"] (XR.spRight K) := by
  refine okG F scRight (fun vs H Q E h => ?_) (fun cdv A outer s H vs Q E hr hg h => ?_)
  · obtain ⟨a, t, x1, x2, ss1, ss2, ps, rfl, _⟩ := h
    rfl
  · obtain ⟨a, t, x1, x2, ss1, ss2, ps, rfl, hpot, k1, k2, hx, hd, z⟩ := h
    have hr1 := hr.mono (show 1 ≤ 8 by decide)
    have hr3 := hr.mono (show 3 ≤ 8 by decide)
    have hr6 := hr.mono (show 6 ≤ 8 by decide)
    have hr7 := hr.mono (show 7 ≤ 8 by decide)
    have hu := hu_of hr
    refine ⟨_, pss_cons (ps_par (i := 4) (j := 5) rfl scRight.nd rfl rfl (by decide) rfl rfl (pa_cons (pe_call GL hr3 rfl mL FL.kp bL .nil pass0 (pa_cons (pv 0) pa_nil)) (pa_cons (pe_call GLB hr1 rfl mLB FLB.kp bLB .nil pass0 (pa_cons (pv 1) (pa_cons (pv 2) (pa_cons (pv 3) pa_nil)))) pa_nil)) rfl)
      (pss_cons (ps_asg (pe_call GBy hr1 rfl mBy FBy.kp bBy .nil pass0 (pa_cons (pv 5) pa_nil)) (pg_lst rfl (pgs_cons (pg_name (i := 6) scRight.nd rfl (.inl rfl)) (pgs_cons (pg_name (i := 7) scRight.nd rfl (.inl rfl)) pgs_nil))))
      (pss_cons (ps_setLc (i := 8) (own := [("_law_i", 18), ("_law_j", 19)]) (g := gTup K 2 (gCons (gName 18) (gCons (gName 19) gNil))) (tt := tYes) (te := tVar 18) rfl scRight.nd rfl rfl (sw_true rfl rfl rfl (by decide +kernel)) (pi_tup (pv 3))
          (blkOk_by (own := [("_law_i", 18), ("_law_j", 19)]) (N := nRight) (sc := defScope sRight) (by decide +kernel))
          (fun _ _ _ _ _ => pg_tup rfl (pgs_cons (pg_name (i := 18) scRight.nd rfl (.inl rfl)) (pgs_cons (pg_name (i := 19) scRight.nd rfl (.inl rfl)) pgs_nil))) (fun _ _ _ _ _ => pts_nil) (fun _ _ _ _ _ => pv 18))
      (pss_cons (ps_par (i := 9) (j := 10) rfl scRight.nd rfl rfl (by decide) rfl rfl (pa_cons (pe_lst (pa_cons (pv 5) (pa_cons (pv 6) (pa_cons (pv 7) (pa_cons (pv 8) pa_nil))))) (pa_cons (pe_callB (call_reprQ hg hr.units) (by rfl) T.repr (by decide +kernel) (pa_cons (pe_lst (pa_cons (pv 1) (pa_cons (pv 2) (pa_cons (pv 3) pa_nil)))) pa_nil)) pa_nil)) rfl)
      (pss_cons (ps_for PassesOwn.never rfl (pi_range1 rfl T.range (pa_cons pe_int pa_nil)) (pg_name (i := 11) scRight.nd rfl (.inl rfl))
        (pss_cons (ps_set (i := 12) scRight.nd rfl (.inl rfl) (pe_lst (pa_cons (pe_call G.GB hr6 rfl G.mB G.FB.kp G.bB .nil pass0 (pa_cons (pv 1) (pa_cons (pv 2) (pa_cons (pv 3) pa_nil)))) (pa_cons (pe_call G.GG hr7 rfl G.mG G.FG.kp G.bG .nil pass0 (pa_cons (pv 1) (pa_cons (pv 2) (pa_cons (pv 3) pa_nil)))) (pa_cons (pe_call G.GM hr6 rfl G.mM G.FM.kp G.bM .nil pass0 (pa_cons (pv 1) (pa_cons (pv 2) (pa_cons (pv 3) pa_nil)))) pa_nil)))))
        (pss_cons (ps_expr (pe_bm PySem.F.plainAttrs_list PySem.F.slot_list_append PySem.F.type_list_append mt_append (pv 12) (pa_cons (pe_call G.GK hr6 rfl G.mK G.FK.kp G.bK .nil pass0 (pa_cons (pv 1) (pa_cons (pv 2) (pa_cons (pv 3) pa_nil)))) pa_nil)))
        (pss_cons (ps_if (pt_cmpR op_ne (pe_callB (call_reprQ hg hr.units) (by rfl) T.repr (by decide +kernel) (pa_cons (pv 12) pa_nil)) (pe_callB (call_reprQ hg hr.units) (by rfl) T.repr (by decide +kernel) (pa_cons (pv 9) pa_nil)) (nomark _)) (pss_one (ps_ret pe_bl)) pss_nil)
        (pss_one (ps_for PassesOwn.never rfl (pi_list (pv 12)) (pg_name (i := 13) scRight.nd rfl (.inl rfl))
          (pss_one (ps_expr (pe_bm PySem.F.plainAttrs_list PySem.F.slot_list_append PySem.F.type_list_append mt_append (pv 13) (pa_cons pe_non pa_nil)))))))))
      )
      (pss_cons (ps_set (i := 14) scRight.nd rfl (.inl rfl) (pe_lst (pa_cons (pe_callKw G.GB hr6 rfl G.mB G.FB.kp G.kB (fun σ => passP σ) (pk_cons (pv 3) (pk_cons (pv 2) (pk_cons (pe_callTy call_tuple_of (by rfl) T.tuple (by decide +kernel) (pa_cons (pv 1) pa_nil)) pk_nil)))) pa_nil)))
      (pss_cons (ps_expr (pe_bm PySem.F.plainAttrs_list PySem.F.slot_list_append PySem.F.type_list_append mt_append (pv 14) (pa_cons (pe_callKw G.GG hr7 rfl G.mG G.FG.kp G.kG (fun σ => passP σ) (pk_cons (pv 3) (pk_cons (pe_callTy call_tuple_of (by rfl) T.tuple (by decide +kernel) (pa_cons (pv 2) pa_nil)) (pk_cons (pv 1) pk_nil)))) pa_nil)))
      (pss_cons (ps_set (i := 14) scRight.nd rfl (.inl rfl) (pe_op op_cat (pv 14) (pe_lst (pa_cons (pe_callKw G.GM hr6 rfl G.mM G.FM.kp G.kM (fun σ => passP σ) (pk_cons (pv 3) (pk_cons (pv 2) (pk_cons (pv 1) pk_nil)))) (pa_cons (pe_callKw G.GK hr6 rfl G.mK G.FK.kp G.kK (fun σ => passP σ) (pk_cons (pv 3) (pk_cons (pv 2) (pk_cons (pv 1) pk_nil)))) pa_nil)))))
      (pss_cons (ps_if (PW.pt (pw_or (pt_cmpR op_ne (pe_callB (call_reprQ hg hr.units) (by rfl) T.repr (by decide +kernel) (pa_cons (pv 14) pa_nil)) (pe_callB (call_reprQ hg hr.units) (by rfl) T.repr (by decide +kernel) (pa_cons (pv 9) pa_nil)) (nomark _))
          (pw_or1 (pt_cmpR op_ne (pe_callB (call_reprQ hg hr.units) (by rfl) T.repr (by decide +kernel) (pa_cons (pe_lst (pa_cons (pv 1) (pa_cons (pv 2) (pa_cons (pv 3) pa_nil)))) pa_nil)) (pv 10) (nomark _))))) (pss_one (ps_ret pe_bl)) pss_nil)
      (pss_cons (ps_if (PW.pt (pw_or (pt_cmpR (op_neD hr.units) (pe_callB cr_sortedI (by rfl) T2.srt (by decide +kernel) (pa_cons (pe_op op_cat (pv 6) (pv 8)) pa_nil)) (pe_listRg rfl (by rfl) T.list (prg_2 (by rfl) T.range pe_int (pe_op op_add (pe_callB call_len_seq (by rfl) T.len PySem.boot_len (pa_cons (pv 1) pa_nil)) pe_int))) (nomark _))
          (pw_or1 (pt_cmpR op_ne (pe_op op_add (pe_callB call_len_seq (by rfl) T.len PySem.boot_len (pa_cons (pv 7) pa_nil)) (pe_callB call_len_seq (by rfl) T.len PySem.boot_len (pa_cons (pv 8) pa_nil))) (pe_callB call_len_seq (by rfl) T.len PySem.boot_len (pa_cons (pv 2) pa_nil)) (nomark _))))) (pss_one (ps_ret pe_bl)) pss_nil)
      (pss_cons (ps_set (i := 15) scRight.nd rfl (.inl rfl) (pe_make G.M G.GI hr6 rfl G.X.g G.bI .nil pass0 (pa_cons (pe_ix ix_tup (pv 4) pe_int (fun _ _ => rfl)) (pa_cons (pe_ix ix_tup (pv 4) pe_int (fun _ _ => rfl)) (pa_cons (pe_ix ix_tup (pv 4) pe_int (fun _ _ => rfl)) pa_nil)))))
      (pss_cons (ps_set (i := 16) scRight.nd rfl (.inl rfl) (pe_call GLC hr1 rfl mLC FLC.kp bLC .nil pass0 (pa_cons (pv 1) (pa_cons (pv 2) (pa_cons (pv 3) (pa_cons (pv 4) pa_nil))))))
      (pss_cons (ps_set (i := 12) scRight.nd rfl (.inl rfl) (pe_lst (pa_cons (pe_call G.GC hr rfl G.mC G.FC.kp G.bC .nil pass0 (pa_cons (pv 1) (pa_cons (pv 2) (pa_cons (pv 3) (pa_cons (pv 15) pa_nil))))) (pa_cons (pe_callKw G.GC hr rfl G.mC G.FC.kp G.kC (fun σ => passP σ) (pk_cons (pv 15) (pk_cons (pv 3) (pk_cons (pv 2) (pk_cons (pv 1) pk_nil))))) pa_nil))))
      (pss_cons (ps_if (pt_cmpR op_ne (pe_callB (call_reprQ hg hr.units) (by rfl) T.repr (by decide +kernel) (pa_cons (pv 12) pa_nil)) (pe_callB (call_reprQ hg hr.units) (by rfl) T.repr (by decide +kernel) (pa_cons (pe_lst (pa_cons (pv 16) (pa_cons (pv 16) pa_nil))) pa_nil)) (nomark _)) (pss_one (ps_ret pe_bl)) pss_nil)
      (pss_cons (ps_setLc (i := 17) (own := [("_law_k", 20)]) (g := gName 20) (tt := tYes) (te := tCall (spPartner K) [] E0 (tCons (tVar 1) (tCons (tVar 2) (tCons (tVar 3) (tCons (tOp (rI0 fun i j => V.int (i + j)) (tVar 20) (tC (V.int 1))) tNil))))) rfl scRight.nd rfl rfl (sw_true rfl rfl rfl (by decide +kernel))
          (pi_range1 rfl T.range (pa_cons (pe_callB call_len_seq (by rfl) T.len PySem.boot_len (pa_cons (pv 1) pa_nil)) pa_nil))
          (blkOk_by (own := [("_law_k", 20)]) (N := nRight) (sc := defScope sRight) (by decide +kernel))
          (fun _ _ _ _ _ => pg_name (i := 20) scRight.nd rfl (.inl rfl)) (fun _ _ _ _ _ => pts_nil)
          (fun _ _ _ _ _ => pe_call G.GP hr6 rfl G.mP G.FP.kp G.bP .nil pass0 (pa_cons (pv 1) (pa_cons (pv 2) (pa_cons (pv 3) (pa_cons (pe_op op_add (pv 20) pe_int) pa_nil))))))
      (pss_one (ps_ret (pe_cmpR op_eq (pe_callB (call_reprQ hg hr.units) (by rfl) T.repr (by decide +kernel) (pa_cons (pv 17) pa_nil)) (pe_callB (call_reprQ hg hr.units) (by rfl) T.repr (by decide +kernel) (pa_cons (pe_lc (own := [("_law_k", 20)]) (g := gName 20) (tt := tYes) (te := tDGet1 (tCB (rDictT K) (tCons (tVar 3) tNil)) (tOp (rI0 fun i j => V.int (i + j)) (tVar 20) (tC (V.int 1)))) rfl scRight.nd
          (pi_range1 rfl T.range (pa_cons (pe_callB call_len_seq (by rfl) T.len PySem.boot_len (pa_cons (pv 1) pa_nil)) pa_nil))
          (blkOk_by (own := [("_law_k", 20)]) (N := nRight) (sc := defScope sRight) (by decide +kernel))
          (fun _ _ _ _ _ => pg_name (i := 20) scRight.nd rfl (.inl rfl)) (fun _ _ _ _ _ => pts_nil)
          (fun _ _ _ _ _ => pe_dget1 hu (pe_callTy (call_dictT rfl) (by rfl) (T.all "dict" (by decide)) (by decide +kernel) (pa_cons (pv 3) pa_nil)) (pe_op op_add (pv 20) pe_int) ⟨rfl, rfl, rfl, rfl⟩)) pa_nil)) (nomark _)))))))))))))))))), ?_⟩
    have l1 := k1.le
    have l2 := k2.le
    have dl := df_len hd
    have hbd := hd.bd
    have bl := blocks_len ss1.length ss2.length ps
    have bin : ∀ b ∈ blocksL ss1.length ss2.length ps, In4 60 60 b := fun b hb => (blocks_in hbd b hb).le l1 l2
    have gb := go_blocks hd.2 hbd
    have cb := come_blocks hd.2 hbd
    have glen : (goneL ss1.length ps).length ≤ 60 := Nat.le_trans (outL_len _ _) l1
    have clen : (comeL ss2.length ps).length ≤ 60 := Nat.le_trans (outL_len _ _) l2
    have SD := shw_due (bs := blocksL ss1.length ss2.length ps) (g := goneL ss1.length ps) (c := comeL ss2.length ps) (k := keptL ps) bin (by omega) (fun i hi => Nat.le_trans (outL_le hi) l1) glen (fun i hi => Nat.le_trans (outL_le hi) l2) clen (fun i hi => by
      obtain ⟨q, hq, rfl⟩ := List.mem_map.mp hi
      exact Nat.le_trans (hbd q hq).2.1 l1) (by unfold keptL; rw [List.length_map]; omega)
    have S3 := shw_three k1.wd k2.wd l1 l2 hd
    have dq3 : ∀ {Gh : Hp} {p : Addr}, Gh p = some (.lst [x1, x2, .ref t]) → LsAt Gh x1 ss1 → LsAt Gh x2 ss2 → DfV K Gh (.ref t) ps → Dq K Gh (.ref p) (threeD ss1 ss2 ps) := fun {Gh p} h j1 j2 j3 => by
      obtain ⟨a1, rfl, _⟩ := id j1
      obtain ⟨a2, rfl, _⟩ := id j2
      exact .lst (SqL.of h) (.cons j1.dq (.cons j2.dq (.cons j3 .nil)))
    refine ⟨_, rfl, a, rfl, hpot, fun xf pl o H1 hp1 b1 hfee hoo hpl => ?_⟩
    replace k1 := k1.but b1 hpot
    replace k2 := k2.but b1 hpot
    replace hx := hx.but b1 hpot
    have hv : DfV K H1 (.ref t) ps := hx.v
    refine ⟨_, rfl, _, rfl, _, rfl, x1, x2, .ref t, ss1, ss2, ps, rfl, k1.t, k2.t, hv, hd, fun lb rb H2 s2 nlb hlb hbb => ⟨_, _, rfl, ?_⟩⟩
    refine ⟨_, rfl, lb, rb, _, rfl, hlb, hbb, by omega, bin, by rw [gb]; exact glen, by rw [cb]; exact clen, fun p2 g c H3 s3 hp3 hg3 hc3 gc np ng nc => ?_⟩
    rw [gb] at hg3
    rw [cb] at hc3
    have s13 := s2.trans s3
    refine ⟨p2, _, rfl, SqL.of hp3, rfl, _, _, rfl, _, _, rfl, rfl, ?_⟩
    obtain ⟨tt, xs, ett, htp, hl, hxi⟩ := id hv.items
    cases ett
    refine ⟨_, rfl, t, rfl, ⟨_, XR.Same.tup s13 htp⟩, fun D nD => ?_⟩
    have sD := same_upd (o := .lst []) nD
    refine lc_tup (K := K) (a := t) (xs := xs) (fun i H' => Same H3 H' ∧ H' D = some (.lst (intsV (keptL (ps.take i))))) ⟨sD, upd_same⟩ (fun i H' _ hh => XR.Same.tup (s13.trans hh.1) htp) ?_ ?_
    · rintro i x H' hi ⟨sm, hD⟩
      obtain ⟨q, r, hq, rfl, hr'⟩ := hxi i x hi
      refine ⟨r, _, rfl, XR.Same.tup (s13.trans sm) hr', rfl, _, _, rfl, _, _, rfl, rfl, rfl, ?_⟩
      unfold tYes
      dsimp only
      rw [if_pos rfl]
      refine ⟨_, rfl, _, hD, ?_, fun b o h => ?_, ?_⟩
      · unfold intsV keptL
        rw [List.length_map, List.length_map, List.length_take]
        exact Nat.lt_of_le_of_lt (show min i ps.length ≤ 60 by omega) (by decide)
      · rw [upd_ne (ne_of_none h nD)]
        exact sm _ _ h
      · rw [upd_same, List.take_add_one, hq]
        unfold intsV keptL
        rw [List.map_append, List.map_append]
        rfl
    rintro H4 ⟨s4, hD⟩
    rw [hl, List.take_length] at hD
    have s14 := s13.trans s4
    refine ⟨_, rfl, _, rfl, _, rfl, _, rfl, ll20 (by show 4 ≤ 20; decide), fun dd nd => ?_⟩
    have sd := same_upd (o := .lst [V.ref lb, V.ref g, V.ref c, V.ref D]) nd
    have hdd := upd_same (H := H4) (a := dd) (o := .lst [V.ref lb, V.ref g, V.ref c, V.ref D])
    have s15 := s14.trans sd
    have hD5 := sd _ _ hD
    have s35 := s4.trans sd
    generalize upd H4 dd (.lst [V.ref lb, V.ref g, V.ref c, V.ref D]) = H5 at hdd s15 hD5 s35 ⊢
    have hg5 := s35 _ _ hg3
    have hc5 := s35 _ _ hc3
    have hlb5 := (s3.trans s35) _ _ hlb
    have hbb5 := hbb.same (s3.trans s35)
    have hfee5 := hfee.same s15
    replace k1 := k1.same s15
    replace k2 := k2.same s15
    replace hx := hx.same s15
    replace hv := hv.same s15
    have dqD : ∀ Hx, Same H5 Hx → Dq K Hx (.ref dd) (fourDue (blocksL ss1.length ss2.length ps) (goneL ss1.length ps) (comeL ss2.length ps) (keptL ps)) := fun Hx sx =>
      .lst (SqL.of (sx _ _ hdd)) (.cons (dq_blk (sx _ _ hlb5) (hbb5.same sx)) (.cons (dq_nums (sx _ _ hg5)) (.cons (dq_nums (sx _ _ hc5)) (.cons (dq_nums (sx _ _ hD5)) .nil))))
    refine ⟨_, rfl, _, rfl, _, rfl, ll20 (by show 3 ≤ 20; decide), fun b9 nb9 => ?_⟩
    have s9 := same_upd (o := .lst [x1, x2, V.ref t]) nb9
    refine ⟨_, threeD ss1 ss2 ps, rfl, dq3 upd_same (k1.same s9) (k2.same s9) (hv.same s9), S3.ok, S3.line (by decide), S3.low (by decide), _, _, rfl, ?_⟩
    have s16 : Same H5 (upd H5 b9 (.lst [x1, x2, V.ref t])) := s9
    generalize upd H5 b9 (.lst [x1, x2, V.ref t]) = H6 at s16 ⊢
    clear s9 nb9 nd sd hD nD hp3 np ng nc hlb hbb hg3 hc3 nlb
    refine ⟨2, rfl, by decide, by decide, ?_⟩
    refine for_range (n := 2) (fun i σ H' => Same H5 H' ∧ ∃ y11 y12 y13, σ = [some (V.ref a), some x1, some x2, some (V.ref t), some xf, some (V.ref lb), some (V.ref g), some (V.ref c), some (V.ref D), some (V.ref dd), some (V.str (threeD ss1 ss2 ps).shown), y11, y12, y13, none, none, none, none, none, none, none]) ⟨s16, _, _, _, rfl⟩ ?_ ?_
    · rintro i σ Hi hi ⟨si, y11, y12, y13, rfl⟩
      have v5 := hv.same si
      have t1 := (k1.same si).t (K := K)
      have t2 := (k2.same si).t (K := K)
      refine ⟨_, rfl, _, rfl, _, rfl, x1, x2, .ref t, ss1, ss2, ps, rfl, t1, t2, v5, hd, fun q1 r1 Ha sa n1 h1 hb1 => ?_⟩
      refine ⟨_, rfl, _, rfl, _, rfl, x1, x2, .ref t, ss1, ss2, ps, rfl, t1.same sa, t2.same sa, v5.same sa, hd, fun q2 Hb sb n2 h2 => ?_⟩
      have sab := sa.trans sb
      refine ⟨_, rfl, _, rfl, _, rfl, x1, x2, .ref t, ss1, ss2, ps, rfl, t1.same sab, t2.same sab, v5.same sab, hd, fun q3 Hc sc n3 h3 => ⟨ll20 (by show 3 ≤ 20; decide), fun tl nt => ?_⟩⟩
      have sac := sab.trans sc
      have st := same_upd (o := .lst [V.ref q1, V.ref q2, V.ref q3]) nt
      have ht := upd_same (H := Hc) (a := tl) (o := .lst [V.ref q1, V.ref q2, V.ref q3])
      have NT : ∀ G', Same (upd Hc tl (.lst [V.ref q1, V.ref q2, V.ref q3])) G' → ∀ o', Same Hc (upd G' tl o') := fun G' s o' => same_new nt s
      have ntc : Hc tl = none := nt
      generalize upd Hc tl (.lst [V.ref q1, V.ref q2, V.ref q3]) = Hd at st ht NT ⊢
      have sad := sac.trans st
      refine ⟨_, rfl, .inl ⟨rfl, _, SqL.of ht⟩, _, rfl, _, rfl, _, rfl, x1, x2, .ref t, ss1, ss2, ps, rfl, t1.same sad, t2.same sad, v5.same sad, hd, fun q4 He se n4 h4 => ?_⟩
      have hte := se _ _ ht
      refine ⟨tl, _, _, rfl, rfl, hte, by show 3 < sizeLine; decide, ?_⟩
      have e41 : tl ≠ q4 := fun e => by rw [← e, ht] at n4; cases n4
      have scf := NT He se (.lst ([V.ref q1, V.ref q2, V.ref q3] ++ [V.ref q4]))
      have hf4 : upd He tl (.lst ([V.ref q1, V.ref q2, V.ref q3] ++ [V.ref q4])) q4 = some (.lst (intsV (keptL ps))) := by rw [upd_ne e41.symm]; exact h4
      have htf := upd_same (H := He) (a := tl) (o := .lst ([V.ref q1, V.ref q2, V.ref q3] ++ [V.ref q4]))
      generalize upd He tl (.lst ([V.ref q1, V.ref q2, V.ref q3] ++ [V.ref q4])) = Hf at scf hf4 htf ⊢
      have hf3 := scf _ _ h3
      have hf2 := scf _ _ (sc _ _ h2)
      have hf1 := scf _ _ (sc _ _ (sb _ _ h1))
      have hfb := hb1.same (sb.trans (sc.trans scf))
      have saf := sac.trans scf
      refine ⟨_, rfl, _, fourDue (blocksL ss1.length ss2.length ps) (goneL ss1.length ps) (comeL ss2.length ps) (keptL ps), rfl, .lst (SqL.of htf) (.cons (dq_blk hf1 hfb) (.cons (dq_nums hf2) (.cons (dq_nums hf3) (.cons (dq_nums hf4) .nil)))), SD.ok, SD.line (by decide), SD.low (by decide), ?_⟩
      refine ⟨_, rfl, _, fourDue (blocksL ss1.length ss2.length ps) (goneL ss1.length ps) (comeL ss2.length ps) (keptL ps), rfl, dqD Hf (si.trans saf), SD.ok, SD.line (by decide), SD.low (by decide), rfl, _, rfl, ?_⟩
      rw [nb_true]
      refine iteF ?_
      have m1 : Hi q1 = none := n1
      have m2 : Hi q2 = none := none_before sa n2
      have m3 : Hi q3 = none := none_before sab n3
      have m4 : Hi q4 = none := none_before sad n4
      have w1 : tl ≠ q1 := fun e => by rw [e, sc _ _ (sb _ _ h1)] at ntc; cases ntc
      have w2 : tl ≠ q2 := fun e => by rw [e, sc _ _ h2] at ntc; cases ntc
      have w3 : tl ≠ q3 := fun e => by rw [e, h3] at ntc; cases ntc
      refine ⟨_, rfl, tl, rfl, ⟨_, SqL.of htf⟩, ?_⟩
      have rlen : r1.length ≤ 61 := by rw [hb1.1]; omega
      refine for_list (K := K) (a := tl) (xs := [V.ref q1, V.ref q2, V.ref q3] ++ [V.ref q4]) (fun j σ H' => Same Hi H' ∧ H' tl = some (.lst ([V.ref q1, V.ref q2, V.ref q3] ++ [V.ref q4])) ∧ (∀ q ∈ [q1, q2, q3, q4], ∃ ys, H' q = some (.lst ys) ∧ ys.length ≤ 61 + j) ∧ ∃ y11 y12 y13, σ = [some (V.ref a), some x1, some x2, some (V.ref t), some xf, some (V.ref lb), some (V.ref g), some (V.ref c), some (V.ref D), some (V.ref dd), some (V.str (threeD ss1 ss2 ps).shown), y11, y12, y13, none, none, none, none, none, none, none])
        ⟨saf, htf, fun q hq => ?_, _, _, _, rfl⟩ (fun j σ H' _ hh => SqL.of hh.2.1) ?_ ?_
      · simp only [List.mem_cons, List.not_mem_nil, or_false] at hq
        have keptlen : (keptL ps).length ≤ 60 := by unfold keptL; rw [List.length_map]; omega
        rcases hq with rfl | rfl | rfl | rfl
        · exact ⟨_, hf1, by unfold refs; rw [List.length_map]; exact rlen⟩
        · exact ⟨_, hf2, by unfold intsV; rw [List.length_map]; exact Nat.le_trans glen (by omega)⟩
        · exact ⟨_, hf3, by unfold intsV; rw [List.length_map]; exact Nat.le_trans clen (by omega)⟩
        · exact ⟨_, hf4, by unfold intsV; rw [List.length_map]; omega⟩
      · rintro j x σ Hj hxj ⟨sj, htj, hq, y11, y12, y13, rfl⟩
        obtain ⟨q, hqm, rfl⟩ : ∃ q ∈ [q1, q2, q3, q4], x = V.ref q := by
          have hm := List.mem_of_getElem? hxj
          simp only [List.cons_append, List.nil_append, List.mem_cons, List.not_mem_nil, or_false] at hm
          rcases hm with rfl | rfl | rfl | rfl
          · exact ⟨q1, by simp, rfl⟩
          · exact ⟨q2, by simp, rfl⟩
          · exact ⟨q3, by simp, rfl⟩
          · exact ⟨q4, by simp, rfl⟩
        obtain ⟨ys, hys, ly⟩ := hq q hqm
        have mq : Hi q = none := by
          simp only [List.mem_cons, List.not_mem_nil, or_false] at hqm
          rcases hqm with rfl | rfl | rfl | rfl
          · exact m1
          · exact m2
          · exact m3
          · exact m4
        have wq : tl ≠ q := by
          simp only [List.mem_cons, List.not_mem_nil, or_false] at hqm
          rcases hqm with rfl | rfl | rfl | rfl
          · exact w1
          · exact w2
          · exact w3
          · exact e41
        have hj4 : j < 4 := (List.getElem?_eq_some_iff.mp hxj).1
        refine ⟨_, rfl, .inl ⟨rfl, _, SqL.of hys⟩, q, ys, .non, rfl, rfl, hys, Nat.lt_of_le_of_lt (show ys.length ≤ 65 by omega) (by decide), fun b o h => ?_, ?_, fun u hu => ?_, _, _, _, rfl⟩
        · rw [upd_ne (ne_of_none h mq)]
          exact sj _ _ h
        · rw [upd_ne wq]; exact htj
        · by_cases e : u = q
          · rw [e]
            exact ⟨_, upd_same, by rw [List.length_append]; show ys.length + 1 ≤ _; omega⟩
          · obtain ⟨zs, hz, lz⟩ := hq u hu
            exact ⟨zs, by rw [upd_ne e]; exact hz, by omega⟩
      · rintro σ Hj ⟨sj, htj, hq, y11, y12, y13, rfl⟩
        exact ⟨si.trans sj, _, _, _, rfl⟩
    · rintro σ H7 ⟨s7, y11, y12, y13, rfl⟩
      obtain ⟨a1, rfl, ha1, _, _⟩ := id k1
      obtain ⟨a2, rfl, ha2, _, _⟩ := id k2
      refine ⟨_, rfl, _, rfl, _, rfl, a1, _, rfl, .inl ⟨SqL.of (s7 _ _ ha1), fun um nm => ?_⟩⟩
      have sm := same_upd (o := .tup (ss1.map V.str)) nm
      have hm := upd_same (H := H7) (a := um) (o := .tup (ss1.map V.str))
      generalize upd H7 um (.tup (ss1.map V.str)) = H8 at sm hm ⊢
      have s8 := s7.trans sm
      refine ⟨.ref um, .ref a2, .ref t, ss1, ss2, ps, rfl, tup_text (.inl (.inl hm)) k1.wd k1.le, (k2.same s8).t, hv.same s8, hd, fun q1 r1 H9 s9 n1 h1 hb1 => ⟨ll20 (by show 1 ≤ 20; decide), fun tl nt => ?_⟩⟩
      have s59 := s8.trans s9
      have st := same_upd (o := .lst [V.ref q1]) nt
      have ht := upd_same (H := H9) (a := tl) (o := .lst [V.ref q1])
      have NT : ∀ G', Same (upd H9 tl (.lst [V.ref q1])) G' → ∀ o', Same H9 (upd G' tl o') := fun G' s o' => same_new nt s
      generalize upd H9 tl (.lst [V.ref q1]) = H10 at st ht NT ⊢
      have s510 := s59.trans st
      refine ⟨_, rfl, .inl ⟨rfl, _, SqL.of ht⟩, _, rfl, _, rfl, a2, _, rfl, .inl ⟨SqL.of (s510 _ _ ha2), fun um2 nm2 => ?_⟩⟩
      have sm2 := same_upd (o := .tup (ss2.map V.str)) nm2
      have hm2 := upd_same (H := H10) (a := um2) (o := .tup (ss2.map V.str))
      generalize upd H10 um2 (.tup (ss2.map V.str)) = H11 at sm2 hm2 ⊢
      have s511 := s510.trans sm2
      refine ⟨_, rfl, .ref a1, .ref um2, .ref t, ss1, ss2, ps, rfl, (k1.same s511).t, tup_text (.inl (.inl hm2)) k2.wd k2.le, hv.same s511, hd, fun q2 H12 s12 n2 h2 => ?_⟩
      have ht12 := (sm2.trans s12) _ _ ht
      refine ⟨tl, _, _, rfl, rfl, ht12, by show 1 < sizeLine; decide, ?_⟩
      have w2 : q2 ≠ tl := fun e => by rw [e, sm2 _ _ ht] at n2; cases n2
      have s913 := NT H12 (sm2.trans s12) (.lst ([V.ref q1] ++ [V.ref q2]))
      have h2' : upd H12 tl (.lst ([V.ref q1] ++ [V.ref q2])) q2 = some (.lst (intsV (goneL ss1.length ps))) := by rw [upd_ne w2]; exact h2
      have ht13 := upd_same (H := H12) (a := tl) (o := .lst ([V.ref q1] ++ [V.ref q2]))
      generalize upd H12 tl (.lst ([V.ref q1] ++ [V.ref q2])) = H13 at s913 h2' ht13 ⊢
      have s513 := s59.trans s913
      have h1' := s913 _ _ h1
      have hb1' := hb1.same s913
      clear NT st ht sm2 hm2 s12 n2 h2 ht12 s510 s511 hm sm nt
      refine ⟨_, rfl, _, rfl, _, rfl, _, rfl, .ref a1, .ref a2, .ref t, ss1, ss2, ps, rfl, (k1.same s513).t, (k2.same s513).t, hv.same s513, hd, fun q3 H14 s14' n3 h3 => ?_⟩
      have s514 := s513.trans s14'
      refine ⟨_, rfl, _, rfl, _, rfl, .ref a1, .ref a2, .ref t, ss1, ss2, ps, rfl, (k1.same s514).t, (k2.same s514).t, hv.same s514, hd, fun q4 H15 s15' n4 h4 => ⟨ll20 (by show 2 ≤ 20; decide), fun lq nlq => ?_⟩⟩
      have sq := same_upd (o := .lst [V.ref q3, V.ref q4]) nlq
      have hq := upd_same (H := H15) (a := lq) (o := .lst [V.ref q3, V.ref q4])
      generalize upd H15 lq (.lst [V.ref q3, V.ref q4]) = H16 at sq hq ⊢
      have s1316 := s14'.trans (s15'.trans sq)
      refine ⟨_, _, _, _, rfl, rfl, s1316 _ _ ht13, hq, ll20 (by show 4 ≤ 20; decide), fun L nL => ?_⟩
      have sL := same_upd (o := .lst ([V.ref q1] ++ [V.ref q2] ++ [V.ref q3, V.ref q4])) nL
      have hL := upd_same (H := H16) (a := L) (o := .lst ([V.ref q1] ++ [V.ref q2] ++ [V.ref q3, V.ref q4]))
      have s1317 := s1316.trans sL
      have h1L := s1317 _ _ h1'
      have hbL := hb1'.same s1317
      have h2L := s1317 _ _ h2'
      have h3L := (s15'.trans (sq.trans sL)) _ _ h3
      have h4L := (sq.trans sL) _ _ h4
      have s517 := s513.trans s1317
      generalize upd H16 L (.lst ([V.ref q1] ++ [V.ref q2] ++ [V.ref q3, V.ref q4])) = H17 at hL h1L hbL h2L h3L h4L s517 ⊢
      refine ⟨_, rfl, _, fourDue (blocksL ss1.length ss2.length ps) (goneL ss1.length ps) (comeL ss2.length ps) (keptL ps), rfl, .lst (SqL.of hL) (.cons (dq_blk h1L hbL) (.cons (dq_nums h2L) (.cons (dq_nums h3L) (.cons (dq_nums h4L) .nil)))), SD.ok, SD.line (by decide), SD.low (by decide), ?_⟩
      refine ⟨_, rfl, _, fourDue (blocksL ss1.length ss2.length ps) (goneL ss1.length ps) (comeL ss2.length ps) (keptL ps), rfl, dqD H17 s517, SD.ok, SD.line (by decide), SD.low (by decide), rfl, _, rfl, ?_⟩
      rw [nb_true]
      refine iteF ⟨_, rfl, _, rfl, _, rfl, ll20 (by show 3 ≤ 20; decide), fun b8 nb8 => ?_⟩
      have s88 := same_upd (o := .lst [V.ref a1, V.ref a2, V.ref t]) nb8
      have s518 := s517.trans s88
      refine ⟨_, threeD ss1 ss2 ps, rfl, dq3 upd_same (k1.same s518) (k2.same s518) (hv.same s518), S3.ok, S3.line (by decide), S3.low (by decide), _, rfl, rfl, _, rfl, ?_⟩
      rw [nb_true]
      generalize upd H17 b8 (.lst [V.ref a1, V.ref a2, V.ref t]) = H18 at s518 ⊢
      clear s88 nb8 hL h1L hbL h2L h3L h4L s1317 sL nL sq hq nlq s1316
      refine iteF ?_
      have keptlen : (keptL ps).length ≤ 60 := by unfold keptL; rw [List.length_map]; omega
      refine ⟨_, rfl, _, rfl, _, _, _, _, rfl, rfl, s518 _ _ hg5, s518 _ _ hD5, ?_, fun u nu => ?_⟩
      · unfold intsV
        rw [List.length_map, List.length_map]
        exact Nat.le_trans (show _ ≤ 120 by omega) (by decide)
      have eints : intsV (goneL ss1.length ps) ++ intsV (keptL ps) = ((goneL ss1.length ps ++ keptL ps).map fun i : Nat => (i : Int)).map V.int := by
        unfold intsV
        rw [← List.map_append, List.map_map]
        rfl
      rw [eints]
      have su := same_upd (o := .lst (((goneL ss1.length ps ++ keptL ps).map fun i : Nat => (i : Int)).map V.int)) nu
      have hu2 := upd_same (H := H18) (a := u) (o := .lst (((goneL ss1.length ps ++ keptL ps).map fun i : Nat => (i : Int)).map V.int))
      generalize upd H18 u (.lst (((goneL ss1.length ps ++ keptL ps).map fun i : Nat => (i : Int)).map V.int)) = H19 at su hu2 ⊢
      have s519 := s518.trans su
      refine ⟨u, _, rfl, SqL.of hu2, fun ns' pn per srt npn => ?_⟩
      have hri : (keptL ps).Pairwise (· < ·) := by
        unfold keptL
        rw [List.pairwise_map]
        exact hd.2.imp fun h => h.1
      have ens := sorted_is per (gone_kept hri fun k hk => by
        obtain ⟨q, hq, rfl⟩ := List.mem_map.mp hk
        exact ⟨(hbd q hq).1, (hbd q hq).2.1⟩) srt
      subst ens
      have spn := same_upd (o := .lst (((ivL 0 ss1.length).map fun i : Nat => (i : Int)).map V.int)) npn
      have hpn := upd_same (H := H19) (a := pn) (o := .lst (((ivL 0 ss1.length).map fun i : Nat => (i : Int)).map V.int))
      generalize upd H19 pn (.lst (((ivL 0 ss1.length).map fun i : Nat => (i : Int)).map V.int)) = H20 at spn hpn ⊢
      have s520 := s519.trans spn
      refine ⟨_, rfl, a1, _, rfl, .inl (SqL.of (s520 _ _ ha1)), _, _, rfl, rfl, _, _, rfl, rfl, .of_le (by decide) (by rw [List.length_map]; omega) (by decide) (by omega), fun rq nrq => ?_⟩
      have erg : rgV 1 (((ss1.map V.str).length : Int) + 1) = ((ivL 0 ss1.length).map fun i : Nat => (i : Int)).map V.int := by
        rw [List.length_map]
        have := rg_iv 0 ss1.length
        rw [show (((0 : Nat) : Int) + 1) = 1 from rfl] at this
        rw [this]
        unfold intsV
        rw [List.map_map]
        rfl
      rw [erg]
      have srq := same_upd (o := .lst (((ivL 0 ss1.length).map fun i : Nat => (i : Int)).map V.int)) nrq
      have hrq := upd_same (H := H20) (a := rq) (o := .lst (((ivL 0 ss1.length).map fun i : Nat => (i : Int)).map V.int))
      generalize upd H20 rq (.lst (((ivL 0 ss1.length).map fun i : Nat => (i : Int)).map V.int)) = H21 at srq hrq ⊢
      have s521 := s520.trans srq
      have ly := int_lay ((ivL 0 ss1.length).map fun i : Nat => (i : Int))
      refine ⟨.list (((ivL 0 ss1.length).map fun i : Nat => (i : Int)).map .int), .list (((ivL 0 ss1.length).map fun i : Nat => (i : Int)).map .int), .lst (SqL.of (srq _ _ hpn)) (dpInts _), .lst (SqL.of hrq) (dpInts _), ly, ly, _, rfl, ?_⟩
      have ly0 : (PyData.list (((ivL 0 ss1.length).map fun i : Nat => (i : Int)).map .int)).canLay0 = true := by
        unfold SeqAt.shaped at ly
        rw [Bool.and_eq_true] at ly
        exact ly.1
      rw [SeqAt.eqv_refl _ ly0]
      refine iteF ?_
      refine ⟨_, rfl, c, _, rfl, .inl (SqL.of (s521 _ _ hc5)), _, rfl, D, _, rfl, .inl (SqL.of (s521 _ _ hD5)), _, _, rfl, rfl, _, rfl, a2, _, rfl, .inl (SqL.of (s521 _ _ ha2)), rfl, _, rfl, ?_⟩
      have ecn : V.int (((intsV (comeL ss2.length ps)).length : Int) + ((intsV (keptL ps)).length : Int)) = V.int ((ss2.map V.str).length : Int) := by
        have hr2 : (ps.map (·.2)).Pairwise (· < ·) := by
          rw [List.pairwise_map]
          exact hd.2.imp fun h => h.2
        have := gone_count (m := ss2.length) hr2 fun k hk => by
          obtain ⟨q, hq, rfl⟩ := List.mem_map.mp hk
          exact ⟨(hbd q hq).2.2.1, (hbd q hq).2.2.2⟩
        unfold intsV keptL
        rw [List.length_map, List.length_map, List.length_map, List.length_map]
        rw [List.length_map] at this
        unfold comeL
        congr 1
        omega
      show if (!decide (V.int (((intsV (comeL ss2.length ps)).length : Int) + ((intsV (keptL ps)).length : Int)) = V.int ((ss2.map V.str).length : Int))) = true then _ else _
      rw [ecn, nb_true]
      refine iteF ?_
      obtain ⟨tf, dk, kvs, rfl, htf, hdk, ho⟩ := hfee5.same s521
      refine ⟨_, rfl, tf, _, _, _, rfl, rfl, .inl (.inl htf), atI_nat (j := 0) rfl, _, rfl, tf, _, _, _, rfl, rfl, .inl (.inl htf), atI_nat (j := 1) rfl, _, rfl, tf, _, _, _, rfl, rfl, .inl (.inl htf), atI_nat (j := 2) rfl, fun x0 dx0 nx ndx nex => ?_⟩
      have sx : Same H21 (upd (upd H21 dx0 (.own x0)) x0 (.ins C dx0 [])) := fun b o e => by
        rw [upd_ne (ne_of_none e nx), upd_ne (ne_of_none e ndx)]
        exact e
      refine ⟨x0, dx0, dk, pl.1, pl.2, kvs, o, rfl, upd_same, sx _ _ hdk, ho.same sx, hoo, hpl, fun H22 o' b22 hc22 e22 => ⟨rfl, ?_⟩⟩
      have s2122 : Same H21 H22 := fun b o e => b22 _ _ (sx _ _ e) (ne_of_none e nx)
      have s522 := s521.trans s2122
      have hcs : CsV K C H22 (.ref x0) (ofC pl o) := ⟨x0, (pl.1, pl.2), o', rfl, hc22, fun s => (e22 s).symm⟩
      refine ⟨_, rfl, _, rfl, _, rfl, _, rfl, .ref a1, .ref a2, .ref t, .ref tf, ss1, ss2, ps, pl, o, rfl, k1.same s522, k2.same s522, hv.same s522, hd, ⟨tf, dk, kvs, rfl, s2122 _ _ htf, s2122 _ _ hdk, ho.same s2122⟩, fun H23 s23 => ?_⟩
      have s523 := s522.trans s23
      refine ⟨_, rfl, _, rfl, _, rfl, _, rfl, .ref a1, .ref a2, .ref t, .ref x0, ss1, ss2, ps, _, rfl, (k1.same s523).t, (k2.same s523).t, hv.same s523, hd, hcs.same s23, fun H24 s24 => ?_⟩
      have s524 := s523.trans s24
      refine ⟨_, rfl, _, rfl, _, rfl, _, rfl, .ref a1, .ref a2, .ref t, .ref x0, ss1, ss2, ps, _, rfl, (k1.same s524).t, (k2.same s524).t, hv.same s524, hd, (hcs.same s23).same s24, fun H25 s25 => ⟨ll20 (by show 2 ≤ 20; decide), fun tl2 nt2 => ?_⟩⟩
      have s525 := s524.trans s25
      have mb := costL_bd hoo hpl (ps := ps) l1 l2
      have SM : Shw 64 2 (.list [.int (costL (ofC pl o) ss1 ss2 ps), .int (costL (ofC pl o) ss1 ss2 ps)]) := Shw.list (n := 29) (k := 1) (m := 2) (fun d hd => by
        simp only [List.mem_cons, List.not_mem_nil, or_false] at hd
        rcases hd with rfl | rfl <;> exact shw_int mb.1 mb.2) (Nat.le_refl 2)
      have st2 := same_upd (o := .lst [V.int (costL (ofC pl o) ss1 ss2 ps), V.int (costL (ofC pl o) ss1 ss2 ps)]) nt2
      have ht2 := upd_same (H := H25) (a := tl2) (o := .lst [V.int (costL (ofC pl o) ss1 ss2 ps), V.int (costL (ofC pl o) ss1 ss2 ps)])
      generalize upd H25 tl2 (.lst [V.int (costL (ofC pl o) ss1 ss2 ps), V.int (costL (ofC pl o) ss1 ss2 ps)]) = H26 at st2 ht2 ⊢
      have s526 := s525.trans st2
      refine ⟨_, rfl, _, .list [.int (costL (ofC pl o) ss1 ss2 ps), .int (costL (ofC pl o) ss1 ss2 ps)], rfl, .lst (SqL.of ht2) (.cons (.int _) (.cons (.int _) .nil)), SM.ok, SM.line (by decide), SM.low (by decide), ?_⟩
      refine ⟨_, rfl, _, rfl, ll20 (by show 2 ≤ 20; decide), fun tl3 nt3 => ?_⟩
      have st3 := same_upd (o := .lst [V.int (costL (ofC pl o) ss1 ss2 ps), V.int (costL (ofC pl o) ss1 ss2 ps)]) nt3
      have s527 := s526.trans st3
      refine ⟨_, .list [.int (costL (ofC pl o) ss1 ss2 ps), .int (costL (ofC pl o) ss1 ss2 ps)], rfl, .lst (SqL.of upd_same) (.cons (.int _) (.cons (.int _) .nil)), SM.ok, SM.line (by decide), SM.low (by decide), rfl, _, rfl, ?_⟩
      rw [nb_true]
      generalize upd H26 tl3 (.lst [V.int (costL (ofC pl o) ss1 ss2 ps), V.int (costL (ofC pl o) ss1 ss2 ps)]) = H27 at st3 s527 ⊢
      refine iteF ?_
      have SF := shw_fars hd l2 l1
      refine ⟨_, rfl, a1, _, rfl, .inl (SqL.of (s527 _ _ ha1)), _, rfl, by omega, by rw [List.length_map]; omega, fun D3 nD3 => ?_⟩
      rw [List.length_map]
      have en : ((ss1.length : Nat) : Int).toNat = ss1.length := by omega
      rw [en]
      have sD3 := same_upd (o := .lst []) nD3
      refine lc_range (lo := 0) (n := ss1.length) (fun i H' => Same H27 H' ∧ H' D3 = some (.lst (farsV ps i))) ⟨sD3, upd_same⟩ ?_ ?_
      · rintro i H' hi ⟨sm, hD3⟩
        refine ⟨rfl, ?_⟩
        unfold tYes
        dsimp only
        rw [if_pos rfl]
        have sa := s527.trans sm
        refine ⟨_, rfl, _, rfl, _, rfl, _, rfl, _, _, rfl, rfl, .ref a1, .ref a2, .ref t, ss1, ss2, ps, i + 1, by show ([V.ref a1, V.ref a2, V.ref t, V.int ((0 : Int) + (i : Int) + 1)] : List V) = _; rw [show ((0 : Int) + (i : Int) + 1) = ((i + 1 : Nat) : Int) by omega], (k1.same sa).t, (k2.same sa).t, hv.same sa, hd, by omega, by omega, fun H'' s'' => ?_⟩
        refine ⟨_, s'' _ _ hD3, ?_, fun b o h => ?_, ?_⟩
        · unfold farsV
          rw [List.length_map, List.length_range]
          exact Nat.lt_of_lt_of_le (show i < 61 by omega) (by decide)
        · rw [upd_ne (ne_of_none h nD3)]
          exact s'' _ _ (sm _ _ h)
        · rw [upd_same, farsV_succ]
      rintro H28 ⟨s28', hD3⟩
      have s528 := s527.trans s28'
      refine ⟨_, rfl, _, farsD ps ss1.length, rfl, dq_fars hD3, SF.ok, SF.line (by decide), SF.low (by decide), ?_⟩
      refine ⟨_, rfl, a1, _, rfl, .inl (SqL.of (s528 _ _ ha1)), _, rfl, by omega, by rw [List.length_map]; omega, fun D4 nD4 => ?_⟩
      rw [List.length_map, en]
      have sD4 := same_upd (o := .lst []) nD4
      refine lc_range (lo := 0) (n := ss1.length) (fun i H' => Same H28 H' ∧ H' D4 = some (.lst (farsV ps i))) ⟨sD4, upd_same⟩ ?_ ?_
      · rintro i H' hi ⟨sm, hD4⟩
        refine ⟨rfl, ?_⟩
        unfold tYes
        dsimp only
        rw [if_pos rfl]
        have sa := s528.trans sm
        obtain ⟨ob, rsx, g1, g2, g3, g4⟩ := hx.same sa
        refine ⟨_, rfl, t, ob, rsx, mapK ps, rfl, g1, g2, g3, ps_paired g4, fun dn ndn => ?_⟩
        rw [merge_df hd]
        have sdn := same_upd (o := .dK (mapK ps)) ndn
        have hdn := upd_same (H := H') (a := dn) (o := .dK (mapK ps))
        refine ⟨dn, rfl, .inl ⟨_, .of hdn⟩, _, rfl, _, _, rfl, rfl, (valV (mapK ps) (Sum.inl ((i + 1 : Nat) : Int))), ?_, ?_⟩
        · have := DGet.k (k := Sum.inl ((i + 1 : Nat) : Int)) hdn
          show DGet _ dn (V.int ((0 : Int) + (i : Int) + 1)) _
          rw [show ((0 : Int) + (i : Int) + 1) = ((i + 1 : Nat) : Int) by omega]
          exact this
        · rw [valV_map]
          have ef : ((far ps (i + 1)).map fun k => V.int (k : Int)).getD .non = farV ps (i + 1) := by
            unfold farV
            cases far ps (i + 1) <;> rfl
          refine ⟨_, sdn _ _ hD4, ?_, fun b o h => ?_, ?_⟩
          · unfold farsV
            rw [List.length_map, List.length_range]
            exact Nat.lt_of_lt_of_le (show i < 61 by omega) (by decide)
          · rw [upd_ne (ne_of_none h nD4)]
            exact sdn _ _ (sm _ _ h)
          · rw [upd_same, farsV_succ, ef]
      rintro H29 ⟨s29', hD4⟩
      refine ⟨_, farsD ps ss1.length, rfl, dq_fars hD4, SF.ok, SF.line (by decide), SF.low (by decide), rfl, ?_⟩
      rw [decide_eq_true rfl]
      have sfin := s15.trans (s528.trans s29')
      exact z H29 (hp1.same sfin) (b1.same sfin)
end
end K14
namespace XR
open PySem L2
def spLaw (K : PySem.W.Frag) : Sp := fun vs H Q _ => ∃ (a : Addr) (ns : List Int), vs = [.ref a] ∧ SqL K H a (ns.map V.int) ∧ ns.length ≤ 63 ∧ ∀ H', Q (.bl true) H'
theorem But.same_of {p : Addr} {H H1 H2 : Hp} (b : But p H1 H2) (s : Same H H1) (n : H p = none) : Same H H2 := fun q o h => b _ _ (s _ _ h) (ne_of_none h n)
def idD (n : Nat) : List (Nat × Nat) := (List.range n).map fun k => (k + 1, k + 1)
theorem id_df (ss : List Str) : IsDf ss ss (idD ss.length) := by
  refine ⟨fun q hq => ?_, ?_⟩
  · unfold idD at hq
    obtain ⟨k, hk, rfl⟩ := List.mem_map.mp hq
    have := List.mem_range.mp hk
    exact ⟨by show 1 ≤ k + 1; omega, by show k + 1 ≤ _; omega, by show 1 ≤ k + 1; omega, by show k + 1 ≤ _; omega, ss[k], List.getElem?_eq_getElem this, List.getElem?_eq_getElem this⟩
  · unfold idD
    rw [List.pairwise_map]
    exact List.Pairwise.imp (fun {a b} h => ⟨by show a + 1 < b + 1; omega, by show a + 1 < b + 1; omega⟩) List.pairwise_lt_range
theorem emp_x {H : Hp} {t : Addr} {o : Obj} (h : H t = some (.frz o (.tup []))) (h1 : o.cls = .type "tuple") (h2 : o.dict = none) : DfX H t [] := ⟨o, [], h, h1, h2, .nil⟩
end XR
namespace K14
open PySem L2 XR
abbrev sLaw : Stmt := top 48
abbrev nLaw : List Str := ["_law_script", "_law_k", "_law_pot_here", "_law_turn", "_law_elder", "_law_newer", "_law_pairing", "_law_same", "_law_number"]
section
variable {P : Program} {w : World} {K : PySem.W.Frag} {mg : Str → Option Value} {base : Heap}
theorem scLaw : FnScope nLaw ["_law_script"] (defScope sLaw) := ⟨rfl, rfl, rfl, by decide +kernel, rfl, by decide +kernel, by decide +kernel⟩
theorem ok_law {f fPot fTw fDf fR fD fP : Addr} {fd fdPot fdTw fdDf fdR fdD fdP : FuncData} (F : Fun K "law" "law" sLaw f fd) (T : Blt mg) (D : Draws P w K mg base fD fP fdD fdP)
    (FPot : Fun K "_law_pot" "_law_pot" sPot fPot fdPot) (GPot : FnOk P w K mg base CX0 1 fPot fdPot ["_law_script", "_law_index"] (spPot K)) (bPot : Binds K fdPot ["_law_script", "_law_index"] []) (mPot : mg "_law_pot" = some (.ref fPot))
    (FTw : Fun K "_law_two" "_law_two" sTwo fTw fdTw) (GTw : FnOk P w K mg base CX0 4 fTw fdTw ["_law_pot_here", "_law_most"] spTwo) (bTw : Binds K fdTw ["_law_pot_here", "_law_most"] []) (mTw : mg "_law_two" = some (.ref fTw))
    (FDf : Fun K "_law_diff" "_law_diff" sDiff fDf fdDf) (GDf : FnOk P w K mg base CX0 3 fDf fdDf ["_law_pot_here", "_law_elder", "_law_newer"] spDiffX) (bDf : Binds K fdDf ["_law_pot_here", "_law_elder", "_law_newer"] []) (mDf : mg "_law_diff" = some (.ref fDf))
    (FR : Fun K "_law_right" "_law_right" sRight fR fdR) (GR : FnG P w K mg base 9 fR fdR ["_law_pot_here", "_law_elder", "_law_newer", "_law_pairing"] (XR.spRight K)) (bR : Binds K fdR ["_law_pot_here", "_law_elder", "_law_newer", "_law_pairing"] []) (mR : mg "_law_right" = some (.ref fR)) :
    FnG P w K mg base 10 f fd ["_law_script"] (spLaw K) := by
  refine okG F scLaw (fun vs H Q E h => ?_) (fun cdv A outer s H vs Q E hr hg h => ?_)
  · obtain ⟨a, ns, rfl, _⟩ := h
    rfl
  · obtain ⟨a, ns, rfl, hS, hn, z⟩ := h
    have hr1 := hr.mono (show 1 ≤ 9 by decide)
    have hr3 := hr.mono (show 3 ≤ 9 by decide)
    have hr4 := hr.mono (show 4 ≤ 9 by decide)
    refine ⟨_, pss_cons (ps_for PassesOwn.never rfl (pi_range1 rfl T.range (pa_cons (pe_callB (call_max2 rfl) (by rfl) T.max (by decide +kernel) (pa_cons pe_int (pa_cons (pe_callB (call_min2 rfl) (by rfl) T.min (by decide +kernel) (pa_cons pe_int (pa_cons (pe_callB call_len_seq (by rfl) T.len PySem.boot_len (pa_cons (pv 0) pa_nil)) pa_nil))) pa_nil))) pa_nil)) (pg_name (i := 1) scLaw.nd rfl (.inl rfl))
        (pss_cons (ps_set (i := 2) scLaw.nd rfl (.inl rfl) (pe_call GPot hr1 rfl mPot FPot.kp bPot .nil pass0 (pa_cons (pv 0) (pa_cons (pv 1) pa_nil))))
        (pss_one (ps_for PassesOwn.never rfl (pi_range1 rfl T.range (pa_cons pe_int pa_nil)) (pg_name (i := 3) scLaw.nd rfl (.inl rfl))
          (pss_cons (ps_asg (pe_call GTw hr4 rfl mTw FTw.kp bTw .nil pass0 (pa_cons (pv 2) (pa_cons (pe_call D.GP (hr.mono (by decide)) rfl D.mP D.FP.kp D.bP .nil pass0 (pa_cons (pv 2) (pa_cons (pe_lst (pa_cons pe_int (pa_cons pe_int (pa_cons pe_int (pa_cons pe_int pa_nil))))) pa_nil))) pa_nil))) (pg_tup rfl (pgs_cons (pg_name (i := 4) scLaw.nd rfl (.inl rfl)) (pgs_cons (pg_name (i := 5) scLaw.nd rfl (.inl rfl)) pgs_nil))))
          (pss_cons (ps_for PassesOwn.never rfl (pi_list (pe_lst (pa_cons (pe_call GDf hr3 rfl mDf FDf.kp bDf .nil pass0 (pa_cons (pv 2) (pa_cons (pv 4) (pa_cons (pv 5) pa_nil)))) (pa_cons (pe_call GDf hr3 rfl mDf FDf.kp bDf .nil pass0 (pa_cons (pv 2) (pa_cons (pv 4) (pa_cons (pv 5) pa_nil)))) (pa_cons (pe_tupX pa_nil) pa_nil))))) (pg_name (i := 6) scLaw.nd rfl (.inl rfl))
            (pss_one (ps_if (pt_not (pt_val (pe_callG GR hg hr rfl mR FR.kp bR (pa_cons (pv 2) (pa_cons (pv 4) (pa_cons (pv 5) (pa_cons (pv 6) pa_nil))))))) (pss_one (ps_ret pe_bl)) pss_nil)))
          (pss_cons (ps_set (i := 7) scLaw.nd rfl (.inl rfl) (pe_callTy call_tupleX (by rfl) T.tuple (by decide +kernel) (pa_cons (pe_lc (own := [("_law_number", 8)]) (g := gName 8) (tt := tYes)
              (te := tTup (tCons (tOp (rI0 fun i j => V.int (i + j)) (tVar 8) (tC (V.int 1))) (tCons (tOp (rI0 fun i j => V.int (i + j)) (tVar 8) (tC (V.int 1))) tNil))) rfl scLaw.nd
              (pi_range1 rfl T.range (pa_cons (pe_callB call_len_seq (by rfl) T.len PySem.boot_len (pa_cons (pv 4) pa_nil)) pa_nil))
              (blkOk_by (own := [("_law_number", 8)]) (N := nLaw) (sc := defScope sLaw) (by decide +kernel))
              (fun _ _ _ _ _ => pg_name (i := 8) scLaw.nd rfl (.inl rfl)) (fun _ _ _ _ _ => pts_nil)
              (fun _ _ _ _ _ => pe_tup (pa_cons (pe_op op_add (pv 8) pe_int) (pa_cons (pe_op op_add (pv 8) pe_int) pa_nil)))) pa_nil)))
          (pss_one (ps_if (PW.pt (pw_or (pt_not (pt_val (pe_callG GR hg hr rfl mR FR.kp bR (pa_cons (pv 2) (pa_cons (pv 4) (pa_cons (pe_callTy call_list_of (by rfl) T.list (by decide +kernel) (pa_cons (pv 4) pa_nil)) (pa_cons (pv 7) pa_nil))))))) (pw_or1 (pt_not (pt_val (pe_callG GR hg hr rfl mR FR.kp bR (pa_cons (pv 2) (pa_cons (pe_lst pa_nil) (pa_cons (pv 5) (pa_cons (pe_tupX pa_nil) pa_nil)))))))))) (pss_one (ps_ret pe_bl)) pss_nil))))))))
      ) (pss_one (ps_ret pe_bl)), ?_⟩
    have hbd : ∀ L : Int, 0 ≤ L → 1 ≤ (if (if L < 6 then L else 6) > 1 then (if L < 6 then L else 6) else 1) ∧ (if (if L < 6 then L else 6) > 1 then (if L < 6 then L else 6) else 1) ≤ 6 := by
      intro L hL
      split <;> split <;> omega
    refine ⟨_, rfl, a, _, rfl, .inl hS, _, _, rfl, _, _, rfl, ?_⟩
    obtain ⟨b1, b2⟩ := hbd ((ns.map V.int).length : Int) (by omega)
    revert b1 b2
    generalize (if (if ((ns.map V.int).length : Int) < 6 then ((ns.map V.int).length : Int) else 6) > 1 then (if ((ns.map V.int).length : Int) < 6 then ((ns.map V.int).length : Int) else 6) else 1) = m
    intro b1 b2
    refine ⟨m, rfl, by omega, by omega, ?_⟩
    refine for_range (n := m.toNat) (fun k σ H' => Same H H' ∧ ∃ y1 y2 y3 y4 y5 y6 y7, σ = [some (V.ref a), y1, y2, y3, y4, y5, y6, y7, none]) ⟨fun _ _ h => h, _, _, _, _, _, _, _, rfl⟩ ?_ ?_
    · rintro j σ H' hj ⟨sm, y1, y2, y3, y4, y5, y6, y7, rfl⟩
      refine ⟨_, rfl, _, rfl, a, ns, j, by rw [Int.zero_add]; rfl, sm.seq hS, hn, by omega, fun p H1 s1 n1 hp1 => ?_⟩
      have np : H p = none := by
        cases e : H p with
        | none => rfl
        | some o => rw [sm _ _ e] at n1; cases n1
      refine ⟨4, rfl, by decide, by decide, ?_⟩
      refine for_range (n := 4) (fun i σ H2 => PotAt H2 p ∧ But p H1 H2 ∧ ∃ z3 z4 z5 z6 z7, σ = [some (V.ref a), some (V.int (0 + (j : Int))), some (V.ref p), z3, z4, z5, z6, z7, none]) ⟨hp1, But.refl p H1, _, _, _, _, _, rfl⟩ ?_ ?_
      · rintro i σ H2 hi ⟨hp2, c2, z3, z4, z5, z6, z7, rfl⟩
        refine ⟨_, rfl, _, rfl, ll20 (by show 4 ≤ 20; decide), fun q nq => ?_⟩
        have sq := same_upd (o := .lst [V.int 3, V.int 12, V.int 12, V.int 60]) nq
        have hq := upd_same (H := H2) (a := q) (o := .lst [V.int 3, V.int 12, V.int 12, V.int 60])
        have pq := hp2.ne nq
        have hpq := hp2.same sq
        generalize upd H2 q (.lst [V.int 3, V.int 12, V.int 12, V.int 60]) = G0 at sq hq hpq ⊢
        refine ⟨p, q, _, rfl, hpq, hq, pq, by show 0 < 4; decide, by show 4 ≤ 1000; decide, fun x G1 hx hpx bx => ?_⟩
        obtain ⟨mo, rfl, mo1, mo2⟩ : ∃ mo : Int, x = .int mo ∧ 0 ≤ mo ∧ mo ≤ 60 := by
          simp only [List.mem_cons, List.not_mem_nil, or_false] at hx
          rcases hx with rfl | rfl | rfl | rfl
          · exact ⟨3, rfl, by decide, by decide⟩
          · exact ⟨12, rfl, by decide, by decide⟩
          · exact ⟨12, rfl, by decide, by decide⟩
          · exact ⟨60, rfl, by decide, by decide⟩
        have c2' := (c2.same sq).trans bx
        refine ⟨p, mo, rfl, hpx, mo1, mo2, fun t a1 a2 ss1 ss2 H3 hp3 c3 nt na1 na2 ht h1 h2 w1 w2 l1 l2 => ?_⟩
        have k1 : LsAt H3 (.ref a1) ss1 := ⟨a1, rfl, h1, w1, by omega⟩
        have k2 : LsAt H3 (.ref a2) ss2 := ⟨a2, rfl, h2, w2, by omega⟩
        have C3 := c2'.trans c3
        refine ⟨t, _, rfl, .inl (.inl ht), rfl, _, _, rfl, _, _, rfl, rfl, ?_⟩
        refine ⟨_, rfl, _, rfl, _, rfl, p, a1, a2, ss1, ss2, rfl, hp3, k1.at, k2.at, k1.le, k2.le, fun t1 ps1 H4 hp4 c4 n4 x4 d4 => ?_⟩
        have C4 := C3.trans c4
        replace k1 := k1.but c4 hp3
        replace k2 := k2.but c4 hp3
        refine ⟨_, rfl, _, rfl, _, rfl, p, a1, a2, ss1, ss2, rfl, hp4, k1.at, k2.at, k1.le, k2.le, fun t2 ps2 H5 hp5 c5 n5 x5 d5 => ?_⟩
        have C5 := C4.trans c5
        replace k1 := k1.but c5 hp4
        replace k2 := k2.but c5 hp4
        replace x4 := x4.but c5 hp4
        refine ⟨by show 0 ≤ sizeLine; exact Nat.zero_le _, fun t3 ob n6 hcl hdn => ?_⟩
        have s6 := same_upd (o := .frz ob (.tup [])) n6
        have x6 : DfX (upd H5 t3 (.frz ob (.tup []))) t3 [] := emp_x upd_same hcl hdn
        have hp6 := hp5.same s6
        have C6 := C5.same s6
        replace k1 := k1.same s6
        replace k2 := k2.same s6
        replace x4 := x4.same s6
        replace x5 := x5.same s6
        refine ⟨ll20 (by show 3 ≤ 20; decide), fun l nl => ⟨l, rfl, ⟨_, SqL.of upd_same⟩, ?_⟩⟩
        generalize upd H5 t3 (.frz ob (.tup [])) = G5 at hp6 C6 k1 k2 x4 x5 x6 nl ⊢
        have sl := same_upd (o := .lst [V.ref t1, V.ref t2, V.ref t3]) nl
        have hl := upd_same (H := G5) (a := l) (o := .lst [V.ref t1, V.ref t2, V.ref t3])
        have pl := hp6.ne nl
        replace hp6 := hp6.same sl
        replace C6 := C6.same sl
        replace k1 := k1.same sl
        replace k2 := k2.same sl
        replace x4 := x4.same sl
        replace x5 := x5.same sl
        replace x6 := x6.same sl
        generalize upd G5 l (.lst [V.ref t1, V.ref t2, V.ref t3]) = G6 at hl hp6 C6 k1 k2 x4 x5 x6 ⊢
        refine for_list (K := K) (a := l) (xs := [V.ref t1, V.ref t2, V.ref t3]) (fun _ σ H' => PotAt H' p ∧ But p G6 H' ∧ ∃ z6 z7, σ = [some (V.ref a), some (V.int (0 + (j : Int))), some (V.ref p), some (V.int (0 + (i : Int))), some (V.ref a1), some (V.ref a2), z6, z7, none]) ⟨hp6, But.refl p G6, _, _, rfl⟩ (fun _ σ H' _ hh => SqL.of (hh.2.1 _ _ hl pl.symm)) ?_ ?_
        · rintro i2 x σ Ha hx ⟨hpa, ba, z6, z7, rfl⟩
          obtain ⟨tq, qs, rfl, vx, dx⟩ : ∃ tq qs, x = V.ref tq ∧ DfX Ha tq qs ∧ IsDf ss1 ss2 qs := by
            rcases i2 with _ | _ | _ | i2
            · cases Option.some.inj hx
              exact ⟨t1, ps1, rfl, x4.but ba hp6, d4⟩
            · cases Option.some.inj hx
              exact ⟨t2, ps2, rfl, x5.but ba hp6, d5⟩
            · cases Option.some.inj hx
              exact ⟨t3, [], rfl, x6.but ba hp6, .nil⟩
            · simp at hx
          exact ⟨_, rfl, _, rfl, _, rfl, _, rfl, p, tq, .ref a1, .ref a2, ss1, ss2, qs, rfl, hpa, k1.but ba hp6, k2.but ba hp6, vx, dx, fun H7 hp7 b7 => ⟨true, rfl, iteF ⟨hp7, ba.trans b7, _, _, rfl⟩⟩⟩
        rintro σ Ha ⟨hpa, ba, z6, z7, rfl⟩
        have C7 := C6.trans ba
        replace k1 := k1.but ba hp6
        replace k2 := k2.but ba hp6
        have l160 := k1.le
        refine ⟨_, rfl, a1, _, rfl, .inl (SqL.of k1.at), _, rfl, by omega, by rw [List.length_map]; omega, fun D3 nD3 => ?_⟩
        rw [List.length_map]
        have en : ((ss1.length : Nat) : Int).toNat = ss1.length := by omega
        rw [en]
        have sD3 := same_upd (o := .lst []) nD3
        refine lc_range (lo := 0) (n := ss1.length) (fun n H' => Same Ha H' ∧ ∃ rs, H' D3 = some (.lst (refs rs)) ∧ PsAt H' rs (idD n)) ⟨sD3, [], upd_same, .nil⟩ ?_ ?_
        · rintro n H' hn ⟨sn, rs, hD3, hps⟩
          refine ⟨rfl, ?_⟩
          unfold tYes
          dsimp only
          rw [if_pos rfl]
          refine ⟨_, rfl, _, _, rfl, rfl, _, rfl, _, _, rfl, rfl, ll20 (by show 2 ≤ 20; decide), fun u nu => ?_⟩
          have en2 : HO.tup [V.int (0 + (n : Int) + 1), V.int (0 + (n : Int) + 1)] = tupV (n + 1, n + 1) := by
            show _ = HO.tup [V.int ((n + 1 : Nat) : Int), V.int ((n + 1 : Nat) : Int)]
            rw [show (0 + (n : Int) + 1) = ((n + 1 : Nat) : Int) by omega]
          rw [en2]
          obtain ⟨e1, e2, e3⟩ := psStep (q := (n + 1, n + 1)) hD3 hps nu
          refine ⟨_, e1, ?_, fun b o h => ?_, rs ++ [u], e3, ?_⟩
          · unfold refs
            rw [List.length_map, hps.1]
            unfold idD
            rw [List.length_map, List.length_range]
            exact Nat.lt_of_lt_of_le (show n < 61 by omega) (by decide)
          · rw [upd_ne (ne_of_none h nD3)]
            exact same_upd nu _ _ (sn _ _ h)
          · unfold idD at e2 ⊢
            rw [List.range_succ, List.map_append]
            exact e2
        rintro Hb ⟨sn, rs, hD3, hps⟩
        refine ⟨D3, _, rfl, SqL.of hD3, fun ts o2 nts hcl2 hdn2 => ?_⟩
        have sts := same_upd (o := .frz o2 (.tup (refs rs))) nts
        have xs : DfX (upd Hb ts (.frz o2 (.tup (refs rs)))) ts (idD ss1.length) := ⟨o2, rs, upd_same, hcl2, hdn2, hps.same sts⟩
        have sab := sn.trans sts
        generalize upd Hb ts (.frz o2 (.tup (refs rs))) = Hc at xs sab ⊢
        have hpc := hpa.same sab
        have C8 := C7.same sab
        replace k1 := k1.same sab
        replace k2 := k2.same sab
        refine ⟨_, rfl, _, rfl, _, rfl, a1, _, rfl, .inl (SqL.of k1.at), fun lc nlc => ⟨_, rfl, ?_⟩⟩
        have slc := same_upd (o := .lst (ss1.map V.str)) nlc
        have kc : LsAt (upd Hc lc (.lst (ss1.map V.str))) (.ref lc) ss1 := ⟨lc, rfl, upd_same, k1.wd, k1.le⟩
        refine ⟨p, ts, .ref a1, .ref lc, ss1, ss1, _, rfl, hpc.same slc, k1.same slc, kc, xs.same slc, id_df ss1, fun Hd hpd bd => ⟨true, rfl, iteF ?_⟩⟩
        have C9 := (C8.same slc).trans bd
        have k2d := (k2.same slc).but bd (hpc.same slc)
        refine ⟨_, rfl, by show 0 ≤ sizeLine; exact Nat.zero_le _, fun le nle => ?_⟩
        have sle := same_upd (o := .lst []) nle
        have ke : LsAt (upd Hd le (.lst [])) (.ref le) [] := ⟨le, rfl, upd_same, (fun s h => nomatch h), Nat.zero_le _⟩
        refine ⟨_, rfl, by show 0 ≤ sizeLine; exact Nat.zero_le _, fun te oe nte hcle hdne => ?_⟩
        have ste := same_upd (o := .frz oe (.tup [])) nte
        refine ⟨p, te, .ref le, .ref a2, [], ss2, [], rfl, (hpd.same sle).same ste, ke.same ste, (k2d.same sle).same ste, emp_x upd_same hcle hdne, .nil, fun He hpe be => ⟨true, rfl, iteF ?_⟩⟩
        exact ⟨hpe, ((C9.same sle).same ste).trans be, _, _, _, _, _, rfl⟩
      · rintro σ H2 ⟨hp2, c2, z3, z4, z5, z6, z7, rfl⟩
        exact ⟨c2.same_of (sm.trans s1) np, _, _, _, _, _, _, _, rfl⟩
    · rintro σ H' ⟨sm, y1, y2, y3, y4, y5, y6, y7, rfl⟩
      exact z _
end
end K14
/-! What the heap behind the top says of an own class of exceptions with one field, in one structure. -/
namespace XR
open PySem L2
open PySem.W (ksFn XL)
def fileIs (P : Program) (K : PySem.W.Frag) (a : Addr) : Bool := match K.lookup a with
  | some ⟨_, _, .fields vs, _⟩ => match (vs[2]? : Option Value) with
    | some (.str file _) => (P.main.file : Str) == file
    | _ => false
  | _ => false
def holdsCls (K : PySem.W.Frag) (a C : Addr) : Bool := match K.lookup a with
  | some ⟨_, _, .cell (some (.ref c)), _⟩ => c == C
  | _ => false
theorem fileIs_of {P : Program} {K : PySem.W.Frag} {a : Addr} (h : fileIs P K a = true) : ∃ x y vs c file tf, K.lookup a = some ⟨x, y, .fields vs, c⟩ ∧ vs[2]? = some (.str file tf) ∧ ((P.main.file : Str) == file) = true := by
  unfold fileIs at h
  split at h
  · rename_i x y vs c e
    split at h
    · rename_i file tf e2
      exact ⟨x, y, vs, c, file, tf, e, e2, h⟩
    · cases h
  · cases h
theorem holdsCls_of {K : PySem.W.Frag} {a C : Addr} (h : holdsCls K a C = true) : ∃ x y c, K.lookup a = some ⟨x, y, .cell (some (.ref C)), c⟩ := by
  unfold holdsCls at h
  split at h
  · rename_i x y c z e
    have : c = C := by simpa using h
    subst this
    exact ⟨x, y, z, e⟩
  · cases h
/-- B: the built-in class above; q: the name of __init__; fld: the field; f, c, d: where __init__, its cell and its code stand -/
structure ClsF (P : Program) (K : PySem.W.Frag) (B newId initId : String) (bmB : List Value) (q fld : Str) (C f c d : Addr) : Prop where
  kp : PySem.W.keepIn K (.ref C) = true
  ei : PySem.W.excInitIn K C bmB newId = true
  ov : PySem.W.excOver K C bmB = true
  di : PySem.W.hasDictIn K C = true
  sa : PySem.W.findIn K (.ref C) "__setattr__" = some (some (.builtin "object.__setattr__"))
  su : PySem.W.ks_superIn K C C "__init__" = some (some (.builtin initId))
  sb : PySem.W.subIn K (.ref C) (.type B) = some true
  me : PySem.W.mroIn K C (.ref C) = some true
  fn : PySem.W.isFn K (.ref f) = true
  cod : PySem.W.codeIn K (.ref d) q = true
  cfl : fileIs P K d = true
  cel : holdsCls K c C = true
  tk : PySem.W.takerIn K C fld = some none
  nf : PySem.W.findIn K (.ref C) fld = some none
  cls : (PySem.W.clsIn K C).isSome = true
  ga : PySem.W.findIn K (.ref C) "__getattribute__" = some (some (.builtin "BaseException.__getattribute__"))
  gt : PySem.W.findIn K (.ref C) "__getattr__" = some none
  sB : PySem.W.subIn K (.ref C) (.type "BaseException") = some true
  ca : PySem.W.findIn K (.ref C) "__class__" = some (some (.builtin "object.__class__"))
  mo : PySem.W.mroIn K C (.type "object") = some true
  tP : PySem.W.typeIn K (.ref C) = some (.type "type")
  op : PySem.W.nsIn K cStatics "thirdparty.any" = some none
  sp : PySem.W.specialIn K (.builtin "object.__class__") "__get__" = some (some (.builtin "getset_descriptor.__get__"))
  tks : PySem.W.takesIn K (.builtin "object.__class__") = some true
theorem xok_of {P : Program} {K : PySem.W.Frag} {mg : Str → Option Value} {B newId initId : String} {bmB : List Value} {x q fld : Str} {C f c d : Addr} (S : ClsF P K B newId initId bmB q fld C f c d) (g : mg x = some (.ref C))
    (mx : MkX K P C none 1 (fvOne fld)) : XOk P K mg x C 1 (fvOne fld) where
  mx := mx
  ne := fun vs _ h => nomatch h
  kp := S.kp
  bP := S.sB
  tP := S.tP
  g := g
  rd := ⟨S.cls, S.ga, S.gt, S.sB, S.di, S.ca, S.sp, S.tks, S.mo⟩
  nf := fun vs y hy => by
    have e : y = (fld, vs.getD 0 .non) := by simpa [fvOne] using hy
    rw [e]
    exact S.nf
end XR
namespace K14
open PySem L2 XR
open PySem.W (ksFn XL)
abbrev prg : Program := PySem.Challenge.rw_alldiffs_k14_whole_diffs_taken_apart.prog
abbrev ini (i : Nat) : Stmt := inClass (top i) 0
abbrev iFn (i : Nat) (qual : Str) (kV doc pm : Value) (an : Option Addr) (cda : Addr) (ct : Value) (cc : Addr) : FuncData :=
  ksFn "__init__" qual (defArgs (ini i)) (defBody (ini i)) (defScope (ini i)) .none kV doc pm an (.ref cda) ct cc
def CInit (K : PySem.W.Frag) (i : Nat) (q : Str) (f cc cda : Addr) : Prop := ∃ oc od osl kV doc pm an ct, K.lookup f = some ⟨oc, od, .func (iFn i q kV doc pm an cda ct cc), osl⟩
section
variable {K : PySem.W.Frag} {C fI cc cda : Addr} {B newId initId : String} {bmB : List Value} {kV doc pm ct : Value} {an : Option Addr}
theorem mkc_InvalidText (X : XCls K prg C fI cc cda B newId initId bmB (iFn 3 "InvalidText.__init__" kV doc pm an cda ct cc)) (tk : PySem.W.takerIn K C "value" = some none) : MkX K prg C none 1 (fvOne "value") := by
    refine ⟨by decide, fI, cc, cda, B, newId, initId, bmB, _, "this is no text: a list of at most 60 lines", 0, ⟨10, 8, 10, 13⟩, ⟨10, 8, 10, 15⟩, ⟨10, 8, 10, 24⟩, ⟨10, 25, 10, 70⟩, ⟨10, 8, 10, 71⟩, ⟨10, 8, 10, 71⟩, fun us => [⟨"value", "value", us.getD 0 .none, ⟨11, 8, 11, 12⟩, ⟨11, 8, 11, 18⟩, ⟨11, 21, 11, 26⟩, ⟨11, 8, 11, 26⟩⟩], fun us => [("value", us.getD 0 .none)], X, fun us hl => ?_⟩
    match us, hl with
    | [u], _ =>
      refine ⟨⟨⟨_, _, _, _, _, _, _, _, _, _, rfl, ⟨_, rfl, rfl⟩, rfl, rfl, rfl, rfl, fun L => ⟨_, rfl⟩, by decide +kernel, rfl, rfl, fun L x hx => ?_⟩, by decide +kernel⟩, by show 1 ≤ 900; decide, fun e s => .of_eq rfl, fun e x hx => ?_, fun e => rfl, fun e x hx => ?_, fun vs r => ?_⟩
      · cases hx with
        | head => exact ⟨rfl, rfl, rfl⟩
        | tail _ h => cases h
      · cases hx with
        | head => rfl
        | tail _ hx =>
          cases hx with
          | head => rfl
          | tail _ hx => cases hx
      · cases hx with
        | head => exact ⟨rfl, tk⟩
        | tail _ h => cases h
      · cases r with
        | cons a b =>
          cases b
          exact .cons ⟨rfl, a⟩ .nil
theorem xok_InvalidText {mg : Str → Option Value} {h : Heap} (X : K.In h) (G : h.Ns mainGlobals mg) (g : PySem.W.nsIn K mainGlobals "InvalidText" = some (some (.ref C))) (a : PySem.W.findIn K (.ref C) "__init__" = some (some (.ref fI))) (i : CInit K 3 "InvalidText.__init__" fI cc cda)
    (S : ClsF prg K "ValueError" "ValueError.__new__" "ValueError.__init__" [.type "ValueError", .type "Exception", .type "BaseException", .type "object"] "InvalidText.__init__" "value" C fI cc cda) : XOk prg K mg "InvalidText" C 1 (fvOne "value") := by
  obtain ⟨oc, od, osl, kV, doc, pm, an, ct, lk⟩ := i
  exact xok_of S (PySem.W.mg_of X G g) (mkc_InvalidText ⟨PySem.F.excBase_ValueError, PySem.F.store_ValueError, PySem.W.kxs_ValueError, S.ei, S.ov, S.di, S.sa, S.su, S.sb, S.me, S.op, a, S.fn, ⟨oc, od, osl, lk⟩, S.cod, fileIs_of S.cfl, holdsCls_of S.cel, S.kp⟩ S.tk)
theorem mkc_InvalidDiff (X : XCls K prg C fI cc cda B newId initId bmB (iFn 5 "InvalidDiff.__init__" kV doc pm an cda ct cc)) (tk : PySem.W.takerIn K C "value" = some none) : MkX K prg C none 1 (fvOne "value") := by
    refine ⟨by decide, fI, cc, cda, B, newId, initId, bmB, _, "this is no diff of these texts", 0, ⟨21, 8, 21, 13⟩, ⟨21, 8, 21, 15⟩, ⟨21, 8, 21, 24⟩, ⟨21, 25, 21, 57⟩, ⟨21, 8, 21, 58⟩, ⟨21, 8, 21, 58⟩, fun us => [⟨"value", "value", us.getD 0 .none, ⟨22, 8, 22, 12⟩, ⟨22, 8, 22, 18⟩, ⟨22, 21, 22, 26⟩, ⟨22, 8, 22, 26⟩⟩], fun us => [("value", us.getD 0 .none)], X, fun us hl => ?_⟩
    match us, hl with
    | [u], _ =>
      refine ⟨⟨⟨_, _, _, _, _, _, _, _, _, _, rfl, ⟨_, rfl, rfl⟩, rfl, rfl, rfl, rfl, fun L => ⟨_, rfl⟩, by decide +kernel, rfl, rfl, fun L x hx => ?_⟩, by decide +kernel⟩, by show 1 ≤ 900; decide, fun e s => .of_eq rfl, fun e x hx => ?_, fun e => rfl, fun e x hx => ?_, fun vs r => ?_⟩
      · cases hx with
        | head => exact ⟨rfl, rfl, rfl⟩
        | tail _ h => cases h
      · cases hx with
        | head => rfl
        | tail _ hx =>
          cases hx with
          | head => rfl
          | tail _ hx => cases hx
      · cases hx with
        | head => exact ⟨rfl, tk⟩
        | tail _ h => cases h
      · cases r with
        | cons a b =>
          cases b
          exact .cons ⟨rfl, a⟩ .nil
theorem xok_InvalidDiff {mg : Str → Option Value} {h : Heap} (X : K.In h) (G : h.Ns mainGlobals mg) (g : PySem.W.nsIn K mainGlobals "InvalidDiff" = some (some (.ref C))) (a : PySem.W.findIn K (.ref C) "__init__" = some (some (.ref fI))) (i : CInit K 5 "InvalidDiff.__init__" fI cc cda)
    (S : ClsF prg K "ValueError" "ValueError.__new__" "ValueError.__init__" [.type "ValueError", .type "Exception", .type "BaseException", .type "object"] "InvalidDiff.__init__" "value" C fI cc cda) : XOk prg K mg "InvalidDiff" C 1 (fvOne "value") := by
  obtain ⟨oc, od, osl, kV, doc, pm, an, ct, lk⟩ := i
  exact xok_of S (PySem.W.mg_of X G g) (mkc_InvalidDiff ⟨PySem.F.excBase_ValueError, PySem.F.store_ValueError, PySem.W.kxs_ValueError, S.ei, S.ov, S.di, S.sa, S.su, S.sb, S.me, S.op, a, S.fn, ⟨oc, od, osl, lk⟩, S.cod, fileIs_of S.cfl, holdsCls_of S.cel, S.kp⟩ S.tk)
end
theorem all_mk {w : World} {K : PySem.W.Frag} {h : Heap} {mg : Str → Option Value} {fa : Addr} (X : K.In h) (G : h.Ns mainGlobals mg) (hfa : mg "law" = some (.ref fa))
    {C_InvalidText f_InvalidText c_InvalidText d_InvalidText : Addr} (a_InvalidText : PySem.W.nsIn K mainGlobals "InvalidText" = some (some (.ref C_InvalidText))) (b_InvalidText : PySem.W.findIn K (.ref C_InvalidText) "__init__" = some (some (.ref f_InvalidText))) (i_InvalidText : CInit K 3 "InvalidText.__init__" f_InvalidText c_InvalidText d_InvalidText)
    (S_InvalidText : ClsF prg K "ValueError" "ValueError.__new__" "ValueError.__init__" [.type "ValueError", .type "Exception", .type "BaseException", .type "object"] "InvalidText.__init__" "value" C_InvalidText f_InvalidText c_InvalidText d_InvalidText)
    {C_InvalidDiff f_InvalidDiff c_InvalidDiff d_InvalidDiff : Addr} (a_InvalidDiff : PySem.W.nsIn K mainGlobals "InvalidDiff" = some (some (.ref C_InvalidDiff))) (b_InvalidDiff : PySem.W.findIn K (.ref C_InvalidDiff) "__init__" = some (some (.ref f_InvalidDiff))) (i_InvalidDiff : CInit K 5 "InvalidDiff.__init__" f_InvalidDiff c_InvalidDiff d_InvalidDiff)
    (S_InvalidDiff : ClsF prg K "ValueError" "ValueError.__new__" "ValueError.__init__" [.type "ValueError", .type "Exception", .type "BaseException", .type "object"] "InvalidDiff.__init__" "value" C_InvalidDiff f_InvalidDiff c_InvalidDiff d_InvalidDiff)
    {g_whole : Addr} {od_whole an_whole : Option Addr} {sl_whole : Array (Option Value)} {oc_whole kV_whole dc_whole pm_whole cd_whole ct_whole : Value}
    (u_whole : PySem.W.nsIn K mainGlobals "is_whole" = some (some (.ref g_whole))) (l_whole : K.lookup g_whole = some ⟨oc_whole, od_whole, .func (PySem.W.fnOf "is_whole" "is_whole" (defArgs sWhole) (defBody sWhole) (defScope sWhole) .none kV_whole dc_whole pm_whole an_whole cd_whole ct_whole), sl_whole⟩) (v_whole : PySem.W.codeIn K cd_whole "is_whole" = true) (k_whole : PySem.W.keepIn K (.ref g_whole) = true)
    {g_within : Addr} {od_within an_within : Option Addr} {sl_within : Array (Option Value)} {oc_within kV_within dc_within pm_within cd_within ct_within : Value}
    (u_within : PySem.W.nsIn K mainGlobals "is_within" = some (some (.ref g_within))) (l_within : K.lookup g_within = some ⟨oc_within, od_within, .func (PySem.W.fnOf "is_within" "is_within" (defArgs sWithin) (defBody sWithin) (defScope sWithin) .none kV_within dc_within pm_within an_within cd_within ct_within), sl_within⟩) (v_within : PySem.W.codeIn K cd_within "is_within" = true) (k_within : PySem.W.keepIn K (.ref g_within) = true)
    {g_list : Addr} {od_list an_list : Option Addr} {sl_list : Array (Option Value)} {oc_list kV_list dc_list pm_list cd_list ct_list : Value}
    (u_list : PySem.W.nsIn K mainGlobals "is_list" = some (some (.ref g_list))) (l_list : K.lookup g_list = some ⟨oc_list, od_list, .func (PySem.W.fnOf "is_list" "is_list" (defArgs sIsList) (defBody sIsList) (defScope sIsList) .none kV_list dc_list pm_list an_list cd_list ct_list), sl_list⟩) (v_list : PySem.W.codeIn K cd_list "is_list" = true) (k_list : PySem.W.keepIn K (.ref g_list) = true)
    {g_tup : Addr} {od_tup an_tup : Option Addr} {sl_tup : Array (Option Value)} {oc_tup kV_tup dc_tup pm_tup cd_tup ct_tup : Value}
    (u_tup : PySem.W.nsIn K mainGlobals "is_tuple" = some (some (.ref g_tup))) (l_tup : K.lookup g_tup = some ⟨oc_tup, od_tup, .func (PySem.W.fnOf "is_tuple" "is_tuple" (defArgs sIsTuple) (defBody sIsTuple) (defScope sIsTuple) .none kV_tup dc_tup pm_tup an_tup cd_tup ct_tup), sl_tup⟩) (v_tup : PySem.W.codeIn K cd_tup "is_tuple" = true) (k_tup : PySem.W.keepIn K (.ref g_tup) = true)
    {g_spot : Addr} {od_spot an_spot : Option Addr} {sl_spot : Array (Option Value)} {oc_spot kV_spot dc_spot pm_spot cd_spot ct_spot : Value}
    (u_spot : PySem.W.nsIn K mainGlobals "is_spot" = some (some (.ref g_spot))) (l_spot : K.lookup g_spot = some ⟨oc_spot, od_spot, .func (PySem.W.fnOf "is_spot" "is_spot" (defArgs sSpot) (defBody sSpot) (defScope sSpot) .none kV_spot dc_spot pm_spot an_spot cd_spot ct_spot), sl_spot⟩) (v_spot : PySem.W.codeIn K cd_spot "is_spot" = true) (k_spot : PySem.W.keepIn K (.ref g_spot) = true)
    {g_line : Addr} {od_line an_line : Option Addr} {sl_line : Array (Option Value)} {oc_line kV_line dc_line pm_line cd_line ct_line : Value}
    (u_line : PySem.W.nsIn K mainGlobals "is_line" = some (some (.ref g_line))) (l_line : K.lookup g_line = some ⟨oc_line, od_line, .func (PySem.W.fnOf "is_line" "is_line" (defArgs sLine) (defBody sLine) (defScope sLine) .none kV_line dc_line pm_line an_line cd_line ct_line), sl_line⟩) (v_line : PySem.W.codeIn K cd_line "is_line" = true) (k_line : PySem.W.keepIn K (.ref g_line) = true)
    {g_text : Addr} {od_text an_text : Option Addr} {sl_text : Array (Option Value)} {oc_text kV_text dc_text pm_text cd_text ct_text : Value}
    (u_text : PySem.W.nsIn K mainGlobals "is_text" = some (some (.ref g_text))) (l_text : K.lookup g_text = some ⟨oc_text, od_text, .func (PySem.W.fnOf "is_text" "is_text" (defArgs sIsText) (defBody sIsText) (defScope sIsText) .none kV_text dc_text pm_text an_text cd_text ct_text), sl_text⟩) (v_text : PySem.W.codeIn K cd_text "is_text" = true) (k_text : PySem.W.keepIn K (.ref g_text) = true)
    {g_check : Addr} {od_check an_check : Option Addr} {sl_check : Array (Option Value)} {oc_check kV_check dc_check pm_check cd_check ct_check : Value}
    (u_check : PySem.W.nsIn K mainGlobals "check_texts" = some (some (.ref g_check))) (l_check : K.lookup g_check = some ⟨oc_check, od_check, .func (PySem.W.fnOf "check_texts" "check_texts" (defArgs sCheck) (defBody sCheck) (defScope sCheck) .none kV_check dc_check pm_check an_check cd_check ct_check), sl_check⟩) (v_check : PySem.W.codeIn K cd_check "check_texts" = true) (k_check : PySem.W.keepIn K (.ref g_check) = true)
    {g_iscost : Addr} {od_iscost an_iscost : Option Addr} {sl_iscost : Array (Option Value)} {oc_iscost kV_iscost dc_iscost pm_iscost cd_iscost ct_iscost : Value}
    (u_iscost : PySem.W.nsIn K mainGlobals "is_cost" = some (some (.ref g_iscost))) (l_iscost : K.lookup g_iscost = some ⟨oc_iscost, od_iscost, .func (PySem.W.fnOf "is_cost" "is_cost" (defArgs sIsCost) (defBody sIsCost) (defScope sIsCost) .none kV_iscost dc_iscost pm_iscost an_iscost cd_iscost ct_iscost), sl_iscost⟩) (v_iscost : PySem.W.codeIn K cd_iscost "is_cost" = true) (k_iscost : PySem.W.keepIn K (.ref g_iscost) = true)
    {g_chkc : Addr} {od_chkc an_chkc : Option Addr} {sl_chkc : Array (Option Value)} {oc_chkc kV_chkc dc_chkc pm_chkc cd_chkc ct_chkc : Value}
    (u_chkc : PySem.W.nsIn K mainGlobals "check_costs" = some (some (.ref g_chkc))) (l_chkc : K.lookup g_chkc = some ⟨oc_chkc, od_chkc, .func (PySem.W.fnOf "check_costs" "check_costs" (defArgs sChkC) (defBody sChkC) (defScope sChkC) .none kV_chkc dc_chkc pm_chkc an_chkc cd_chkc ct_chkc), sl_chkc⟩) (v_chkc : PySem.W.codeIn K cd_chkc "check_costs" = true) (k_chkc : PySem.W.keepIn K (.ref g_chkc) = true)
    {g_chko : Addr} {od_chko an_chko : Option Addr} {sl_chko : Array (Option Value)} {oc_chko kV_chko dc_chko pm_chko cd_chko ct_chko : Value}
    (u_chko : PySem.W.nsIn K mainGlobals "check_own" = some (some (.ref g_chko))) (l_chko : K.lookup g_chko = some ⟨oc_chko, od_chko, .func (PySem.W.fnOf "check_own" "check_own" (defArgs sChkO) (defBody sChkO) (defScope sChkO) .none kV_chko dc_chko pm_chko an_chko cd_chko ct_chko), sl_chko⟩) (v_chko : PySem.W.codeIn K cd_chko "check_own" = true) (k_chko : PySem.W.keepIn K (.ref g_chko) = true)
    {g_pair : Addr} {od_pair an_pair : Option Addr} {sl_pair : Array (Option Value)} {oc_pair kV_pair dc_pair pm_pair cd_pair ct_pair : Value}
    (u_pair : PySem.W.nsIn K mainGlobals "is_pair" = some (some (.ref g_pair))) (l_pair : K.lookup g_pair = some ⟨oc_pair, od_pair, .func (PySem.W.fnOf "is_pair" "is_pair" (defArgs sPair) (defBody sPair) (defScope sPair) .none kV_pair dc_pair pm_pair an_pair cd_pair ct_pair), sl_pair⟩) (v_pair : PySem.W.codeIn K cd_pair "is_pair" = true) (k_pair : PySem.W.keepIn K (.ref g_pair) = true)
    {g_rise : Addr} {od_rise an_rise : Option Addr} {sl_rise : Array (Option Value)} {oc_rise kV_rise dc_rise pm_rise cd_rise ct_rise : Value}
    (u_rise : PySem.W.nsIn K mainGlobals "is_rising" = some (some (.ref g_rise))) (l_rise : K.lookup g_rise = some ⟨oc_rise, od_rise, .func (PySem.W.fnOf "is_rising" "is_rising" (defArgs sRising) (defBody sRising) (defScope sRising) .none kV_rise dc_rise pm_rise an_rise cd_rise ct_rise), sl_rise⟩) (v_rise : PySem.W.codeIn K cd_rise "is_rising" = true) (k_rise : PySem.W.keepIn K (.ref g_rise) = true)
    {g_isdiff : Addr} {od_isdiff an_isdiff : Option Addr} {sl_isdiff : Array (Option Value)} {oc_isdiff kV_isdiff dc_isdiff pm_isdiff cd_isdiff ct_isdiff : Value}
    (u_isdiff : PySem.W.nsIn K mainGlobals "is_diff" = some (some (.ref g_isdiff))) (l_isdiff : K.lookup g_isdiff = some ⟨oc_isdiff, od_isdiff, .func (PySem.W.fnOf "is_diff" "is_diff" (defArgs sIsDiff) (defBody sIsDiff) (defScope sIsDiff) .none kV_isdiff dc_isdiff pm_isdiff an_isdiff cd_isdiff ct_isdiff), sl_isdiff⟩) (v_isdiff : PySem.W.codeIn K cd_isdiff "is_diff" = true) (k_isdiff : PySem.W.keepIn K (.ref g_isdiff) = true)
    {g_checkd : Addr} {od_checkd an_checkd : Option Addr} {sl_checkd : Array (Option Value)} {oc_checkd kV_checkd dc_checkd pm_checkd cd_checkd ct_checkd : Value}
    (u_checkd : PySem.W.nsIn K mainGlobals "check_diff" = some (some (.ref g_checkd))) (l_checkd : K.lookup g_checkd = some ⟨oc_checkd, od_checkd, .func (PySem.W.fnOf "check_diff" "check_diff" (defArgs sCheckD) (defBody sCheckD) (defScope sCheckD) .none kV_checkd dc_checkd pm_checkd an_checkd cd_checkd ct_checkd), sl_checkd⟩) (v_checkd : PySem.W.codeIn K cd_checkd "check_diff" = true) (k_checkd : PySem.W.keepIn K (.ref g_checkd) = true)
    {g_kept : Addr} {od_kept an_kept : Option Addr} {sl_kept : Array (Option Value)} {oc_kept kV_kept dc_kept pm_kept cd_kept ct_kept : Value}
    (u_kept : PySem.W.nsIn K mainGlobals "kept_lines" = some (some (.ref g_kept))) (l_kept : K.lookup g_kept = some ⟨oc_kept, od_kept, .func (PySem.W.fnOf "kept_lines" "kept_lines" (defArgs sKept) (defBody sKept) (defScope sKept) .none kV_kept dc_kept pm_kept an_kept cd_kept ct_kept), sl_kept⟩) (v_kept : PySem.W.codeIn K cd_kept "kept_lines" = true) (k_kept : PySem.W.keepIn K (.ref g_kept) = true)
    {g_gone : Addr} {od_gone an_gone : Option Addr} {sl_gone : Array (Option Value)} {oc_gone kV_gone dc_gone pm_gone cd_gone ct_gone : Value}
    (u_gone : PySem.W.nsIn K mainGlobals "gone_lines" = some (some (.ref g_gone))) (l_gone : K.lookup g_gone = some ⟨oc_gone, od_gone, .func (PySem.W.fnOf "gone_lines" "gone_lines" (defArgs sGone) (defBody sGone) (defScope sGone) .none kV_gone dc_gone pm_gone an_gone cd_gone ct_gone), sl_gone⟩) (v_gone : PySem.W.codeIn K cd_gone "gone_lines" = true) (k_gone : PySem.W.keepIn K (.ref g_gone) = true)
    {g_come : Addr} {od_come an_come : Option Addr} {sl_come : Array (Option Value)} {oc_come kV_come dc_come pm_come cd_come ct_come : Value}
    (u_come : PySem.W.nsIn K mainGlobals "come_lines" = some (some (.ref g_come))) (l_come : K.lookup g_come = some ⟨oc_come, od_come, .func (PySem.W.fnOf "come_lines" "come_lines" (defArgs sCome) (defBody sCome) (defScope sCome) .none kV_come dc_come pm_come an_come cd_come ct_come), sl_come⟩) (v_come : PySem.W.codeIn K cd_come "come_lines" = true) (k_come : PySem.W.keepIn K (.ref g_come) = true)
    {g_gaps : Addr} {od_gaps an_gaps : Option Addr} {sl_gaps : Array (Option Value)} {oc_gaps kV_gaps dc_gaps pm_gaps cd_gaps ct_gaps : Value}
    (u_gaps : PySem.W.nsIn K mainGlobals "gaps_of" = some (some (.ref g_gaps))) (l_gaps : K.lookup g_gaps = some ⟨oc_gaps, od_gaps, .func (PySem.W.fnOf "gaps_of" "gaps_of" (defArgs sGaps) (defBody sGaps) (defScope sGaps) .none kV_gaps dc_gaps pm_gaps an_gaps cd_gaps ct_gaps), sl_gaps⟩) (v_gaps : PySem.W.codeIn K cd_gaps "gaps_of" = true) (k_gaps : PySem.W.keepIn K (.ref g_gaps) = true)
    {g_blocks : Addr} {od_blocks an_blocks : Option Addr} {sl_blocks : Array (Option Value)} {oc_blocks kV_blocks dc_blocks pm_blocks cd_blocks ct_blocks : Value}
    (u_blocks : PySem.W.nsIn K mainGlobals "blocks_of" = some (some (.ref g_blocks))) (l_blocks : K.lookup g_blocks = some ⟨oc_blocks, od_blocks, .func (PySem.W.fnOf "blocks_of" "blocks_of" (defArgs sBlocks) (defBody sBlocks) (defScope sBlocks) .none kV_blocks dc_blocks pm_blocks an_blocks cd_blocks ct_blocks), sl_blocks⟩) (v_blocks : PySem.W.codeIn K cd_blocks "blocks_of" = true) (k_blocks : PySem.W.keepIn K (.ref g_blocks) = true)
    {g_costof : Addr} {od_costof an_costof : Option Addr} {sl_costof : Array (Option Value)} {oc_costof kV_costof dc_costof pm_costof cd_costof ct_costof : Value}
    (u_costof : PySem.W.nsIn K mainGlobals "cost_of" = some (some (.ref g_costof))) (l_costof : K.lookup g_costof = some ⟨oc_costof, od_costof, .func (PySem.W.fnOf "cost_of" "cost_of" (defArgs sCostOf) (defBody sCostOf) (defScope sCostOf) .none kV_costof dc_costof pm_costof an_costof cd_costof ct_costof), sl_costof⟩) (v_costof : PySem.W.codeIn K cd_costof "cost_of" = true) (k_costof : PySem.W.keepIn K (.ref g_costof) = true)
    {g_partner : Addr} {od_partner an_partner : Option Addr} {sl_partner : Array (Option Value)} {oc_partner kV_partner dc_partner pm_partner cd_partner ct_partner : Value}
    (u_partner : PySem.W.nsIn K mainGlobals "partner_of" = some (some (.ref g_partner))) (l_partner : K.lookup g_partner = some ⟨oc_partner, od_partner, .func (PySem.W.fnOf "partner_of" "partner_of" (defArgs sPartner) (defBody sPartner) (defScope sPartner) .none kV_partner dc_partner pm_partner an_partner cd_partner ct_partner), sl_partner⟩) (v_partner : PySem.W.codeIn K cd_partner "partner_of" = true) (k_partner : PySem.W.keepIn K (.ref g_partner) = true)
    {g_pot : Addr} {od_pot an_pot : Option Addr} {sl_pot : Array (Option Value)} {oc_pot kV_pot dc_pot pm_pot cd_pot ct_pot : Value}
    (u_pot : PySem.W.nsIn K mainGlobals "_law_pot" = some (some (.ref g_pot))) (l_pot : K.lookup g_pot = some ⟨oc_pot, od_pot, .func (PySem.W.fnOf "_law_pot" "_law_pot" (defArgs sPot) (defBody sPot) (defScope sPot) .none kV_pot dc_pot pm_pot an_pot cd_pot ct_pot), sl_pot⟩) (v_pot : PySem.W.codeIn K cd_pot "_law_pot" = true) (k_pot : PySem.W.keepIn K (.ref g_pot) = true)
    {g_draw : Addr} {od_draw an_draw : Option Addr} {sl_draw : Array (Option Value)} {oc_draw kV_draw dc_draw pm_draw cd_draw ct_draw : Value}
    (u_draw : PySem.W.nsIn K mainGlobals "_law_draw" = some (some (.ref g_draw))) (l_draw : K.lookup g_draw = some ⟨oc_draw, od_draw, .func (PySem.W.fnOf "_law_draw" "_law_draw" (defArgs sDraw) (defBody sDraw) (defScope sDraw) .none kV_draw dc_draw pm_draw an_draw cd_draw ct_draw), sl_draw⟩) (v_draw : PySem.W.codeIn K cd_draw "_law_draw" = true) (k_draw : PySem.W.keepIn K (.ref g_draw) = true)
    {g_pick : Addr} {od_pick an_pick : Option Addr} {sl_pick : Array (Option Value)} {oc_pick kV_pick dc_pick pm_pick cd_pick ct_pick : Value}
    (u_pick : PySem.W.nsIn K mainGlobals "_law_pick" = some (some (.ref g_pick))) (l_pick : K.lookup g_pick = some ⟨oc_pick, od_pick, .func (PySem.W.fnOf "_law_pick" "_law_pick" (defArgs sPick) (defBody sPick) (defScope sPick) .none kV_pick dc_pick pm_pick an_pick cd_pick ct_pick), sl_pick⟩) (v_pick : PySem.W.codeIn K cd_pick "_law_pick" = true) (k_pick : PySem.W.keepIn K (.ref g_pick) = true)
    {g_ltext : Addr} {od_ltext an_ltext : Option Addr} {sl_ltext : Array (Option Value)} {oc_ltext kV_ltext dc_ltext pm_ltext cd_ltext ct_ltext : Value}
    (u_ltext : PySem.W.nsIn K mainGlobals "_law_text" = some (some (.ref g_ltext))) (l_ltext : K.lookup g_ltext = some ⟨oc_ltext, od_ltext, .func (PySem.W.fnOf "_law_text" "_law_text" (defArgs sText) (defBody sText) (defScope sText) .none kV_ltext dc_ltext pm_ltext an_ltext cd_ltext ct_ltext), sl_ltext⟩) (v_ltext : PySem.W.codeIn K cd_ltext "_law_text" = true) (k_ltext : PySem.W.keepIn K (.ref g_ltext) = true)
    {g_near : Addr} {od_near an_near : Option Addr} {sl_near : Array (Option Value)} {oc_near kV_near dc_near pm_near cd_near ct_near : Value}
    (u_near : PySem.W.nsIn K mainGlobals "_law_near" = some (some (.ref g_near))) (l_near : K.lookup g_near = some ⟨oc_near, od_near, .func (PySem.W.fnOf "_law_near" "_law_near" (defArgs sNear) (defBody sNear) (defScope sNear) .none kV_near dc_near pm_near an_near cd_near ct_near), sl_near⟩) (v_near : PySem.W.codeIn K cd_near "_law_near" = true) (k_near : PySem.W.keepIn K (.ref g_near) = true)
    {g_two : Addr} {od_two an_two : Option Addr} {sl_two : Array (Option Value)} {oc_two kV_two dc_two pm_two cd_two ct_two : Value}
    (u_two : PySem.W.nsIn K mainGlobals "_law_two" = some (some (.ref g_two))) (l_two : K.lookup g_two = some ⟨oc_two, od_two, .func (PySem.W.fnOf "_law_two" "_law_two" (defArgs sTwo) (defBody sTwo) (defScope sTwo) .none kV_two dc_two pm_two an_two cd_two ct_two), sl_two⟩) (v_two : PySem.W.codeIn K cd_two "_law_two" = true) (k_two : PySem.W.keepIn K (.ref g_two) = true)
    {g_diff : Addr} {od_diff an_diff : Option Addr} {sl_diff : Array (Option Value)} {oc_diff kV_diff dc_diff pm_diff cd_diff ct_diff : Value}
    (u_diff : PySem.W.nsIn K mainGlobals "_law_diff" = some (some (.ref g_diff))) (l_diff : K.lookup g_diff = some ⟨oc_diff, od_diff, .func (PySem.W.fnOf "_law_diff" "_law_diff" (defArgs sDiff) (defBody sDiff) (defScope sDiff) .none kV_diff dc_diff pm_diff an_diff cd_diff ct_diff), sl_diff⟩) (v_diff : PySem.W.codeIn K cd_diff "_law_diff" = true) (k_diff : PySem.W.keepIn K (.ref g_diff) = true)
    {g_lcosts : Addr} {od_lcosts an_lcosts : Option Addr} {sl_lcosts : Array (Option Value)} {oc_lcosts kV_lcosts dc_lcosts pm_lcosts cd_lcosts ct_lcosts : Value}
    (u_lcosts : PySem.W.nsIn K mainGlobals "_law_costs" = some (some (.ref g_lcosts))) (l_lcosts : K.lookup g_lcosts = some ⟨oc_lcosts, od_lcosts, .func (PySem.W.fnOf "_law_costs" "_law_costs" (defArgs sLFees) (defBody sLFees) (defScope sLFees) .none kV_lcosts dc_lcosts pm_lcosts an_lcosts cd_lcosts ct_lcosts), sl_lcosts⟩) (v_lcosts : PySem.W.codeIn K cd_lcosts "_law_costs" = true) (k_lcosts : PySem.W.keepIn K (.ref g_lcosts) = true)
    {g_lblocks : Addr} {od_lblocks an_lblocks : Option Addr} {sl_lblocks : Array (Option Value)} {oc_lblocks kV_lblocks dc_lblocks pm_lblocks cd_lblocks ct_lblocks : Value}
    (u_lblocks : PySem.W.nsIn K mainGlobals "_law_blocks" = some (some (.ref g_lblocks))) (l_lblocks : K.lookup g_lblocks = some ⟨oc_lblocks, od_lblocks, .func (PySem.W.fnOf "_law_blocks" "_law_blocks" (defArgs sLBlocks) (defBody sLBlocks) (defScope sLBlocks) .none kV_lblocks dc_lblocks pm_lblocks an_lblocks cd_lblocks ct_lblocks), sl_lblocks⟩) (v_lblocks : PySem.W.codeIn K cd_lblocks "_law_blocks" = true) (k_lblocks : PySem.W.keepIn K (.ref g_lblocks) = true)
    {g_lcost : Addr} {od_lcost an_lcost : Option Addr} {sl_lcost : Array (Option Value)} {oc_lcost kV_lcost dc_lcost pm_lcost cd_lcost ct_lcost : Value}
    (u_lcost : PySem.W.nsIn K mainGlobals "_law_cost" = some (some (.ref g_lcost))) (l_lcost : K.lookup g_lcost = some ⟨oc_lcost, od_lcost, .func (PySem.W.fnOf "_law_cost" "_law_cost" (defArgs sLCost) (defBody sLCost) (defScope sLCost) .none kV_lcost dc_lcost pm_lcost an_lcost cd_lcost ct_lcost), sl_lcost⟩) (v_lcost : PySem.W.codeIn K cd_lcost "_law_cost" = true) (k_lcost : PySem.W.keepIn K (.ref g_lcost) = true)
    {g_byb : Addr} {od_byb an_byb : Option Addr} {sl_byb : Array (Option Value)} {oc_byb kV_byb dc_byb pm_byb cd_byb ct_byb : Value}
    (u_byb : PySem.W.nsIn K mainGlobals "_law_by_blocks" = some (some (.ref g_byb))) (l_byb : K.lookup g_byb = some ⟨oc_byb, od_byb, .func (PySem.W.fnOf "_law_by_blocks" "_law_by_blocks" (defArgs sByB) (defBody sByB) (defScope sByB) .none kV_byb dc_byb pm_byb an_byb cd_byb ct_byb), sl_byb⟩) (v_byb : PySem.W.codeIn K cd_byb "_law_by_blocks" = true) (k_byb : PySem.W.keepIn K (.ref g_byb) = true)
    {g_right : Addr} {od_right an_right : Option Addr} {sl_right : Array (Option Value)} {oc_right kV_right dc_right pm_right cd_right ct_right : Value}
    (u_right : PySem.W.nsIn K mainGlobals "_law_right" = some (some (.ref g_right))) (l_right : K.lookup g_right = some ⟨oc_right, od_right, .func (PySem.W.fnOf "_law_right" "_law_right" (defArgs sRight) (defBody sRight) (defScope sRight) .none kV_right dc_right pm_right an_right cd_right ct_right), sl_right⟩) (v_right : PySem.W.codeIn K cd_right "_law_right" = true) (k_right : PySem.W.keepIn K (.ref g_right) = true)
    {g_law : Addr} {od_law an_law : Option Addr} {sl_law : Array (Option Value)} {oc_law kV_law dc_law pm_law cd_law ct_law : Value}
    (u_law : PySem.W.nsIn K mainGlobals "law" = some (some (.ref g_law))) (l_law : K.lookup g_law = some ⟨oc_law, od_law, .func (PySem.W.fnOf "law" "law" (defArgs sLaw) (defBody sLaw) (defScope sLaw) .none kV_law dc_law pm_law an_law cd_law ct_law), sl_law⟩) (v_law : PySem.W.codeIn K cd_law "law" = true) (k_law : PySem.W.keepIn K (.ref g_law) = true)
    (zz : (["len", "abs", "max", "min", "int", "divmod", "repr", "isinstance", "enumerate", "range", "all", "super", "zip", "tuple", "dict", "bool", "str", "list", "sum", "sorted"].map fun x => PySem.W.nsIn K mainGlobals (Str.ofString x)) = [some none, some none, some none, some none, some none, some none, some none, some none, some none, some none, some none, some none, some none, some none, some none, some none, some none, some none, some none, some none])
    {t_MOST : Nat} (c_MOST : PySem.W.nsIn K mainGlobals "MOST" = some (some (.int 60 t_MOST)))
    {C gI Td : Addr} {ocI kVI dcI pmI cdI ctI ocT : Value} {odI anI odT : Option Addr} {slI slT : Array (Option Value)} {nT t1 t2 t3 : Nat}
    {g_going : Addr} {od_going an_going : Option Addr} {sl_going : Array (Option Value)} {oc_going kV_going dc_going pm_going cd_going ct_going : Value}
    {g_coming : Addr} {od_coming an_coming : Option Addr} {sl_coming : Array (Option Value)} {oc_coming kV_coming dc_coming pm_coming cd_coming ct_coming : Value}
    {g_of : Addr} {od_of an_of : Option Addr} {sl_of : Array (Option Value)} {oc_of kV_of dc_of pm_of cd_of ct_of : Value}
    (x_gC : PySem.W.nsIn K mainGlobals "Costs" = some (some (.ref C)))
    (x_aI : PySem.W.findIn K (.ref C) "__init__" = some (some (.ref gI)))
    (x_iI : PySem.W.isFn K (.ref gI) = true)
    (x_lI : K.lookup gI = some ⟨ocI, odI, .func (PySem.W.fnOf "__init__" "Costs.__init__" (defArgs sCInit) (defBody sCInit) (defScope sCInit) (.ref Td) kVI dcI pmI anI cdI ctI), slI⟩)
    (x_vI : PySem.W.codeIn K cdI "Costs.__init__" = true)
    (x_kI : PySem.W.keepIn K (.ref gI) = true)
    (x_lT : K.lookup Td = some ⟨ocT, odT, .seq #[.int 1 t1, .int 1 t2, .none] nT, slT⟩)
    (x_agoing : PySem.W.findIn K (.ref C) "going" = some (some (.ref g_going)))
    (x_igoing : PySem.W.isFn K (.ref g_going) = true)
    (x_lgoing : K.lookup g_going = some ⟨oc_going, od_going, .func (PySem.W.fnOf "going" "Costs.going" (defArgs sGoing) (defBody sGoing) (defScope sGoing) .none kV_going dc_going pm_going an_going cd_going ct_going), sl_going⟩)
    (x_vgoing : PySem.W.codeIn K cd_going "Costs.going" = true)
    (x_kgoing : PySem.W.keepIn K (.ref g_going) = true)
    (x_acoming : PySem.W.findIn K (.ref C) "coming" = some (some (.ref g_coming)))
    (x_icoming : PySem.W.isFn K (.ref g_coming) = true)
    (x_lcoming : K.lookup g_coming = some ⟨oc_coming, od_coming, .func (PySem.W.fnOf "coming" "Costs.coming" (defArgs sComing) (defBody sComing) (defScope sComing) .none kV_coming dc_coming pm_coming an_coming cd_coming ct_coming), sl_coming⟩)
    (x_vcoming : PySem.W.codeIn K cd_coming "Costs.coming" = true)
    (x_kcoming : PySem.W.keepIn K (.ref g_coming) = true)
    (x_aof : PySem.W.findIn K (.ref C) "_of" = some (some (.ref g_of)))
    (x_iof : PySem.W.isFn K (.ref g_of) = true)
    (x_lof : K.lookup g_of = some ⟨oc_of, od_of, .func (PySem.W.fnOf "_of" "Costs._of" (defArgs sOf) (defBody sOf) (defScope sOf) .none kV_of dc_of pm_of an_of cd_of ct_of), sl_of⟩)
    (x_vof : PySem.W.codeIn K cd_of "Costs._of" = true)
    (x_kof : PySem.W.keepIn K (.ref g_of) = true)
    (x_pg : PySem.W.plainGet K C Str.empty = true)
    (x_hd : PySem.W.hasDictIn K C = true)
    (x_po : PySem.W.plainOver K C = true)
    (x_sa : PySem.W.findIn K (.ref C) "__setattr__" = some (some (.builtin "object.__setattr__")))
    (x_mk : PySem.W.makesIn K C = true)
    (x_kc : PySem.W.keepIn K (.ref C) = true)
    (x_nP : PySem.W.findIn K (.ref C) "_plain" = some none)
    (x_nO : PySem.W.findIn K (.ref C) "_own" = some none)
    (x_rd : PySem.W.readsIn K C (.type "type") = true)
    (x_ga : PySem.W.specialIn K (.ref C) "__getattribute__" = some (some (.builtin "type.__getattribute__")))
    (x_mo : PySem.W.findCls K (.ref C) (.type "type") "MOST" = some (.val (.int 999999 t3)))
    (x_ha : PySem.W.findIn K (.ref C) "__class__" = some (some (.builtin "object.__class__")))
    (x_hn : PySem.W.specialIn K (.builtin "object.__class__") "__get__" = some (some (.builtin "getset_descriptor.__get__")))
    (x_ht : PySem.W.takesIn K (.builtin "object.__class__") = some true)
    (x_hm : PySem.W.mroIn K C (.type "object") = some true)
    : ∃ fd : FuncData, (∀ (s : Shared) (v : Value), BindsTo s fd ⟨[v], []⟩ [("_law_script", v)]) ∧ ∀ base : Heap, K.In base → base.Ns mainGlobals mg → FnG prg w K mg base 10 fa fd ["_law_script"] (spLaw K) := by
  have e := hfa.symm.trans (PySem.W.mg_of X G u_law)
  cases e
  have zb : ∀ x ∈ (["len", "abs", "max", "min", "int", "divmod", "repr", "isinstance", "enumerate", "range", "all", "super", "zip", "tuple", "dict", "bool", "str", "list", "sum", "sorted"] : List String), mg (Str.ofString x) = none := fun x hx => PySem.W.mg_none_of X G (by
    have e : ∀ y ∈ (["len", "abs", "max", "min", "int", "divmod", "repr", "isinstance", "enumerate", "range", "all", "super", "zip", "tuple", "dict", "bool", "str", "list", "sum", "sorted"] : List String), (fun x => PySem.W.nsIn K mainGlobals (Str.ofString x)) y = (fun _ => some none) y := List.map_inj_left.mp (zz.trans rfl)
    exact e x hx)
  have T : Blt mg := ⟨fun x hx => by
    simp only [List.mem_cons, List.not_mem_nil, or_false] at hx
    rcases hx with rfl | rfl | rfl | rfl | rfl | rfl | rfl | rfl | rfl | rfl | rfl | rfl | rfl | rfl | rfl | rfl | rfl | rfl <;> exact zb _ (by decide)⟩
  have X_InvalidText := xok_InvalidText X G a_InvalidText b_InvalidText i_InvalidText S_InvalidText
  have X_InvalidDiff := xok_InvalidDiff X G a_InvalidDiff b_InvalidDiff i_InvalidDiff S_InvalidDiff
  have M_MOST := PySem.W.mg_of X G c_MOST
  have F_whole := fun_mk (st := sWhole) l_whole v_whole k_whole
  have b_whole := F_whole.binds (ps := ["value"]) fun _ _ _ _ _ _ us hl => match us, hl with | [_], _ => rfl
  have m_whole := PySem.W.mg_of X G u_whole
  have F_within := fun_mk (st := sWithin) l_within v_within k_within
  have b_within := F_within.binds (ps := ["value", "low", "high"]) fun _ _ _ _ _ _ us hl => match us, hl with | [_, _, _], _ => rfl
  have m_within := PySem.W.mg_of X G u_within
  have F_list := fun_mk (st := sIsList) l_list v_list k_list
  have b_list := F_list.binds (ps := ["value"]) fun _ _ _ _ _ _ us hl => match us, hl with | [_], _ => rfl
  have m_list := PySem.W.mg_of X G u_list
  have F_tup := fun_mk (st := sIsTuple) l_tup v_tup k_tup
  have b_tup := F_tup.binds (ps := ["value", "many"]) fun _ _ _ _ _ _ us hl => match us, hl with | [_, _], _ => rfl
  have m_tup := PySem.W.mg_of X G u_tup
  have F_spot := fun_mk (st := sSpot) l_spot v_spot k_spot
  have b_spot := F_spot.binds (ps := ["value"]) fun _ _ _ _ _ _ us hl => match us, hl with | [_], _ => rfl
  have m_spot := PySem.W.mg_of X G u_spot
  have F_line := fun_mk (st := sLine) l_line v_line k_line
  have b_line := F_line.binds (ps := ["value"]) fun _ _ _ _ _ _ us hl => match us, hl with | [_], _ => rfl
  have m_line := PySem.W.mg_of X G u_line
  have F_text := fun_mk (st := sIsText) l_text v_text k_text
  have b_text := F_text.binds (ps := ["value"]) fun _ _ _ _ _ _ us hl => match us, hl with | [_], _ => rfl
  have m_text := PySem.W.mg_of X G u_text
  have F_check := fun_mk (st := sCheck) l_check v_check k_check
  have m_check := PySem.W.mg_of X G u_check
  have F_iscost := fun_mk (st := sIsCost) l_iscost v_iscost k_iscost
  have b_iscost := F_iscost.binds (ps := ["value"]) fun _ _ _ _ _ _ us hl => match us, hl with | [_], _ => rfl
  have m_iscost := PySem.W.mg_of X G u_iscost
  have F_chkc := fun_mk (st := sChkC) l_chkc v_chkc k_chkc
  have b_chkc := F_chkc.binds (ps := ["costs"]) fun _ _ _ _ _ _ us hl => match us, hl with | [_], _ => rfl
  have m_chkc := PySem.W.mg_of X G u_chkc
  have F_chko := fun_mk (st := sChkO) l_chko v_chko k_chko
  have b_chko := F_chko.binds (ps := ["some"]) fun _ _ _ _ _ _ us hl => match us, hl with | [_], _ => rfl
  have m_chko := PySem.W.mg_of X G u_chko
  have F_pair := fun_mk (st := sPair) l_pair v_pair k_pair
  have b_pair := F_pair.binds (ps := ["old", "new", "value"]) fun _ _ _ _ _ _ us hl => match us, hl with | [_, _, _], _ => rfl
  have m_pair := PySem.W.mg_of X G u_pair
  have F_rise := fun_mk (st := sRising) l_rise v_rise k_rise
  have b_rise := F_rise.binds (ps := ["pairs"]) fun _ _ _ _ _ _ us hl => match us, hl with | [_], _ => rfl
  have m_rise := PySem.W.mg_of X G u_rise
  have F_isdiff := fun_mk (st := sIsDiff) l_isdiff v_isdiff k_isdiff
  have b_isdiff := F_isdiff.binds (ps := ["old", "new", "value"]) fun _ _ _ _ _ _ us hl => match us, hl with | [_, _, _], _ => rfl
  have m_isdiff := PySem.W.mg_of X G u_isdiff
  have F_checkd := fun_mk (st := sCheckD) l_checkd v_checkd k_checkd
  have b_checkd := F_checkd.binds (ps := ["old", "new", "diff"]) fun _ _ _ _ _ _ us hl => match us, hl with | [_, _, _], _ => rfl
  have m_checkd := PySem.W.mg_of X G u_checkd
  have F_kept := fun_mk (st := sKept) l_kept v_kept k_kept
  have b_kept := F_kept.binds (ps := ["old", "new", "diff"]) fun _ _ _ _ _ _ us hl => match us, hl with | [_, _, _], _ => rfl
  have m_kept := PySem.W.mg_of X G u_kept
  have F_gone := fun_mk (st := sGone) l_gone v_gone k_gone
  have b_gone := F_gone.binds (ps := ["old", "new", "diff"]) fun _ _ _ _ _ _ us hl => match us, hl with | [_, _, _], _ => rfl
  have m_gone := PySem.W.mg_of X G u_gone
  have F_come := fun_mk (st := sCome) l_come v_come k_come
  have b_come := F_come.binds (ps := ["old", "new", "diff"]) fun _ _ _ _ _ _ us hl => match us, hl with | [_, _, _], _ => rfl
  have m_come := PySem.W.mg_of X G u_come
  have F_gaps := fun_mk (st := sGaps) l_gaps v_gaps k_gaps
  have b_gaps := F_gaps.binds (ps := ["old", "new", "diff"]) fun _ _ _ _ _ _ us hl => match us, hl with | [_, _, _], _ => rfl
  have m_gaps := PySem.W.mg_of X G u_gaps
  have F_blocks := fun_mk (st := sBlocks) l_blocks v_blocks k_blocks
  have b_blocks := F_blocks.binds (ps := ["old", "new", "diff"]) fun _ _ _ _ _ _ us hl => match us, hl with | [_, _, _], _ => rfl
  have m_blocks := PySem.W.mg_of X G u_blocks
  have F_costof := fun_mk (st := sCostOf) l_costof v_costof k_costof
  have b_costof := F_costof.binds (ps := ["old", "new", "diff", "costs"]) fun _ _ _ _ _ _ us hl => match us, hl with | [_, _, _, _], _ => rfl
  have m_costof := PySem.W.mg_of X G u_costof
  have F_partner := fun_mk (st := sPartner) l_partner v_partner k_partner
  have b_partner := F_partner.binds (ps := ["old", "new", "diff", "i"]) fun _ _ _ _ _ _ us hl => match us, hl with | [_, _, _, _], _ => rfl
  have m_partner := PySem.W.mg_of X G u_partner
  have F_pot := fun_mk (st := sPot) l_pot v_pot k_pot
  have b_pot := F_pot.binds (ps := ["_law_script", "_law_index"]) fun _ _ _ _ _ _ us hl => match us, hl with | [_, _], _ => rfl
  have m_pot := PySem.W.mg_of X G u_pot
  have F_draw := fun_mk (st := sDraw) l_draw v_draw k_draw
  have b_draw := F_draw.binds (ps := ["_law_pot_here", "_law_many"]) fun _ _ _ _ _ _ us hl => match us, hl with | [_, _], _ => rfl
  have m_draw := PySem.W.mg_of X G u_draw
  have F_pick := fun_mk (st := sPick) l_pick v_pick k_pick
  have b_pick := F_pick.binds (ps := ["_law_pot_here", "_law_some"]) fun _ _ _ _ _ _ us hl => match us, hl with | [_, _], _ => rfl
  have m_pick := PySem.W.mg_of X G u_pick
  have F_ltext := fun_mk (st := sText) l_ltext v_ltext k_ltext
  have b_ltext := F_ltext.binds (ps := ["_law_pot_here", "_law_most"]) fun _ _ _ _ _ _ us hl => match us, hl with | [_, _], _ => rfl
  have m_ltext := PySem.W.mg_of X G u_ltext
  have F_near := fun_mk (st := sNear) l_near v_near k_near
  have b_near := F_near.binds (ps := ["_law_pot_here", "_law_lines", "_law_most"]) fun _ _ _ _ _ _ us hl => match us, hl with | [_, _, _], _ => rfl
  have m_near := PySem.W.mg_of X G u_near
  have F_two := fun_mk (st := sTwo) l_two v_two k_two
  have b_two := F_two.binds (ps := ["_law_pot_here", "_law_most"]) fun _ _ _ _ _ _ us hl => match us, hl with | [_, _], _ => rfl
  have m_two := PySem.W.mg_of X G u_two
  have F_diff := fun_mk (st := sDiff) l_diff v_diff k_diff
  have b_diff := F_diff.binds (ps := ["_law_pot_here", "_law_elder", "_law_newer"]) fun _ _ _ _ _ _ us hl => match us, hl with | [_, _, _], _ => rfl
  have m_diff := PySem.W.mg_of X G u_diff
  have F_lcosts := fun_mk (st := sLFees) l_lcosts v_lcosts k_lcosts
  have b_lcosts := F_lcosts.binds (ps := ["_law_pot_here"]) fun _ _ _ _ _ _ us hl => match us, hl with | [_], _ => rfl
  have m_lcosts := PySem.W.mg_of X G u_lcosts
  have F_lblocks := fun_mk (st := sLBlocks) l_lblocks v_lblocks k_lblocks
  have b_lblocks := F_lblocks.binds (ps := ["_law_elder", "_law_newer", "_law_pairing"]) fun _ _ _ _ _ _ us hl => match us, hl with | [_, _, _], _ => rfl
  have m_lblocks := PySem.W.mg_of X G u_lblocks
  have F_lcost := fun_mk (st := sLCost) l_lcost v_lcost k_lcost
  have b_lcost := F_lcost.binds (ps := ["_law_elder", "_law_newer", "_law_pairing", "_law_fees"]) fun _ _ _ _ _ _ us hl => match us, hl with | [_, _, _, _], _ => rfl
  have m_lcost := PySem.W.mg_of X G u_lcost
  have F_byb := fun_mk (st := sByB) l_byb v_byb k_byb
  have b_byb := F_byb.binds (ps := ["_law_blocks_here"]) fun _ _ _ _ _ _ us hl => match us, hl with | [_], _ => rfl
  have m_byb := PySem.W.mg_of X G u_byb
  have F_right := fun_mk (st := sRight) l_right v_right k_right
  have b_right := F_right.binds (ps := ["_law_pot_here", "_law_elder", "_law_newer", "_law_pairing"]) fun _ _ _ _ _ _ us hl => match us, hl with | [_, _, _, _], _ => rfl
  have m_right := PySem.W.mg_of X G u_right
  have F_law := fun_mk (st := sLaw) l_law v_law k_law
  have b_law := F_law.binds (ps := ["_law_script"]) fun _ _ _ _ _ _ us hl => match us, hl with | [_], _ => rfl
  have m_law := PySem.W.mg_of X G u_law
  have T2 : Blt2 mg := ⟨zb "sum" (by decide), zb "sorted" (by decide)⟩
  have X : CsX K mg C := ⟨⟨x_pg, x_hd, x_po, x_sa⟩, x_nP, x_nO, PySem.W.mg_of X G x_gC, ⟨_, _, ⟨x_rd, x_ga⟩, ⟨x_mo, ⟨_, rfl⟩⟩⟩, x_ha, x_hn, x_ht, x_hm⟩
  have M : Mk K C gI := ⟨x_mk, x_aI, x_iI, x_kc⟩
  have F_cinit : FunD K "__init__" "Costs.__init__" (defArgs sCInit) (defBody sCInit) (defScope sCInit) [.int 1, .int 1, .non] [] gI _ := ⟨⟨_, _, _, _, _, _, _, _, _, _, rfl, x_lI, x_vI, .inr ⟨by simp, Td, _, [.int 1 t1, .int 1 t2, .none], nT, rfl, x_lT, rfl, .cons ⟨_, rfl⟩ (.cons ⟨_, rfl⟩ (.cons rfl .nil))⟩, .inl rfl⟩, x_kI⟩
  have b_cinit := cInit_binds F_cinit
  have F_going := fun_mk (st := sGoing) x_lgoing x_vgoing x_kgoing
  have b_going := F_going.binds (ps := ["self", "line"]) fun _ _ _ _ _ _ us hl => match us, hl with | [_, _], _ => rfl
  have m_going : Meth K C "going" g_going := ⟨x_agoing, x_igoing, x_kgoing⟩
  have F_coming := fun_mk (st := sComing) x_lcoming x_vcoming x_kcoming
  have b_coming := F_coming.binds (ps := ["self", "line"]) fun _ _ _ _ _ _ us hl => match us, hl with | [_, _], _ => rfl
  have m_coming : Meth K C "coming" g_coming := ⟨x_acoming, x_icoming, x_kcoming⟩
  have F_of := fun_mk (st := sOf) x_lof x_vof x_kof
  have b_of := F_of.binds (ps := ["self", "line"]) fun _ _ _ _ _ _ us hl => match us, hl with | [_, _], _ => rfl
  have m_of : Meth K C "_of" g_of := ⟨x_aof, x_iof, x_kof⟩
  refine ⟨PySem.W.fnOf "law" "law" (defArgs sLaw) (defBody sLaw) (defScope sLaw) .none kV_law dc_law pm_law an_law cd_law ct_law, fun s v => .of_eq rfl, fun base _ _ => ?_⟩
  have G_whole := ok_whole (P := prg) (w := w) (base := base) F_whole T
  have G_within := ok_within (P := prg) (w := w) (base := base) F_within F_whole G_whole b_whole m_whole
  have G_tup := ok_tup (P := prg) (w := w) (base := base) F_tup T
  have G_spot := ok_spot (P := prg) (w := w) (base := base) F_spot T F_tup b_tup m_tup F_whole b_whole m_whole
  have G_line := ok_line (P := prg) (w := w) (base := base) F_line T
  have G_text := ok_isText (P := prg) (w := w) (base := base) F_text T M_MOST F_list b_list m_list F_line b_line m_line
  have G_check := ok_check (P := prg) (w := w) (base := base) l_check v_check (T.all "super" (by decide)) X_InvalidText F_text G_text b_text m_text
  have G_iscost := ok_isCost (P := prg) (w := w) (base := base) F_iscost X F_within G_within b_within m_within
  have G_chkc := ok_chkC (P := prg) (w := w) (base := base) F_chkc T X
  have G_chko := ok_chkO (P := prg) (w := w) (base := base) F_chko F_line G_line b_line m_line F_tup G_tup b_tup m_tup F_iscost G_iscost b_iscost m_iscost
  have G_cinit := ok_cInit (P := prg) (w := w) (base := base) F_cinit T T2 X F_iscost G_iscost b_iscost m_iscost F_chko G_chko b_chko m_chko
  have G_of := ok_of (P := prg) (w := w) (base := base) F_of X F_line G_line b_line m_line
  have G_going := ok_going (P := prg) (w := w) (base := base) F_going X F_of G_of b_of m_of
  have G_coming := ok_coming (P := prg) (w := w) (base := base) F_coming X F_of G_of b_of m_of
  have G_pair := ok_pair (P := prg) (w := w) (base := base) F_pair T F_spot G_spot b_spot m_spot
  have G_isdiff := ok_isDiff (P := prg) (w := w) (base := base) F_isdiff T G_check k_check m_check F_pair G_pair b_pair m_pair F_rise b_rise m_rise
  have G_checkd := ok_checkD (P := prg) (w := w) (base := base) F_checkd (T.all "super" (by decide)) X_InvalidDiff F_isdiff G_isdiff b_isdiff m_isdiff
  have CK : Chk prg w K mg base g_checkd _ _ _ := ⟨F_checkd, G_checkd, b_checkd, m_checkd⟩
  have G_kept := ok_kept (P := prg) (w := w) (base := base) F_kept CK
  have G_gone := ok_gone (P := prg) (w := w) (base := base) F_gone T F_kept G_kept b_kept m_kept
  have G_come := ok_come (P := prg) (w := w) (base := base) F_come T CK
  have G_gaps := ok_gaps (P := prg) (w := w) (base := base) F_gaps T
  have G_blocks := ok_blocks (P := prg) (w := w) (base := base) F_blocks CK F_gaps G_gaps b_gaps m_gaps
  have G_costof := ok_costOf (P := prg) (w := w) (base := base) F_costof T2 CK X F_chkc G_chkc b_chkc m_chkc F_gone G_gone b_gone m_gone F_come G_come b_come m_come G_going b_going m_going G_coming b_coming m_coming
  have G_partner := ok_partner (P := prg) (w := w) (base := base) F_partner T CK F_within G_within b_within m_within
  have PK : PkR prg w K mg base C gI _ _ _ _ _ _ _ _ _ _ _ _ _ := ⟨X, M, G_cinit, b_cinit, F_blocks, G_blocks, b_blocks, kb3 F_blocks fun _ _ _ _ _ _ _ _ _ => rfl, m_blocks, F_gone, G_gone, b_gone, kb3 F_gone fun _ _ _ _ _ _ _ _ _ => rfl, m_gone, F_come, G_come, b_come, kb3 F_come fun _ _ _ _ _ _ _ _ _ => rfl, m_come, F_kept, G_kept, b_kept, kb3 F_kept fun _ _ _ _ _ _ _ _ _ => rfl, m_kept, F_costof, G_costof, b_costof, kb4 F_costof fun _ _ _ _ _ _ _ _ _ _ => rfl, m_costof, F_partner, G_partner, b_partner, m_partner⟩
  have G_pot := ok_pot (P := prg) (w := w) (base := base) F_pot T
  have G_draw := ok_draw (P := prg) (w := w) (base := base) F_draw T
  have G_pick := ok_pick (P := prg) (w := w) (base := base) F_pick T F_draw b_draw m_draw
  have DR : Draws prg w K mg base _ _ _ _ := ⟨F_draw, G_draw, b_draw, m_draw, F_pick, G_pick, b_pick, m_pick⟩
  have G_ltext := ok_text (P := prg) (w := w) (base := base) F_ltext T DR
  have G_near := ok_near (P := prg) (w := w) (base := base) F_near T DR
  have G_two := ok_two (P := prg) (w := w) (base := base) F_two T DR F_ltext b_ltext m_ltext F_near b_near m_near
  have G_diff := ok_diffX (P := prg) (w := w) (base := base) F_diff T DR
  have G_lcosts := ok_lFees (P := prg) (w := w) (base := base) F_lcosts DR
  have G_lblocks := ok_lBlocks (P := prg) (w := w) (base := base) F_lblocks T
  have G_lcost := ok_lCost (P := prg) (w := w) (base := base) F_lcost T
  have G_byb := ok_byB (P := prg) (w := w) (base := base) F_byb T
  have G_right := ok_right (P := prg) (w := w) (base := base) F_right T T2 PK F_lcosts G_lcosts b_lcosts m_lcosts F_lblocks G_lblocks b_lblocks m_lblocks F_byb G_byb b_byb m_byb F_lcost G_lcost b_lcost m_lcost
  exact ok_law F_law T DR F_pot G_pot b_pot m_pot F_two G_two b_two m_two F_diff G_diff b_diff m_diff F_right G_right b_right m_right
theorem walk {l : PySem.W.OpenLaw} {q : Program} {loose : List Str} {XP : (Str → Option Value) → Heap → Prop} {YP : World → Heap → Prop} {d : DefRec} {K : Params → PySem.W.Frag} (hn : l.most = some 63) (hdf : d.params.defaults = [])
    (hY : ∀ (w : World) (h : Heap), YP w h → (K w.params).In h)
    (F : ∀ (w : World) (mg : Str → Option Value) (fa : Addr) (h : Heap), (K w.params).In h → h.Ns mainGlobals mg → mg d.name = some (.ref fa) →
      ∃ fd : FuncData, (∀ (s : Shared) (u : Value), BindsTo s fd ⟨[u], []⟩ [("_law_script", u)]) ∧ ∀ base : Heap, (K w.params).In base → base.Ns mainGlobals mg → FnG l.prog w (K w.params) mg base 10 fa fd ["_law_script"] (spLaw (K w.params))) :
    PySem.W.WalkO q loose XP YP l.row.toRowW d [] (fun f vs => PySem.call f vs) :=
  walkG (n := 63) (k := 10) (x := "_law_script") (sp := fun w => spLaw (K w.params)) hn (by decide) hdf ⟨rfl, by decide, by decide⟩ hY F (fun _ _ a ns hl _ hS => ⟨a, ns, rfl, hS, hl, fun _ => rfl⟩)
end K14
open PySem PySem.W PyProof.Rows
set_option maxRecDepth 100000 in
set_option maxHeartbeats 0 in
theorem PySem.Challenge.cw_alldiffs_k14_whole_diffs_taken_apart_holds : PySem.Challenge.rw_alldiffs_k14_whole_diffs_taken_apart.Holds := by
  w_on; o_law; k_headL; (case hw => w_witness2)
  k_fill
  refine K14.walk (l := PySem.Challenge.rw_alldiffs_k14_whole_diffs_taken_apart) rfl rfl (fun w h Y => PySem.W.kIn_of Y) ?F
  case F =>
    intro w mg fa h KX G hmg
    refine' K14.all_mk KX G hmg ?a_InvalidText ?b_InvalidText ?i_InvalidText ?S_InvalidText ?a_InvalidDiff ?b_InvalidDiff ?i_InvalidDiff ?S_InvalidDiff ?u_whole ?l_whole ?v_whole ?k_whole ?u_within ?l_within ?v_within ?k_within ?u_list ?l_list ?v_list ?k_list ?u_tup ?l_tup ?v_tup ?k_tup ?u_spot ?l_spot ?v_spot ?k_spot ?u_line ?l_line ?v_line ?k_line ?u_text ?l_text ?v_text ?k_text ?u_check ?l_check ?v_check ?k_check ?u_iscost ?l_iscost ?v_iscost ?k_iscost ?u_chkc ?l_chkc ?v_chkc ?k_chkc ?u_chko ?l_chko ?v_chko ?k_chko ?u_pair ?l_pair ?v_pair ?k_pair ?u_rise ?l_rise ?v_rise ?k_rise ?u_isdiff ?l_isdiff ?v_isdiff ?k_isdiff ?u_checkd ?l_checkd ?v_checkd ?k_checkd ?u_kept ?l_kept ?v_kept ?k_kept ?u_gone ?l_gone ?v_gone ?k_gone ?u_come ?l_come ?v_come ?k_come ?u_gaps ?l_gaps ?v_gaps ?k_gaps ?u_blocks ?l_blocks ?v_blocks ?k_blocks ?u_costof ?l_costof ?v_costof ?k_costof ?u_partner ?l_partner ?v_partner ?k_partner ?u_pot ?l_pot ?v_pot ?k_pot ?u_draw ?l_draw ?v_draw ?k_draw ?u_pick ?l_pick ?v_pick ?k_pick ?u_ltext ?l_ltext ?v_ltext ?k_ltext ?u_near ?l_near ?v_near ?k_near ?u_two ?l_two ?v_two ?k_two ?u_diff ?l_diff ?v_diff ?k_diff ?u_lcosts ?l_lcosts ?v_lcosts ?k_lcosts ?u_lblocks ?l_lblocks ?v_lblocks ?k_lblocks ?u_lcost ?l_lcost ?v_lcost ?k_lcost ?u_byb ?l_byb ?v_byb ?k_byb ?u_right ?l_right ?v_right ?k_right ?u_law ?l_law ?v_law ?k_law ?zz ?c_MOST ?x_gC ?x_aI ?x_iI ?x_lI ?x_vI ?x_kI ?x_lT ?x_agoing ?x_igoing ?x_lgoing ?x_vgoing ?x_kgoing ?x_acoming ?x_icoming ?x_lcoming ?x_vcoming ?x_kcoming ?x_aof ?x_iof ?x_lof ?x_vof ?x_kof ?x_pg ?x_hd ?x_po ?x_sa ?x_mk ?x_kc ?x_nP ?x_nO ?x_rd ?x_ga ?x_mo ?x_ha ?x_hn ?x_ht ?x_hm
    (case a_InvalidText => k_is); (case b_InvalidText => k_is); (case i_InvalidText => exact ⟨_, _, _, _, _, _, _, _, rfl⟩)
    (case a_InvalidDiff => k_is); (case b_InvalidDiff => k_is); (case i_InvalidDiff => exact ⟨_, _, _, _, _, _, _, _, rfl⟩)
    (case u_whole => k_is); (case l_whole => k_is); (case v_whole => k_is); (case k_whole => k_is)
    (case u_within => k_is); (case l_within => k_is); (case v_within => k_is); (case k_within => k_is)
    (case u_list => k_is); (case l_list => k_is); (case v_list => k_is); (case k_list => k_is)
    (case u_tup => k_is); (case l_tup => k_is); (case v_tup => k_is); (case k_tup => k_is)
    (case u_spot => k_is); (case l_spot => k_is); (case v_spot => k_is); (case k_spot => k_is)
    (case u_line => k_is); (case l_line => k_is); (case v_line => k_is); (case k_line => k_is)
    (case u_text => k_is); (case l_text => k_is); (case v_text => k_is); (case k_text => k_is)
    (case u_check => k_is); (case l_check => k_is); (case v_check => k_is); (case k_check => k_is)
    (case u_iscost => k_is); (case l_iscost => k_is); (case v_iscost => k_is); (case k_iscost => k_is)
    (case u_chkc => k_is); (case l_chkc => k_is); (case v_chkc => k_is); (case k_chkc => k_is)
    (case u_chko => k_is); (case l_chko => k_is); (case v_chko => k_is); (case k_chko => k_is)
    (case u_pair => k_is); (case l_pair => k_is); (case v_pair => k_is); (case k_pair => k_is)
    (case u_rise => k_is); (case l_rise => k_is); (case v_rise => k_is); (case k_rise => k_is)
    (case u_isdiff => k_is); (case l_isdiff => k_is); (case v_isdiff => k_is); (case k_isdiff => k_is)
    (case u_checkd => k_is); (case l_checkd => k_is); (case v_checkd => k_is); (case k_checkd => k_is)
    (case u_kept => k_is); (case l_kept => k_is); (case v_kept => k_is); (case k_kept => k_is)
    (case u_gone => k_is); (case l_gone => k_is); (case v_gone => k_is); (case k_gone => k_is)
    (case u_come => k_is); (case l_come => k_is); (case v_come => k_is); (case k_come => k_is)
    (case u_gaps => k_is); (case l_gaps => k_is); (case v_gaps => k_is); (case k_gaps => k_is)
    (case u_blocks => k_is); (case l_blocks => k_is); (case v_blocks => k_is); (case k_blocks => k_is)
    (case u_costof => k_is); (case l_costof => k_is); (case v_costof => k_is); (case k_costof => k_is)
    (case u_partner => k_is); (case l_partner => k_is); (case v_partner => k_is); (case k_partner => k_is)
    (case u_pot => k_is); (case l_pot => k_is); (case v_pot => k_is); (case k_pot => k_is)
    (case u_draw => k_is); (case l_draw => k_is); (case v_draw => k_is); (case k_draw => k_is)
    (case u_pick => k_is); (case l_pick => k_is); (case v_pick => k_is); (case k_pick => k_is)
    (case u_ltext => k_is); (case l_ltext => k_is); (case v_ltext => k_is); (case k_ltext => k_is)
    (case u_near => k_is); (case l_near => k_is); (case v_near => k_is); (case k_near => k_is)
    (case u_two => k_is); (case l_two => k_is); (case v_two => k_is); (case k_two => k_is)
    (case u_diff => k_is); (case l_diff => k_is); (case v_diff => k_is); (case k_diff => k_is)
    (case u_lcosts => k_is); (case l_lcosts => k_is); (case v_lcosts => k_is); (case k_lcosts => k_is)
    (case u_lblocks => k_is); (case l_lblocks => k_is); (case v_lblocks => k_is); (case k_lblocks => k_is)
    (case u_lcost => k_is); (case l_lcost => k_is); (case v_lcost => k_is); (case k_lcost => k_is)
    (case u_byb => k_is); (case l_byb => k_is); (case v_byb => k_is); (case k_byb => k_is)
    (case u_right => k_is); (case l_right => k_is); (case v_right => k_is); (case k_right => k_is)
    (case u_law => k_is); (case l_law => k_is); (case v_law => k_is); (case k_law => k_is)
    (case c_MOST => k_is)
    (case S_InvalidText => exact ⟨by kernel_rfl, by kernel_rfl, by kernel_rfl, by kernel_rfl, by kernel_rfl, by kernel_rfl, by kernel_rfl, by kernel_rfl, by kernel_rfl, by kernel_rfl, by kernel_rfl, by kernel_rfl, by kernel_rfl, by kernel_rfl, by kernel_rfl, by kernel_rfl, by kernel_rfl, by kernel_rfl, by kernel_rfl, by kernel_rfl, by kernel_rfl, by kernel_rfl, by kernel_rfl, by kernel_rfl⟩)
    (case S_InvalidDiff => exact ⟨by kernel_rfl, by kernel_rfl, by kernel_rfl, by kernel_rfl, by kernel_rfl, by kernel_rfl, by kernel_rfl, by kernel_rfl, by kernel_rfl, by kernel_rfl, by kernel_rfl, by kernel_rfl, by kernel_rfl, by kernel_rfl, by kernel_rfl, by kernel_rfl, by kernel_rfl, by kernel_rfl, by kernel_rfl, by kernel_rfl, by kernel_rfl, by kernel_rfl, by kernel_rfl, by kernel_rfl⟩)
    (case zz => kernel_rfl)
    (case x_gC => k_is)
    (case x_aI => k_is)
    (case x_iI => k_is)
    (case x_lI => k_is)
    (case x_vI => k_is)
    (case x_kI => k_is)
    (case x_lT => k_is)
    (case x_agoing => k_is)
    (case x_igoing => k_is)
    (case x_lgoing => k_is)
    (case x_vgoing => k_is)
    (case x_kgoing => k_is)
    (case x_acoming => k_is)
    (case x_icoming => k_is)
    (case x_lcoming => k_is)
    (case x_vcoming => k_is)
    (case x_kcoming => k_is)
    (case x_aof => k_is)
    (case x_iof => k_is)
    (case x_lof => k_is)
    (case x_vof => k_is)
    (case x_kof => k_is)
    (case x_pg => k_is)
    (case x_hd => k_is)
    (case x_po => k_is)
    (case x_sa => k_is)
    (case x_mk => k_is)
    (case x_kc => k_is)
    (case x_nP => k_is)
    (case x_nO => k_is)
    (case x_rd => kernel_rfl)
    (case x_ga => kernel_rfl)
    (case x_mo => first | k_is | rfl)
    (case x_ha => kernel_rfl)
    (case x_hn => kernel_rfl)
    (case x_ht => kernel_rfl)
    (case x_hm => kernel_rfl)
