import PyProof.Rows.All
import Wide.All
import OpenK.AllK
import Wide.FinOn
import KE.OsRunLaw
import KE.KExcIs
import KE.KExcTry
import KE.KExcSuper
import HandS.Exc
import HandS.ExcInit
import HandS.ExcSuper
import HandS.ForMost
import HandS.RaiseMore
import PyProof.ReprRoads
import HandS.ExcIs
import HandS.Star
import HandS.IsInst
import HandS.Text
import HandS.Walk
import HandS.TupAny
import HandS.TupMul
import HandS.WordsExc
import HandS.Iter
import KE.GoesEnum
import PyProof.Rows.IntBool
import PyProof.Rows.EqBoolInt
import HandS.TryMany
import PyProof.StrLawsRepr
import HandS.Zip
import KE.GoesMore
import KE.GoesZip
import HandS.DictComp
import HandS.List
import PyProof.EqAt
import HandS.TryOnly
import PySem.Challenge.RW_alldiffs_k65_clashes_resolved
set_option Elab.async false
set_option maxRecDepth 100000
set_option maxHeartbeats 8000000
set_option linter.all false
/-! An exception of a class of the text, made by a call with positions and keywords. -/
namespace XR
open PySem PySem.W PySem.Calls
section
variable {P : Program} {w : World} {M : Model} {A : Around} {E : Value → Shared → Prop} {R : Result → Shared → Prop} {h : Heap} {g : Array GenState} {d : Drawn} {t : Nat} {os : OsState}
variable {nm q : Str} {C N : Addr} {bs bm bmB : List Value} {hdct : Bool} {sn : List Str} {sub : List Value} {ab : Bool} {col : Option Bool} {dd : Option Addr} {k0 k1 k2 k3 k5 : Option Value} {B newId initId : String}

theorem newChecked (F : ExcBaseFacts B newId initId bmB) (hT : ∀ X : String, bm.contains (.type X) = bmB.contains (.type X)) {us : List Value} {kw : List (Str × Value)} {Q : Unit → Shared → Prop}
    (hC : h.get? C = some (excClassObj nm q C N bs bm hdct sn sub ab col dd k0 k1 k2 k3 k5 newId)) (z : Q () ⟨h, g, d, t, os⟩) : wpAny M A (checkBuiltinCall newId ⟨.ref C :: us, kw⟩) Q E ⟨h, g, d, t, os⟩ := by
  have c1 : (Value.ref C :: bm).contains (.type B) = true := by rw [List.contains_cons, hT, F.hasB, Bool.or_true]
  have c2 := F.noStar
  simp only [checkBuiltinCall, F.newKind, F.newSplit, F.newRow]
  repeat (first
    | refine wpAny_loadPart_at hC ?_
    | (refine wpAny_isSubtype_exc hC ?_; rw [c1])
    | refine wpAny_staticBase_exc hC ?_
    | refine wpAny_madeBy_exc hC ?_
    | simp only [bne_self_eq_false, Bool.false_eq_true, if_false]
    | wp_step)
  exact z

/-- BaseException.__new__ of such a class: the args from the positions alone -/
theorem newRuns (F : ExcBaseFacts B newId initId bmB) (hT : ∀ X : String, bm.contains (.type X) = bmB.contains (.type X)) {us : List Value} {kw : List (Str × Value)}
    (hC : h.get? C = some (excClassObj nm q C N bs bm hdct sn sub ab col dd k0 k1 k2 k3 k5 newId)) (hl : us.length ≤ sizeLine)
    (z : R (.ok (.ret (.ref (h.objs.size + 1)))) ⟨(h.push (kdv_tup us)).push (excObj C h.objs.size none .none), g, d, t, os⟩) :
    codeAny (model P w) A (.builtin newId ⟨.ref C :: us, kw⟩) R ⟨h, g, d, t, os⟩ := by
  have c0 := F.ends
  have c1 : (Value.ref C :: bm).contains (.type B) = true := by rw [List.contains_cons, hT, F.hasB, Bool.or_true]
  have c2 : (Value.ref C :: bm).contains (.type "AttributeError") = false := by rw [List.contains_cons, hT, F.noAttr]; rfl
  have c3 : (Value.ref C :: bm).contains (.type "NameError") = false := by rw [List.contains_cons, hT, F.noName]; rfl
  refine codeAny_builtinAt F.entry ?_
  unfold Builtin.«BaseException.__new__»
  refine wpAt_bind ?_
  show PySem.wpAt _ _ _ (stack >>= _) _ _ _
  refine wpAt_bind (wpAt_stack fun p below => wpAt_of_wpAny ?_)
  wp_walk
  refine wpAt_of_wpAny ?_
  rw [F.owner]
  repeat (first
    | with_reducible refine wpAny_madeHere_exc F.canon hC ?_
    | with_reducible refine wpAny_loadPart_at hC ?_
    | (with_reducible refine wpAny_isSubtype_exc hC ?_; first | rw [c1] | rw [c2] | rw [c3])
    | wp_step)
  show R _ _
  rw [Heap.size_push]
  exact z

theorem typeCall (F : ExcBaseFacts B newId initId bmB) (hT : ∀ X : String, bm.contains (.type X) = bmB.contains (.type X)) {us : List Value} {kw : List (Str × Value)} {fI : Addr} {Q : Fin → Shared → Prop}
    (hC : h.get? C = some (excClassObj nm q C N bs bm hdct sn sub ab col dd k0 k1 k2 k3 k5 newId))
    (hi : Looks (model P w) h (typeLookup (.ref C) "__init__") (some (.ref fI))) (hb : ∀ self, Looks (model P w) h (bindSpecial (.ref fI) self) (.ref fI, [self])) (hl : us.length ≤ sizeLine)
    (z : codeAny (model P w) A (.call (.ref fI) ⟨.ref (h.objs.size + 1) :: us, kw⟩)
      (fun r s' => match r with | .ok (.ret v) => v = .none ∧ Q (.done (.ret (.ref (h.objs.size + 1)))) s' | .ok _ => False | .error e => E e s')
      ⟨(h.push (kdv_tup us)).push (excObj C h.objs.size none .none), g, d, t, os⟩) :
    wpAny (model P w) A (Builtin.«type.__call__» ⟨.ref C :: us, kw⟩) Q E ⟨h, g, d, t, os⟩ := by
  repeat (first
    | with_reducible refine wpAny_loadPart_at hC ?_
    | with_reducible refine wpAny_madeBy_exc hC ?_
    | wp_step)
  refine codeAny_call_builtin_code (Code.quiet_builtin _ F.quiet) (newChecked F hT hC ?_)
  refine newRuns F hT hC hl ?_
  show wpAny _ _ _ _ _ _
  have k : ∀ b o, h.get? b = some o → ((h.push (kdv_tup us)).push (excObj C h.objs.size none .none)).get? b = some o := fun b o e => Heap.get?_push_of_some _ (Heap.get?_push_of_some _ e)
  have c4 := k _ _ hC
  have c5 : ((h.push (kdv_tup us)).push (excObj C h.objs.size none .none)).get? (h.objs.size + 1) = some (excObj C h.objs.size none .none) := by heap_get
  have c6 : (Value.ref C :: bm).contains (.ref C) = true := by simp
  have i1 := hi.keeps k
  have b1 := (hb (.ref (h.objs.size + 1))).keeps k
  unfold isInstance
  repeat (first
    | with_reducible refine wpAny_loadPart_at c5 ?_
    | (with_reducible refine wpAny_isSubtype_exc c4 ?_; rw [c6])
    | wp_step)
  show wpAny _ _ (typeLookup (.ref C) _) _ _ _
  refine i1.at ?_
  refine wpAny_holding (wpAny_bind (b1.at ?_))
  refine wpAny_bind (wpAny_call (codeAny_mono z fun r s' y => ?_))
  rcases r with e | (v | _ | _ | _) <;> first | exact y | exact y.elim | skip
  obtain ⟨rfl, y⟩ := y
  first
    | exact wpAny_pure (wpAny_pure y)
    | (wp_walk; exact y)

theorem callMade (F : ExcBaseFacts B newId initId bmB) (hT : ∀ X : String, bm.contains (.type X) = bmB.contains (.type X)) {us : List Value} {kw : List (Str × Value)} {fI : Addr}
    (hC : h.get? C = some (excClassObj nm q C N bs bm hdct sn sub ab col dd k0 k1 k2 k3 k5 newId))
    (hi : Looks (model P w) h (typeLookup (.ref C) "__init__") (some (.ref fI))) (hb : ∀ self, Looks (model P w) h (bindSpecial (.ref fI) self) (.ref fI, [self])) (hl : us.length ≤ sizeLine)
    (z : codeAny (model P w) (A.under (.builtin "type.__call__" ⟨.ref C :: us, kw⟩)) (.call (.ref fI) ⟨.ref (h.objs.size + 1) :: us, kw⟩) (InitBack (h.objs.size + 1) R)
      ⟨(h.push (kdv_tup us)).push (excObj C h.objs.size none .none), g, d, t, os⟩) :
    codeAny (model P w) A (.call (.ref C) ⟨us, kw⟩) R ⟨h, g, d, t, os⟩ := by
  have f1 := tc_lookup
  have f2 := tc_bind (.ref C)
  have f3 : (⟨h, g, d, t, os⟩ : Shared).TypeIs (.ref C) "type" := ⟨_, hC, rfl⟩
  refine codeAny_of_tree ?_
  show wpAny _ _ (callAny (.ref C) _) _ _ _
  repeat (any_goals (first | assumption | with_reducible refine wpAny_loadPart_at hC ?_ | wp_step))
  refine ⟨rfl, ?_⟩
  refine codeAny_call_builtin_at (Code.quiet_builtin _ (by decide +kernel)) entry_typeCall (wpAny_check_type_call_sub hC (typeCall F hT hC hi hb hl ?_))
  refine codeAny_mono z fun r s' y => ?_
  rcases r with e | (v | _ | _ | _) <;> exact y
end
end XR
namespace XR
open PySem PySem.W PySem.Calls
open Builtin Builtin.ObjectAttr
section
variable {P : Program} {w : World} {M : Model} {A : Around} {E : Value → Shared → Prop} {R : Result → Shared → Prop} {h : Heap} {g : Array GenState} {d : Drawn} {t : Nat} {os : OsState}
variable {K : Frag} {C e t1 dx : Addr} {B : String} {bmB : List Value} {f : Str} {v : Value} {Q : Unit → Shared → Prop}

/-- the first field of an exception: its dict is made -/
theorem storeFirst (SF : StoreFacts B bmB "object.__setattr__" "object") (X : K.In h) (he : h.get? e = some (excObj C t1 none .none)) (sa : findIn K (.ref C) "__setattr__" = some (some (.builtin "object.__setattr__")))
    (ov : excOver K C bmB = true) (di : hasDictIn K C = true) (tk : takerIn K C f = some none)
    (z : ∀ h' tk' dx, (∀ b o, b ≠ e → h.get? b = some o → h'.get? b = some o) → h.objs.size ≤ dx → dx ≠ e → h'.get? e = some (excObj C t1 (some dx) .none) → h'.Ns1 dx (fun y => if y = f then some v else none) → Q () ⟨h', g, d, tk', os⟩) :
    wpAny (model P w) A (setAttr (.ref e) f v) Q E ⟨h, g, d, t, os⟩ := by
  have I : W.InstAt h e (excObj C t1 none .none) C none := ⟨he, rfl, rfl, trivial⟩
  refine set_plain X I sa ?_
  refine osa_openX (r := none) SF X I ov tk fun b => ?_
  obtain ⟨cd, hc, hd'⟩ := any_some di
  have hcls : Looks (model P w) h (classData C) cd := looks_clsIn X hc
  have hes : e ≠ h.objs.size := Nat.ne_of_lt (Heap.lt_size he)
  show wpAny _ _ (storeInOwnDict (.ref e) (.ref C) (.str f t) f v b) _ _ _
  obtain ⟨nm, bs, mro, ns, qn, hd, sn, sb, ab, col, del⟩ := cd
  dsimp only at hd'
  subst hd'
  unfold storeInOwnDict ownDictForStores
  repeat (first
    | with_reducible refine PySem.HandSPX.store_in_new ?_ ?_
    | with_reducible refine wpAny_loadPart_at he ?_
    | with_reducible refine hcls.at ?_
    | wp_step)
  · exact ⟨_, #[], _, (Heap.get?_update_ne _ _ _ _ hes.symm).trans (Heap.get?_push_at rfl rfl), rfl, fun e he => absurd he (by simp), fun _ => rfl⟩
  · intro h' tk' hn' hs
    have h1 : (h.push { cls := .type "dict", data := .dict #[] }).get? e = some (excObj C t1 none .none) := Heap.get?_push_of_some _ he
    refine z h' tk' h.objs.size (fun b o hb ho => ?_) (Nat.le_refl _) hes.symm ?_ hn'
    · exact (hs.2 b (Nat.ne_of_lt (Heap.lt_size ho))).trans ((Heap.get?_update_ne _ _ _ _ hb).trans (Heap.get?_push_of_some _ ho))
    · exact (hs.2 e hes).trans (Heap.get?_update_self _ h1 rfl)

/-- a further one -/
theorem storeNext {m0 : Str → Option Value} {ns : List Str} (SF : StoreFacts B bmB "object.__setattr__" "object") (X : K.In h) (he : h.get? e = some (excObj C t1 (some dx) .none)) (hn : h.Ns1 dx m0) (hw : Within m0 ns) (hz : ns.length ≤ 1000)
    (sa : findIn K (.ref C) "__setattr__" = some (some (.builtin "object.__setattr__"))) (ov : excOver K C bmB = true) (di : hasDictIn K C = true) (tk : takerIn K C f = some none)
    (z : ∀ h' tk', (∀ b o, b ≠ dx → h.get? b = some o → h'.get? b = some o) → h'.Ns1 dx (fun y => if y = f then some v else m0 y) → Q () ⟨h', g, d, tk', os⟩) :
    wpAny (model P w) A (setAttr (.ref e) f v) Q E ⟨h, g, d, t, os⟩ := by
  obtain ⟨oD, esD, epD, hoD, hdD, _⟩ := hn.count hw
  have I : W.InstAt h e (excObj C t1 (some dx) .none) C (some oD) := ⟨he, rfl, rfl, hoD⟩
  refine set_plain X I sa ?_
  refine osa_openX (r := none) SF X I ov tk fun b => ?_
  obtain ⟨cd, hc, hd'⟩ := any_some di
  have hcls : Looks (model P w) h (classData C) cd := looks_clsIn X hc
  show wpAny _ _ (storeInOwnDict (.ref e) (.ref C) (.str f t) f v b) _ _ _
  obtain ⟨nm, bs, mro, nsx, qn, hd, sn, sb, ab, col, del⟩ := cd
  dsimp only at hd'
  subst hd'
  unfold storeInOwnDict ownDictForStores
  repeat (first
    | with_reducible refine PySem.OEX.store_in_old hn hw hz ?_
    | with_reducible refine wpAny_loadPart_at he ?_
    | with_reducible refine hcls.at ?_
    | wp_step)
  intro h' tk' hn' hs
  exact z h' tk' (fun b o hb ho => (hs.2 b hb).trans ho) hn'
end
end XR
namespace XR
open PySem PySem.W PySem.Calls
/-- what the written part says of an exception class over the built-in B, and of its __init__ -/
structure XCls (K : Frag) (P : Program) (C fI cc cda : Addr) (B newId initId : String) (bmB : List Value) (fd : FuncData) : Prop where
  FB : ExcBaseFacts B newId initId bmB
  SF : StoreFacts B bmB "object.__setattr__" "object"
  KF : KxsFacts B initId
  ei : excInitIn K C bmB newId = true
  ov : excOver K C bmB = true
  di : hasDictIn K C = true
  sa : findIn K (.ref C) "__setattr__" = some (some (.builtin "object.__setattr__"))
  su : ks_superIn K C C "__init__" = some (some (.builtin initId))
  sb : subIn K (.ref C) (.type B) = some true
  me : mroIn K C (.ref C) = some true
  op : nsIn K cStatics "thirdparty.any" = some none
  ini : findIn K (.ref C) "__init__" = some (some (.ref fI))
  fn : isFn K (.ref fI) = true
  lk : ∃ oc od osl, K.lookup fI = some ⟨oc, od, .func fd, osl⟩
  cod : codeIn K (.ref cda) fd.qualname = true
  cdl : ∃ a b vs c file tf, K.lookup cda = some ⟨a, b, .fields vs, c⟩ ∧ vs[2]? = some (.str file tf) ∧ ((P.main.file : Str) == file) = true
  cel : ∃ a b c, K.lookup cc = some ⟨a, b, .cell (some (.ref C)), c⟩
  kp : keepIn K (.ref C) = true

/-- a store of a parameter -/
def stS (f p : Str) (a b c d : Pos) : Stmt := .Assign [.Attribute (.Name "self" a) f b] (.Name p c) d
def stSup (txt : Str) (k : Nat) (p0 p1 p2 p3 p4 p5 : Pos) : Stmt := .Expr (.Call (.Attribute (.Call (.Name "super" p0) [] [] p1) "__init__" p2) [.Constant (.str txt) k p3] [] p4) p5

section
variable {P : Program} {w : World} {A : Around} {h : Heap} {g : Array GenState} {d : Drawn} {t : Nat} {os : OsState}
variable {K : Frag} {C fI cc cda e t1 L : Addr} {B newId initId : String} {bmB : List Value} {fd : FuncData} {m mg mb : Str → Option Value} {qual : Str} {scope : Scope}

/-- super().__init__(text): the args are laid anew -/
theorem superRuns {body : List Stmt} {txt : Str} {k : Nat} {p0 p1 p2 p3 p4 p5 : Pos} {ar : Arg} {Q : Flow → Shared → Prop} {E : Value → Shared → Prop} (T : XCls K P C fI cc cda B newId initId bmB fd) (X : K.In h) (he : h.get? e = some (excObj C t1 none .none))
    (hn : h.Ns L m) (hv : m "self" = some (.ref e)) (hm : h.Ns mainGlobals mg) (hb : h.Ns builtinsNs mb) (m1 : mg "super" = none) (m2 : mb "super" = some (.type "super"))
    (hp : (fd.params.posonlyargs ++ fd.params.args).head? = some ar) (har : ar.arg = "self")
    (hks : scope.names.lookup ("super" : Str) = some .globalImplicit) (hkc : scope.names.lookup ("__class__" : Str) = some .free) (hka : scope.names.lookup ("self" : Str) = some .local) (hk : scope.kind = .function)
    (hev : ∃ pl, eval (.Call (.Attribute (.Call (.Name "super" p0) [] [] p1) "__init__" p2) [.Constant (.str txt) k p3] [] p4) (ksEnv qual scope L fI (.ref cda) cc) = (do
      let ov ← attributeBase (.Call (.Name "super" p0) [] [] p1) "__init__" (ksEnv qual scope L fI (.ref cda) cc) (eval (.Call (.Name "super" p0) [] [] p1) (ksEnv qual scope L fI (.ref cda) cc))
      standAt p2.atName
      let (f, first) ← holding [ov] (getMethod ov "__init__" pl)
      callWith p4 f first (backTo p4 (starEach [.Constant (.str txt) k p3] (ksEnv qual scope L fI (.ref cda) cc))) []))
    (htop : (P.main.scope.names.lookup ("super" : Str)).isSome = false) (heL : e ≠ L)
    (z : ∀ h' t2 tk, (∀ b o, b ≠ e → h.get? b = some o → h'.get? b = some o) → h'.get? e = some (excObj C t2 none .none) → Q .next ⟨h', g, d, tk, os⟩) :
    PySem.wpAt (model P w) A (.func body (ksEnv qual scope L fI (.ref cda) cc)) (exec (stSup txt k p0 p1 p2 p3 p4 p5) (ksEnv qual scope L fI (.ref cda) cc)) Q E ⟨h, g, d, t, os⟩ := by
  obtain ⟨kd, nms, ig, ic, mr⟩ := scope
  dsimp only at hk hks hkc hka hev
  obtain ⟨pl, hev⟩ := hev
  subst hk
  have hk : (⟨.function, nms, ig, ic, mr⟩ : Scope).kind = .function := rfl
  obtain ⟨oc, od, osl, lk⟩ := T.lk
  obtain ⟨a1, a2, vs, a3, file, tf, cdl, hvs, hfile⟩ := T.cdl
  obtain ⟨b1, b2, b3, cel⟩ := T.cel
  obtain ⟨nm, N', qn, bs, bm, hdct, sn, sub, ab, col, dd, k0, k1', k2, k3, k5, hC, hT⟩ := excInit_of X T.ei
  have I : W.InstAt h e (excObj C t1 none .none) C none := ⟨he, rfl, rfl, trivial⟩
  refine ks_wpAt_Expr_any ?_
  refine ks_wpAt_MethodCall (pl := pl) ?_ hev
  refine ks_wpAt_super_base (env := ksEnv qual ⟨.function, nms, ig, ic, mr⟩ L fI (.ref cda) cc) (attr := "__init__") hks hkc (by decide) rfl (X _ _ lk) rfl hp rfl (X _ _ cdl) rfl hvs hfile htop ?_
  have hD : ∃ oD cdD, h.get? C = some oD ∧ oD.data = .cls cdD := ⟨_, _, hC, rfl⟩
  obtain ⟨oD, cdD, hD1, hD2⟩ := hD
  refine ks_loadName_global hk hks (loadGlobal_builtin (env := ksEnv qual ⟨.function, nms, ig, ic, mr⟩ L fI (.ref cda) cc) hm m1 hb m2 ⟨rfl, ?_⟩)
  refine wpAny_loadName_free hk hkc rfl ⟨_, X _ _ cel, rfl⟩ ?_
  rw [har]
  refine wpAny_loadName_local hk hka hn hv ?_
  refine ks_wpAny_isType_cls hD1 hD2 ⟨rfl, ?_⟩
  refine ks_wpAny_call_super hD1 hD2 he rfl (fun c e => by cases e) (looks_mroIn X T.me) (fun h1 e1 k1 => ?_)
  have X1 : K.In h1 := X.keeps k1
  have he1 := k1 _ _ he
  obtain ⟨cdx, hcdx, hfx⟩ := Option.bind_eq_some_iff.mp (show (clsIn K C).bind (fun cd => alongIn K "__init__" ((cd.mro.dropWhile (· != .ref C)).drop 1)) = some (some (.builtin initId)) from T.su)
  have I1 : W.InstAt h1 e (excObj C t1 none .none) C none := ⟨he1, rfl, rfl, trivial⟩
  have hI : Looks (model P w) h1 (isInstance (.ref e) (.type B)) true := I1.type.andThen (looks_subIn X1 T.sb)
  refine kxs_getMethod T.KF e1 (looks_opaque X1 T.op) (l₀ := cdx.mro) ?_ rfl X1 hfx hI (ks_ne X1 I1 hcdx) (by decide) ?_
  · exact fun A Q E s k q => wpAny_bind ((looks_clsIn X1 hcdx) A _ E s k (wpAny_pure q))
  refine kxs_callWith (i := initId) (x := e) (by rfl) ?_
  have c1 : (h1.push (kxs_mw initId e)).get? h1.objs.size = some (kxs_mw initId e) := Heap.get?_push_at rfl rfl
  have c2 : ∀ b o, h1.get? b = some o → (h1.push (kxs_mw initId e)).get? b = some o := fun b o q => Heap.get?_push_of_some _ q
  refine evalArgs_plain (spliced_cons (Constant_str (k := k) (pos := p3) (spliced_nil ⟨c1, ?_⟩)))
  refine wpAny_call (codeAny_of_tree ?_)
  show wpAny _ A.in1 (callAny (.ref h1.objs.size) ⟨[.str txt _], []⟩) _ _ _
  simp only [callAny]
  refine wpAny_bind (wpAny_load c1 ?_)
  have c3 : (Value.type "method-wrapper" == Value.type "method" || Value.type "method-wrapper" == Value.type "builtin_function_or_method" || Value.type "method-wrapper" == Value.type "method-wrapper") = true := by decide
  simp only [kxs_mw, c3, if_true]
  refine KFB.if_so (by decide) ?_
  refine wpAny_bind (check_bound_init T.FB.toExcCallFacts (c2 _ _ (k1 _ _ hC)) (c2 _ _ he1) rfl ?_)
  refine wpAny_bind (wpAny_pure (wpAny_pure ?_))
  refine ⟨plainId_quiet T.FB.init.plain _, codeAny_builtin T.FB.initEntry ?_⟩
  refine exc_init_tree (cls := .ref C) (t0 := t1) (dv := none) (c2 := .none) (c3 := .none) (b4 := .bool false) (c2 _ _ he1) (by show 1 ≤ sizeLine; decide) fun h' k' e' t' => ?_
  exact z h' _ _ (fun b o hb q => k' b o hb (c2 b o (k1 b o q))) e'
end
end XR
namespace XR
open PySem PySem.W PySem.Calls
/-- a store of the body: the field, the parameter, its value -/
structure Sto where
  f : Str
  p : Str
  v : Value
  a : Pos
  b : Pos
  c : Pos
  d : Pos
def Sto.st (x : Sto) : Stmt := stS x.f x.p x.a x.b x.c x.d
/-- an exception at e with the fields fs, newest first; its dict stands at n0 or behind, and is not L -/
def Fl (n0 : Nat) (L e C : Addr) (fs : List (Str × Value)) (h : Heap) : Prop :=
  ∃ t1 : Addr, (fs = [] ∧ h.get? e = some (excObj C t1 none .none)) ∨
    ∃ dx : Addr, fs ≠ [] ∧ n0 ≤ dx ∧ dx ≠ e ∧ dx ≠ L ∧ h.get? e = some (excObj C t1 (some dx) .none) ∧ h.Ns1 dx (fun y => fs.lookup y)
theorem lookup_cons' (f y : Str) (v : Value) (fs : List (Str × Value)) : (if y = f then some v else fs.lookup y) = ((f, v) :: fs).lookup y := by
  by_cases q : y = f
  · subst q; simp [List.lookup]
  · have q' : (y == f) = false := by simpa using q
    rw [if_neg q]; simp [List.lookup, q']
theorem within_lookup : ∀ (fs : List (Str × Value)), Within (fun y => fs.lookup y) (fs.map (·.1))
  | [] => fun y hy => absurd rfl hy
  | (f, v) :: fs => fun y hy => by
    by_cases q : y = f
    · rw [q]; exact List.mem_cons_self ..
    · refine List.mem_cons_of_mem _ (within_lookup fs y ?_)
      have q' : (y == f) = false := by simpa using q
      simpa [List.lookup, q'] using hy
section
variable {P : Program} {w : World} {A : Around} {g : Array GenState} {d : Drawn} {os : OsState}
variable {K : Frag} {C fI cc cda e L : Addr} {n0 : Nat} {B newId initId : String} {bmB : List Value} {fd : FuncData} {m : Str → Option Value} {env : Env} {Q : Flow → Shared → Prop} {E : Value → Shared → Prop}

theorem storesRun (T : XCls K P C fI cc cda B newId initId bmB fd) (hK : ∀ b o, K.lookup b = some o → b < n0) (he0 : n0 ≤ e) (hL0 : n0 ≤ L) (heL : e ≠ L) (hl : env.locals = L) (hk : env.scope.kind = .function)
    (hself : env.kindOf "self" = some .local) (hv : m "self" = some (.ref e)) :
    ∀ (l : List Sto) (fs : List (Str × Value)) (h : Heap) (t : Nat), (∀ x ∈ l, m x.p = some x.v ∧ env.kindOf x.p = some .local ∧ (x.p == ("__debug__" : Str)) = false ∧ takerIn K C x.f = some none ∧ swapsWith (.Name x.p x.c) (some (.Attribute (.Name "self" x.a) x.f x.b)) x.d.line env = pure false) →
      fs.length + l.length ≤ 900 → K.In h → h.Ns L m → Fl n0 L e C fs h →
      (∀ h' tk, (∀ b o, b < n0 → h.get? b = some o → h'.get? b = some o) → Fl n0 L e C ((l.map fun x => (x.f, x.v)).reverse ++ fs) h' → Q .next ⟨h', g, d, tk, os⟩) →
      wpAny (model P w) A (execs (l.map Sto.st) env) Q E ⟨h, g, d, t, os⟩
  | [], fs, h, t, _, _, _, _, hF, z => wpAny_execs_nil (z h t (fun _ _ _ q => q) hF)
  | x :: l, fs, h, t, hx, hlen, X, hn, hF, z => by
    obtain ⟨x1, x2, x3, x4, x5⟩ := hx x (List.mem_cons_self ..)
    have hn' : h.Ns env.locals m := by rw [hl]; exact hn
    refine wpAny_execs_cons ?_
    show wpAny _ _ (exec (.Assign [.Attribute (.Name "self" x.a) x.f x.b] (.Name x.p x.c) x.d) env) _ _ _
    refine plainObj_wpAny_Assign_Attribute (wpAny_Name (wpAny_loadName_local hk x2 hn' x1 (wpAny_Name (wpAny_loadName_local hk hself hn' hv ?_) (by decide))) x3) x5
    have step : ∀ (h' : Heap) (tk : Nat), (∀ b o, (b < n0 ∨ b = L) → h.get? b = some o → h'.get? b = some o) → Fl n0 L e C ((x.f, x.v) :: fs) h' → wpAny (model P w) A (execs (l.map Sto.st) env) Q E ⟨h', g, d, tk, os⟩ := fun h' tk k hF' => by
      have X' : K.In h' := fun b o q => k b o (.inl (hK b o q)) (X b o q)
      have hn2 : h'.Ns L m := by
        obtain ⟨o, es, ep, ho, r⟩ := hn
        exact ⟨o, es, ep, k _ _ (.inr rfl) ho, r⟩
      refine storesRun T hK he0 hL0 heL hl hk hself hv l ((x.f, x.v) :: fs) h' tk (fun y hy => hx y (List.mem_cons_of_mem _ hy)) (by simp only [List.length_cons] at hlen ⊢; omega) X' hn2 hF' fun h2 tk2 k2 hF2 => ?_
      refine z h2 tk2 (fun b o hb q => k2 b o hb (k b o (.inl hb) q)) ?_
      simpa using hF2
    obtain ⟨t1, ⟨hf, he⟩ | ⟨dx, hf, hd0, hde, hdL, he, hns⟩⟩ := hF
    · subst hf
      refine storeFirst T.SF X he T.sa T.ov T.di x4 fun h' tk' dx k k0 kne hx' hn' => ?_
      refine step h' tk' (fun b o hb q => k b o ?_ q) ⟨t1, .inr ⟨dx, by simp, ?_, kne, ?_, hx', ?_⟩⟩
      · rcases hb with hb | hb
        · exact Nat.ne_of_lt (Nat.lt_of_lt_of_le hb he0)
        · rw [hb]; exact heL.symm
      · exact Nat.le_trans (Nat.le_trans he0 (Nat.le_of_lt (Heap.lt_size he))) k0
      · have : L < h.objs.size := by obtain ⟨o, _, _, ho, _⟩ := hn; exact Heap.lt_size ho
        exact (Nat.ne_of_lt (Nat.lt_of_lt_of_le this k0)).symm
      · have e1 : (fun y => if y = x.f then some x.v else none) = (fun y => [(x.f, x.v)].lookup y) := by funext y; exact lookup_cons' x.f y x.v []
        rw [e1] at hn'; exact hn'
    · refine storeNext T.SF X he hns (within_lookup fs) (by rw [List.length_map]; simp only [List.length_cons] at hlen; omega) T.sa T.ov T.di x4 fun h' tk' k hn' => ?_
      refine step h' tk' (fun b o hb q => k b o ?_ q) ⟨t1, .inr ⟨dx, by simp, hd0, hde, hdL, k _ _ hde.symm he, ?_⟩⟩
      · rcases hb with hb | hb
        · exact Nat.ne_of_lt (Nat.lt_of_lt_of_le hb hd0)
        · rw [hb]; exact hdL.symm
      · have e1 : (fun y => if y = x.f then some x.v else fs.lookup y) = (fun y => ((x.f, x.v) :: fs).lookup y) := by funext y; exact lookup_cons' x.f y x.v fs
        rw [e1] at hn'; exact hn'
end
end XR
namespace XR
open PySem PySem.W PySem.Calls
section
variable {P : Program} {w : World} {A : Around} {g : Array GenState} {d : Drawn} {t : Nat} {os : OsState} {hp h : Heap}
variable {K : Frag} {C fI cc cda e t1 : Addr} {n0 : Nat} {B newId initId : String} {bmB : List Value} {fd : FuncData} {mg mb : Str → Option Value} {R : Result → Shared → Prop} {Q : Value → Shared → Prop} {E : Value → Shared → Prop}

/-- how the text of an __init__ stands: super().__init__(txt), then the stores l -/
structure Shape (P : Program) (fd : FuncData) (fI cda cc : Addr) (txt : Str) (k : Nat) (p0 p1 p2 p3 p4 p5 : Pos) (l : List Sto) : Prop where
  eq : ∃ x qual params scope dV kV doc pm an ct, fd = ksFn x qual params (stSup txt k p0 p1 p2 p3 p4 p5 :: l.map Sto.st) scope dV kV doc pm an (.ref cda) ct cc ∧
    (∃ ar, (params.posonlyargs ++ params.args).head? = some ar ∧ ar.arg = "self") ∧ scope.names.lookup ("super" : Str) = some .globalImplicit ∧ scope.names.lookup ("__class__" : Str) = some .free ∧ scope.names.lookup ("self" : Str) = some .local ∧ scope.kind = .function ∧
    (∀ L : Addr, ∃ pl, eval (.Call (.Attribute (.Call (.Name "super" p0) [] [] p1) "__init__" p2) [.Constant (.str txt) k p3] [] p4) (ksEnv qual scope L fI (.ref cda) cc) = (do
      let ov ← attributeBase (.Call (.Name "super" p0) [] [] p1) "__init__" (ksEnv qual scope L fI (.ref cda) cc) (eval (.Call (.Name "super" p0) [] [] p1) (ksEnv qual scope L fI (.ref cda) cc))
      standAt p2.atName
      let (f, first) ← holding [ov] (getMethod ov "__init__" pl)
      callWith p4 f first (backTo p4 (starEach [.Constant (.str txt) k p3] (ksEnv qual scope L fI (.ref cda) cc))) [])) ∧
    (∀ x ∈ scope.names, x.2 ≠ .cell) ∧ scope.isCoroutine = false ∧ scope.isGenerator = false ∧
    (∀ L : Addr, ∀ x ∈ l, scope.names.lookup x.p = some .local ∧ (x.p == ("__debug__" : Str)) = false ∧ swapsWith (.Name x.p x.c) (some (.Attribute (.Name "self" x.a) x.f x.b)) x.d.line (ksEnv qual scope L fI (.ref cda) cc) = pure false)
  top : (P.main.scope.names.lookup ("super" : Str)).isSome = false

theorem initRuns {txt : Str} {k : Nat} {p0 p1 p2 p3 p4 p5 : Pos} {l : List Sto} {args : Args} {binds : List (Str × Value)} (T : XCls K P C fI cc cda B newId initId bmB fd) (S : Shape P fd fI cda cc txt k p0 p1 p2 p3 p4 p5 l)
    (hK : ∀ b o, K.lookup b = some o → b < n0) (he0 : n0 ≤ e) (hl : l.length ≤ 900)
    (X : K.In hp) (hm : hp.Ns mainGlobals mg) (hb : hp.Ns builtinsNs mb) (m1 : mg "super" = none) (m2 : mb "super" = some (.type "super")) (lim : hp.NoLimit) (room : A.depth < recursionLimit)
    (bt : BindsTo ⟨hp, g, d, t, os⟩ fd args binds) (hloc : ∀ x ∈ binds, fd.scope.names.lookup x.1 = some .local) (hself : binds.reverse.lookup ("self" : Str) = some (Value.ref e))
    (hx : ∀ x ∈ l, binds.reverse.lookup x.p = some x.v ∧ takerIn K C x.f = some none)
    (he : hp.get? e = some (excObj C t1 none .none))
    (z : ∀ h' tk, (∀ b o, b < n0 → hp.get? b = some o → h'.get? b = some o) → Fl n0 hp.objs.size e C (l.map fun x => (x.f, x.v)).reverse h' → R (.ok (.ret .none)) ⟨h', g, d, tk, os⟩) :
    codeAny (model P w) A (.call (.ref fI) args) R ⟨hp, g, d, t, os⟩ := by
  obtain ⟨x, qual, params, scope, dV, kV, doc, pm, an, ct, rfl, ⟨ar, hp1, har⟩, hks, hkc, hka, hk, hev, hcell, hco, hgen, hsw⟩ := S.eq
  obtain ⟨oc, od, osl, lk⟩ := T.lk
  have heL : e ≠ hp.objs.size := Nat.ne_of_lt (Heap.lt_size he)
  have hL0 : n0 ≤ hp.objs.size := Nat.le_trans he0 (Nat.le_of_lt (Heap.lt_size he))
  refine ks_codeAny_call_defAt (fd := ksFn x qual params (stSup txt k p0 p1 p2 p3 p4 p5 :: l.map Sto.st) scope dV kV doc pm an (.ref cda) ct cc) (body := stSup txt k p0 p1 p2 p3 p4 p5 :: l.map Sto.st) (binds := binds) room (X _ _ lk) rfl lim (codeRec_of X T.cod) rfl bt hcell hloc (fun h1 hns hk1 => ?_) hco hgen hk
  refine ks_wpAt_execs_cons ?_
  show PySem.wpAt (model P w) (A.deeper (ksEnv qual scope hp.objs.size fI (.ref cda) cc)) (.func (stSup txt k p0 p1 p2 p3 p4 p5 :: l.map Sto.st) (ksEnv qual scope hp.objs.size fI (.ref cda) cc)) (exec (stSup txt k p0 p1 p2 p3 p4 p5) (ksEnv qual scope hp.objs.size fI (.ref cda) cc)) _ _ _
  refine superRuns (t1 := t1) T (X.keeps hk1) (hk1 _ _ he) hns hself (hm.keeps hk1) (hb.keeps hk1) m1 m2 hp1 har hks hkc hka hk (hev _) S.top heL fun h2 t2 tk k2 he2 => ?_
  dsimp only
  refine wpAt_of_wpAny ?_
  have K2 : ∀ b o, b ≠ e → hp.get? b = some o → h2.get? b = some o := fun b o hb q => k2 b o hb (hk1 b o q)
  have X2 : K.In h2 := fun b o q => K2 b o (Nat.ne_of_lt (Nat.lt_of_lt_of_le (hK b o q) he0)) (X b o q)
  have hns2 : h2.Ns hp.objs.size (fun x => binds.reverse.lookup x) := by
    obtain ⟨o, es, ep, ho, r⟩ := hns
    exact ⟨o, es, ep, k2 _ _ heL.symm ho, r⟩
  refine storesRun (env := ksEnv qual scope hp.objs.size fI (.ref cda) cc) (m := fun x => binds.reverse.lookup x) T hK he0 hL0 heL rfl hk hka hself l [] h2 tk (fun y hy => ⟨(hx y hy).1, (hsw 0 y hy).1, (hsw 0 y hy).2.1, (hx y hy).2, (hsw _ y hy).2.2⟩) (by simpa using hl) X2 hns2 ⟨t2, .inl ⟨rfl, he2⟩⟩ fun h3 tk3 k3 F3 => ?_
  refine z h3 tk3 (fun b o hb q => k3 b o hb (K2 b o (Nat.ne_of_lt (Nat.lt_of_lt_of_le hb he0)) q)) ?_
  simpa using F3

/-- C(..): the exception stands with its fields -/
theorem made {txt : Str} {k : Nat} {p0 p1 p2 p3 p4 p5 : Pos} {l : List Sto} {us : List Value} {kw : List (Str × Value)} {binds : List (Str × Value)} (T : XCls K P C fI cc cda B newId initId bmB fd) (S : Shape P fd fI cda cc txt k p0 p1 p2 p3 p4 p5 l) (hl : l.length ≤ 900)
    (X : K.In h) (hm : h.Ns mainGlobals mg) (hb : h.Ns builtinsNs mb) (m1 : mg "super" = none) (m2 : mb "super" = some (.type "super")) (lim : h.NoLimit) (room : (A.under (.builtin "type.__call__" ⟨.ref C :: us, kw⟩)).depth < recursionLimit) (hus : us.length ≤ sizeLine)
    (bt : ∀ s, BindsTo s fd ⟨.ref (h.objs.size + 1) :: us, kw⟩ binds) (hloc : ∀ x ∈ binds, fd.scope.names.lookup x.1 = some .local) (hself : binds.reverse.lookup ("self" : Str) = some (Value.ref (h.objs.size + 1)))
    (hx : ∀ x ∈ l, binds.reverse.lookup x.p = some x.v ∧ takerIn K C x.f = some none)
    (z : ∀ h' tk L, (∀ b o, h.get? b = some o → h'.get? b = some o) → Fl h.objs.size L (h.objs.size + 1) C (l.map fun x => (x.f, x.v)).reverse h' → Q (.ref (h.objs.size + 1)) ⟨h', g, d, tk, os⟩) :
    wpAny (model P w) A (call (.ref C) us kw) Q E ⟨h, g, d, t, os⟩ := by
  obtain ⟨nm, N', qn, bs, bm, hdct, sn, sub, ab, col, dd, k0, k1, k2, k3, k5, hC, hT⟩ := excInit_of X T.ei
  obtain ⟨oI, hoI, hcI⟩ : ∃ oI, h.get? fI = some oI ∧ oI.cls = .type "function" := by
    obtain ⟨o, ho, hc⟩ := Option.map_eq_some_iff.mp (show (K.lookup fI).map (·.cls) = some (.type "function") from beq_iff_eq.mp T.fn)
    exact ⟨o, X _ _ ho, hc⟩
  have kk : ∀ b o, h.get? b = some o → ((h.push (kdv_tup us)).push (excObj C h.objs.size none .none)).get? b = some o := fun b o q => Heap.get?_push_of_some _ (Heap.get?_push_of_some _ q)
  have c5 : ((h.push (kdv_tup us)).push (excObj C h.objs.size none .none)).get? (h.objs.size + 1) = some (excObj C h.objs.size none .none) := by heap_get
  refine wpAny_call (callMade T.FB hT hC (looks_findIn X T.ini) (fun self => exc_bind hoI hcI self) hus ?_)
  refine initRuns T S (n0 := h.objs.size) (fun b o q => Heap.lt_size (X b o q)) (Nat.le_succ _) hl (X.keeps kk) (hm.keeps kk) (hb.keeps kk) m1 m2 (lim.keeps kk) room (bt _) hloc hself hx c5 fun h' tk k' F' => ?_
  refine ⟨rfl, ?_⟩
  exact z h' tk _ (fun b o q => k' b o (Heap.lt_size q) (kk b o q)) F'
end
end XR
/-! repr of data that stands in the abstract heap: none, bools, ints, texts, lists, tuples, dicts with int and text keys. -/
namespace XR
open PySem PySem.Spec L2
mutual
inductive Dq (K : PySem.W.Frag) (H : Hp) : V → PyData → Prop
  | non : Dq K H .non .none
  | bl (b : Bool) : Dq K H (.bl b) (.bool b)
  | int (i : Int) : Dq K H (.int i) (.int i)
  | str (x : Str) : Dq K H (.str x) (.str x)
  | lst {a : Addr} {xs : List V} {ds : List PyData} : SqL K H a xs → DqAll K H xs ds → Dq K H (.ref a) (.list ds)
  | tup {a : Addr} {xs : List V} {ds : List PyData} : SqT K H a xs → DqAll K H xs ds → Dq K H (.ref a) (.tuple ds)
  | dct {a : Addr} {kvs : List (Key × V)} {ds : List (PyData × PyData)} : H a = some (.dK kvs) → DqAll K H (kvs.map fun p => kV p.1) (ds.map (·.1)) → DqAll K H (kvs.map (·.2)) (ds.map (·.2)) → Dq K H (.ref a) (.dict ds)
inductive DqAll (K : PySem.W.Frag) (H : Hp) : List V → List PyData → Prop
  | nil : DqAll K H [] []
  | cons {v : V} {vs : List V} {d : PyData} {ds : List PyData} : Dq K H v d → DqAll K H vs ds → DqAll K H (v :: vs) (d :: ds)
end
theorem DqAll.length {K : PySem.W.Frag} {H : Hp} : ∀ {vs : List V} {ds : List PyData}, DqAll K H vs ds → vs.length = ds.length
  | _, _, .nil => rfl
  | _, _, .cons _ h => by simp [h.length]
theorem DqAll.append {K : PySem.W.Frag} {H : Hp} : ∀ {vs ws : List V} {ds es : List PyData}, DqAll K H vs ds → DqAll K H ws es → DqAll K H (vs ++ ws) (ds ++ es)
  | _, _, _, _, .nil, h => h
  | _, _, _, _, .cons a b, h => .cons a (b.append h)
theorem DqAll.rep {K : PySem.W.Frag} {H : Hp} {v : V} {d : PyData} (h : Dq K H v d) : ∀ n : Nat, DqAll K H (List.replicate n v) (List.replicate n d)
  | 0 => .nil
  | n + 1 => by
    rw [List.replicate_succ, List.replicate_succ]
    exact .cons h (DqAll.rep h n)
theorem Same.tup {K : PySem.W.Frag} {H H' : Hp} {a : Addr} {xs : List V} (e : Same H H') (h : SqT K H a xs) : SqT K H' a xs := by
  rcases h with (h | ⟨o, h⟩) | h
  · exact .inl (.inl (e _ _ h))
  · exact .inl (.inr ⟨o, e _ _ h⟩)
  · exact .inr h
mutual
theorem Dq.same {K : PySem.W.Frag} {H H' : Hp} (e : Same H H') : ∀ {v : V} {d : PyData}, Dq K H v d → Dq K H' v d
  | _, _, .non => .non
  | _, _, .bl b => .bl b
  | _, _, .int i => .int i
  | _, _, .str x => .str x
  | _, _, .lst h1 h2 => .lst (e.seq h1) (DqAll.same e h2)
  | _, _, .tup h1 h2 => .tup (Same.tup e h1) (DqAll.same e h2)
  | _, _, .dct h1 h2 h3 => .dct (e _ _ h1) (DqAll.same e h2) (DqAll.same e h3)
theorem DqAll.same {K : PySem.W.Frag} {H H' : Hp} (e : Same H H') : ∀ {vs : List V} {ds : List PyData}, DqAll K H vs ds → DqAll K H' vs ds
  | _, _, .nil => .nil
  | _, _, .cons a b => .cons (Dq.same e a) (DqAll.same e b)
end
/-- the entries of a dict: their keys and values -/
theorem pairs_keys {P : Program} {w : World} : ∀ {kvs : List (Key × V)} {vs : List (Key × Value)} {es : List DictEntry}, KV kvs vs → Pairs (mixKind P w) es vs →
    Vals (kvs.map fun p => kV p.1) (es.map (·.key)) ∧ Vals (kvs.map (·.2)) (es.map (·.val))
  | _, _, _, .nil, h => by
    cases h
    exact ⟨.nil, .nil⟩
  | _, _, _, .cons r t, h => by
    cases h with
    | cons h1 h2 h3 =>
      obtain ⟨a, b⟩ := pairs_keys t h3
      obtain ⟨r1, r2⟩ := r
      refine ⟨.cons ?_ a, .cons ?_ b⟩
      · dsimp only
        rw [r1]
        rcases keyIs_shape (show keyIs _ _ = true from h1) with ⟨i, t, q1, q2⟩ | ⟨x, t, q1, q2⟩
        · rw [q1, q2]; exact ⟨t, rfl⟩
        · rw [q1, q2]; exact ⟨t, rfl⟩
      · dsimp only
        rw [h2]; exact r2
section
variable {X : Cx} {pins : List (Addr × Obj)} {σ : St} {H : Hp} {s : Shared}
mutual
theorem Dq.both (I : Inv X pins σ H s) : ∀ {v : V} {d : PyData} {u : Value}, Dq X.K H v d → RelV v u → d.showable = true → d.shown.length ≤ sizeLine →
    ∃ as bs, Reads s.heap u d as ∧ ReadAtMost s.heap d.depth bs ∧ ReprK X.prog X.w bs s.heap d.depth u d.shown
  | _, _, _, .non, r, _, _ => by
    cases r
    exact ⟨_, [], .none, (fun _ h => nomatch h), by simp only [PyData.shown]; exact .of_is ReprIs.none _ _ _⟩
  | _, _, _, .bl b, r, _, _ => by
    cases r
    exact ⟨_, [], .bool b, (fun _ h => nomatch h), by simp only [PyData.shown]; exact .of_is (ReprIs.bool b) _ _ _⟩
  | _, _, _, .int i, r, hs, _ => by
    obtain ⟨t, rfl⟩ := r
    exact ⟨_, [], .int i t, (fun _ h => nomatch h), by simp only [PyData.shown]; exact .of_is (ReprIs.int t (by simpa [PyData.showable] using hs)) _ _ _⟩
  | _, _, _, .str x, r, _, hz => by
    obtain ⟨t, rfl⟩ := r
    exact ⟨_, [], .str x t, (fun _ h => nomatch h), by simp only [PyData.shown]; exact .of_is (ReprIs.str x t (by simpa only [PyData.shown] using hz)) _ _ _⟩
  | _, _, _, .lst (a := a) (ds := ds) h1 h2, r, hs, hz => by
    cases r
    have hz' : (listText (PyData.shownAll ds)).length ≤ sizeLine := by simpa only [PyData.shown] using hz
    obtain ⟨its, rv, ⟨o, n, ho, hc, _, hd⟩, _⟩ := I.list h1
    obtain ⟨as, bs, q1, q2, q3⟩ := DqAll.both I h2 rv (by simpa [PyData.showable] using hs) (fun t ht => Nat.le_trans (listText_mem_le ht) hz')
    have rr : Reads s.heap (.ref a) (.list ds) _ := .list ho hc hd q1
    have hna : a ∉ bs := not_mem_of_deeper rr (by simp only [PyData.depth]; omega) q2
    refine ⟨_, a :: bs, rr, ReadAtMost.cons rr (by simp only [PyData.depth]; omega) q2, ?_⟩
    simp only [PyData.depth, PyData.shown]
    cases its with
    | nil =>
      cases q1
      simp only [PyData.shownAll, listText_nil]
      exact ReprK.listEmpty ho hc hd
    | cons y l => exact ReprK.list ho hc hd hna (by simpa using q3.length_eq) (fun i y e => q3.item i y (by simpa using e))
  | _, _, _, .tup (a := a) (ds := ds) h1 h2, r, hs, hz => by
    cases r
    have hz' : (tupleText (PyData.shownAll ds)).length ≤ sizeLine := by simpa only [PyData.shown] using hz
    obtain ⟨its, rv, ⟨o, ho, hc, n, hd⟩, _⟩ := I.tuple h1
    obtain ⟨as, bs, q1, q2, q3⟩ := DqAll.both I h2 rv (by simpa [PyData.showable] using hs) (fun t ht => Nat.le_trans (tupleText_mem_le ht) hz')
    have rr : Reads s.heap (.ref a) (.tuple ds) _ := .tuple ho hc hd q1
    have hna : a ∉ bs := not_mem_of_deeper rr (by simp only [PyData.depth]; omega) q2
    refine ⟨_, a :: bs, rr, ReadAtMost.cons rr (by simp only [PyData.depth]; omega) q2, ?_⟩
    simp only [PyData.depth, PyData.shown]
    exact ReprK.tuple ho hc hd hna q3
  | _, _, _, .dct (a := a) (kvs := kvs) (ds := ds) h1 h2 h3, r, hs, hz => by
    cases r
    have hz' : (dictText (PyData.shownKv ds)).length ≤ sizeLine := by simpa only [PyData.shown] using hz
    obtain ⟨hl, hsys, vs, rk, o, es, ep, ho, ⟨hc, _⟩, hd, _, hp, _⟩ := (show ObjOk X.prog X.w H s.heap a (.dK kvs) from I.hok a _ h1)
    obtain ⟨r1, r2⟩ := pairs_keys rk hp
    obtain ⟨s1, s2⟩ := PyData.showableKv_split ds (by simpa [PyData.showable] using hs)
    obtain ⟨a1, b1, q1, q2, q3⟩ := DqAll.both I h2 r1 s1 (fun t ht => let ⟨p, hp, hl⟩ := PyData.shownKv_key_le ds t ht; Nat.le_trans hl (Nat.le_trans (dictText_mem_le hp) hz'))
    obtain ⟨a2, b2, t1, t2, t3⟩ := DqAll.both I h3 r2 s2 (fun t ht => let ⟨p, hp, hl⟩ := PyData.shownKv_val_le ds t ht; Nat.le_trans hl (Nat.le_trans (dictText_mem_le hp) hz'))
    have rr : Reads s.heap (.ref a) (.dict ds) _ := .dict ho hc hd q1 t1
    have hb : ReadAtMost s.heap (PyData.depthKv ds) (b1 ++ b2) := (q2.mono (PyData.depthAll_keys_le ds)).append (t2.mono (PyData.depthAll_vals_le ds))
    have hna : a ∉ b1 ++ b2 := not_mem_of_deeper rr (by simp only [PyData.depth]; omega) hb
    refine ⟨_, a :: (b1 ++ b2), rr, ReadAtMost.cons rr (by simp only [PyData.depth]; omega) hb, ?_⟩
    simp only [PyData.depth, PyData.shown, PyData.shownKv_eq]
    exact ReprK.dict ho hc hd hsys hna (ReprEntriesK.of_two es.toList _ _
      (q3.more_le (fun b hb => List.mem_append_left _ hb) (PyData.depthAll_keys_le ds)) (t3.more_le (fun b hb => List.mem_append_right _ hb) (PyData.depthAll_vals_le ds)))
theorem DqAll.both (I : Inv X pins σ H s) : ∀ {vs : List V} {ds : List PyData} {us : List Value}, DqAll X.K H vs ds → Vals vs us → PyData.showableAll ds = true → (∀ t ∈ PyData.shownAll ds, t.length ≤ sizeLine) →
    ∃ as bs, ReadsAll s.heap us ds as ∧ ReadAtMost s.heap (PyData.depthAll ds) bs ∧ ReprAllK X.prog X.w bs s.heap (PyData.depthAll ds) us (PyData.shownAll ds)
  | _, _, _, .nil, r, _, _ => by
    cases r
    exact ⟨_, [], .nil, (fun _ h => nomatch h), .nil⟩
  | _, _, _, .cons (d := d) (ds := ds) h1 h2, r, hs, hz => by
    cases r with
    | cons r1 r2 =>
      have hs' : d.showable = true ∧ PyData.showableAll ds = true := by simpa [PyData.showableAll] using hs
      obtain ⟨a1, b1, q1, q2, q3⟩ := Dq.both I h1 r1 hs'.1 (hz _ (by simp only [PyData.shownAll]; exact List.mem_cons_self ..))
      obtain ⟨a2, b2, t1, t2, t3⟩ := DqAll.both I h2 r2 hs'.2 (fun t ht => hz t (by simp only [PyData.shownAll]; exact List.mem_cons_of_mem _ ht))
      refine ⟨_, b1 ++ b2, .cons q1 t1, ?_, ?_⟩
      · simp only [PyData.depthAll]
        exact (q2.mono (Nat.le_max_left _ _)).append (t2.mono (Nat.le_max_right _ _))
      · simp only [PyData.depthAll, PyData.shownAll]
        exact .cons ((q3.more fun b hb => List.mem_append_left _ hb).level_le (Nat.le_max_left _ _)) (t3.more_le (fun b hb => List.mem_append_right _ hb) (Nat.le_max_right _ _))
end
end
section
variable {X : Cx}
def rRepr (K : PySem.W.Frag) : List V → Hp → VK → Prop := fun xs H Q => ∃ x d, xs = [x] ∧ Dq K H x d ∧ d.showable = true ∧ d.shown.length ≤ sizeLine ∧ d.depth ≤ 60 ∧ Q (.str d.shown) H
/-- repr(x), x data; no repr is under way around -/
theorem call_reprQ (hg : X.A.guards = some []) (hu : X.A.units + 64 < cLine) : CallR X (.builtin "repr") (rRepr X.K) := by
  intro pins s σ H xs us Q I r h
  obtain ⟨x, d, rfl, hd, hs, hz, hdp, q⟩ := h
  obtain ⟨u, rfl, ru⟩ := vals1 r
  have fin : ∀ (h' : Heap) (t tk : Nat), (∀ b o, s.heap.get? b = some o → h'.get? b = some o) → EP X pins σ Q (.str d.shown t) { s with heap := h', toks := tk } := fun h' t tk k => ⟨.str d.shown, H, I.kept k, ⟨t, rfl⟩, q⟩
  cases hd with
  | non =>
    cases ru
    refine PySem.P.repr_of_none ?_
    have e := fin s.heap s.toks (s.toks + 1) fun _ _ q => q
    simpa only [PyData.shown] using e
  | bl b =>
    cases ru
    refine PySem.P.repr_of_bool ?_
    have e := fin s.heap s.toks (s.toks + 1) fun _ _ q => q
    simpa only [PyData.shown] using e
  | int i =>
    obtain ⟨t, rfl⟩ := ru
    refine PySem.P.repr_of_int (by simpa [PyData.showable] using hs) ?_
    have e := fin s.heap s.toks (s.toks + 1) fun _ _ q => q
    simpa only [PyData.shown] using e
  | str y =>
    obtain ⟨t, rfl⟩ := ru
    refine PySem.P.repr_of_str ?_ (by simpa only [PyData.shown] using hz)
    have e := fin s.heap s.toks (s.toks + 1) fun _ _ q => q
    simpa only [PyData.shown] using e
  | @lst a xs ds h1 h2 =>
    cases ru
    have hz' : (listText (PyData.shownAll ds)).length ≤ sizeLine := by simpa only [PyData.shown] using hz
    obtain ⟨its, rv, ⟨o, n, ho, hc, _, hd'⟩, _⟩ := I.list h1
    obtain ⟨as, bs, q1, q2, q3⟩ := DqAll.both I h2 rv (by simpa [PyData.showable] using hs) (fun t ht => Nat.le_trans (listText_mem_le ht) hz')
    have hna : a ∉ bs := not_mem_of_deeper (.list ho hc hd' q1) (by simp only [PyData.depth]; omega) q2
    simp only [PyData.depth] at hdp
    simp only [PyData.shown] at fin
    refine call_repr_slot (by omega) ⟨o, ho, hc⟩ F.slot_list_repr.toG ?_
    cases its with
    | nil =>
      cases q1
      simp only [PyData.shownAll, listText_nil] at fin
      exact call_list_repr_empty ⟨o, ho, hc⟩ ho hd' ⟨_, _, rfl, fin s.heap _ _ fun _ _ q => q⟩
    | cons y l =>
      exact call_list_reprK ho hc hd' hna (by simpa using q3.length_eq) (fun i y e => q3.item i y (by simpa using e)) (show X.A.in1.guards = some [] from hg) (fun b _ => Clear.nil b) (by show X.A.units + 1 + _ < cLine; omega) (fun _ _ q => q) (fun h' u tk k => ⟨_, _, rfl, fin h' u tk k⟩) hz'
  | @tup a xs ds h1 h2 =>
    cases ru
    have hz' : (tupleText (PyData.shownAll ds)).length ≤ sizeLine := by simpa only [PyData.shown] using hz
    obtain ⟨its, rv, ⟨o, ho, hc, n, hd'⟩, _⟩ := I.tuple h1
    obtain ⟨as, bs, q1, q2, q3⟩ := DqAll.both I h2 rv (by simpa [PyData.showable] using hs) (fun t ht => Nat.le_trans (tupleText_mem_le ht) hz')
    have hna : a ∉ bs := not_mem_of_deeper (.tuple ho hc hd' q1) (by simp only [PyData.depth]; omega) q2
    simp only [PyData.depth] at hdp
    simp only [PyData.shown] at fin
    refine call_repr_slot (by omega) ⟨o, ho, hc⟩ F.slot_tuple_repr ?_
    exact call_tuple_reprK ho hc hd' hna q3 (show X.A.in1.guards = some [] from hg) (fun b _ => Clear.nil b) (by show X.A.units + 1 + _ < cLine; omega) (fun _ _ q => q) (fun h' u tk k => ⟨_, _, rfl, fin h' u tk k⟩) hz'
  | @dct a kvs ds h1 h2 h3 =>
    cases ru
    have hz' : (dictText (PyData.shownKv ds)).length ≤ sizeLine := by simpa only [PyData.shown] using hz
    obtain ⟨hl, hsys, vs, rk, o, es, ep, ho, ⟨hc, _⟩, hd', _, hp, _⟩ := (show ObjOk X.prog X.w H s.heap a (.dK kvs) from I.hok a _ h1)
    obtain ⟨r1, r2⟩ := pairs_keys rk hp
    obtain ⟨s1, s2⟩ := PyData.showableKv_split ds (by simpa [PyData.showable] using hs)
    obtain ⟨a1, b1, q1, q2, q3⟩ := DqAll.both I h2 r1 s1 (fun t ht => let ⟨p, hp, hl⟩ := PyData.shownKv_key_le ds t ht; Nat.le_trans hl (Nat.le_trans (dictText_mem_le hp) hz'))
    obtain ⟨a2, b2, t1, t2, t3⟩ := DqAll.both I h3 r2 s2 (fun t ht => let ⟨p, hp, hl⟩ := PyData.shownKv_val_le ds t ht; Nat.le_trans hl (Nat.le_trans (dictText_mem_le hp) hz'))
    have hb : ReadAtMost s.heap (PyData.depthKv ds) (b1 ++ b2) := (q2.mono (PyData.depthAll_keys_le ds)).append (t2.mono (PyData.depthAll_vals_le ds))
    have hna : a ∉ b1 ++ b2 := not_mem_of_deeper (.dict ho hc hd' q1 t1) (by simp only [PyData.depth]; omega) hb
    simp only [PyData.depth] at hdp
    simp only [PyData.shown, PyData.shownKv_eq] at fin
    refine call_repr_slot (by omega) ⟨o, ho, hc⟩ F.slot_dict_repr ?_
    exact call_dict_reprK ho hc hd' hsys hna (ReprEntriesK.of_two es.toList _ _
      (q3.more_le (fun b hb => List.mem_append_left _ hb) (PyData.depthAll_keys_le ds)) (t3.more_le (fun b hb => List.mem_append_right _ hb) (PyData.depthAll_vals_le ds)))
      (show X.A.in1.guards = some [] from hg) (fun b _ => Clear.nil b) (by show X.A.units + 1 + _ < cLine; omega) (fun _ _ q => q) (fun h' u tk k => ⟨_, _, rfl, fin h' u tk k⟩) (by rw [← PyData.shownKv_eq]; exact hz')
end
end XR
/-! Defs that ask for a repr: their promise where no repr is under way around the call. -/
namespace XR
open PySem PySem.Spec L2
open PyProof.Rows hiding St
structure FnG (P : Program) (w : World) (K : PySem.W.Frag) (mg : Str → Option Value) (base : Heap) (k : Nat) (f : Addr) (fd : FuncData) (ps : List Str) (sp : Sp) : Prop where
  len : ∀ vs H Q E, sp vs H Q E → vs.length = ps.length
  run : ∀ (A : Around) (outer : List Env) (s : Shared) (H : Hp) (args : Args) (us : List Value) (vs : List V) (Q : VK) (E : XK), A.guards = some [] → Room k A → Env0 P w K mg base A outer s H → BindsTo s fd args (ps.zip us) → Vals vs us → sp vs H Q E →
    codeAny (model P w) A (.call (.ref f) args) (CR CX0 outer P w H s Q E) s
section
variable {P : Program} {w : World} {K : PySem.W.Frag} {mg : Str → Option Value} {base : Heap}
theorem FnG.of {k : Nat} {f : Addr} {fd : FuncData} {ps : List Str} {sp : Sp} (F : FnOk P w K mg base CX0 k f fd ps sp) : FnG P w K mg base k f fd ps sp :=
  ⟨F.len, fun A outer s H args us vs Q E _ hr he hb hv hs => F.run A outer s H args us vs Q E hr he hb hv hs⟩
/-- a def by its body; in the body the guards are none -/
theorem okG {x qual : Str} {st : Stmt} {f : Addr} {fd : FuncData} {N ps : List Str} {k : Nat} {sp : Sp} (F : Fun K x qual st f fd) (S : FnScope N ps (defScope st)) (len : ∀ vs H Q E, sp vs H Q E → vs.length = ps.length)
    (hbody : ∀ (cdv : Value) (A : Around) (outer : List Env) (s : Shared) (H : Hp) (vs : List V) (Q : VK) (E : XK), Room k (A.deeper (envOfC qual (defScope st) s.heap.objs.size f cdv)) → A.guards = some [] → sp vs H Q E →
      ∃ t, PSs (cxOf CX0 P w K mg base N qual (defScope st) f cdv A outer s H E).nox (defBody st) t ∧ t { nx := fun _ H' => Q .non H', rt := Q } (start N vs) H) : FnG P w K mg base (k + 1) f fd ps sp := by
  obtain ⟨oc, od, kV, doc, pm, an, cdv, ct, osl, rfl, lk, hcd⟩ := F.ex
  refine ⟨len, fun A outer s H args us vs Q E hg hr e0 hb r hsp => ?_⟩
  have hl := len _ _ _ _ hsp
  have k0 : ∀ b o, base.get? b = some o → s.heap.get? b = some o := fun b o e => (e0.bs b o e).1
  have KX : K.In s.heap := e0.mod.kin.keeps k0
  have par : ∀ y ∈ ps.zip us, (defScope st).names.lookup y.1 = some .local ∨ ((defScope st).names.lookup y.1 = some .cell ∧ ((cellsFrom (s.heap.objs.size + 1) (defScope st).names []).lookup y.1).isSome = true) := by
    rintro ⟨n, v⟩ hy
    rcases S.par n (List.of_mem_zip hy).1 with q | q
    · exact .inl q
    · exact .inr ⟨q, PySem.W.cellsFrom_some _ _ _ (.inl q)⟩
  refine codeAny_call_function hr.depth (KX _ _ lk) rfl S.co S.gen rfl
    (PySem.W.codeRec_of KX hcd) (hb _ _ _ _ ?_)
  refine wpAny_newFunctionEnv_cells S.kind par fun env he s1 xx => ?_
  subst he
  refine ⟨(e0.mod.nolimit.keeps k0).keeps xx.toInCall.keep, codeAny_func ?_⟩
  obtain ⟨t, ht, hq⟩ := hbody cdv A outer s H vs Q E (hr.deeper _) hg hsp
  have I : Inv (cxOf CX0 P w K mg base N qual (defScope st) f cdv A outer s H E) [] (start N vs) H s1 :=
    inv_start S hr.hd e0 hl r xx
  have tb := ht.nox
  refine wpAny_mono (tb.run [] s1 (start N vs) H _ I hq) (fun fl s' hs => ?_) fun e s' hs => hs
  cases fl with
  | ret u =>
    obtain ⟨v, σ', H', J, rv, q⟩ := hs
    exact ⟨v, H', J.os, J.bare, J.base, J.hok, rv, q⟩
  | next =>
    obtain ⟨σ', H', J, q⟩ := hs
    exact ⟨V.non, H', J.os, J.bare, J.base, J.hok, rfl, q⟩
  | brk =>
    obtain ⟨_, _, _, q⟩ := hs
    exact q.elim
  | cont =>
    obtain ⟨_, _, _, q⟩ := hs
    exact q.elim
end
section
variable {X : Cx} {k : Nat} {f : Addr} {fd : FuncData} {ps : List Str} {sp : Sp} {E : XK} {x : Str} {p pos : Pos} {e : Expr} {es : List Expr} {t : TA}
/-- the call of such a def -/
theorem pe_callG (F : FnG X.prog X.w X.K X.mg X.base k f fd ps sp) (hg : X.A.guards = some []) (hr : Room k X.A) (hgl : Gl X x) (hm : X.mg x = some (.ref f)) (hk : PySem.W.keepIn X.K (.ref f) = true) (hb : Binds X.K fd ps []) (ha : PA X (e :: es) t)
    (hdb : (x == ("__debug__" : Str)) = false := by decide) (he : starEach (e :: es) X.env = (false, eval e X.env) :: starEach es X.env := by rfl) (hpl : (backTo pos (starEach es X.env)).any (·.1) = false := by rfl) :
    PE X (.Call (.Name x p) (e :: es) [] pos) (tCall sp [] E0 t) := by
  refine ⟨fun pins s σ H Q I h => ?_⟩
  refine wpAny_Call_Name_kw (ld_glob I hgl hm ?_ hdb)
  refine PySem.W.callWith_K (h₀ := X.base) I.ok.mod.kin hk (thn (ha.run pos pins s σ H _ I h) fun us s1 ⟨vs, H1, I1, r, q⟩ => ⟨I1.kIn, ?_⟩) he hpl
  have q : sp vs H1 Q E0 := by simpa using q
  have hl : (us ++ []).length = ps.length := by rw [List.append_nil, ← r.length]; exact F.len _ _ _ _ q
  have hbt := hb s1 us I1.kIn hl
  rw [List.append_nil] at hbt
  refine wpAny_call (codeAny_mono (F.run X.A X.stack s1 H1 ⟨us, []⟩ us vs Q E0 hg hr I1.env0 hbt r q) fun r' s' hq => ?_)
  cases r' with
  | error e => exact False.elim hq
  | ok fl =>
    cases fl with
    | ret u => exact I1.after hq
    | next => exact False.elim hq
    | brk => exact False.elim hq
    | cont => exact False.elim hq
end
/-- the call of the law over the heap behind the top -/
theorem lawCallG {P : Program} {w : World} {K : PySem.W.Frag} {mg mb : Str → Option Value} {k : Nat} {fa a : Addr} {fd : FuncData} {x : Str} {sp : Sp} {s₁ : Shared} {vs : List Value} {ns : List Int}
    (KX : K.In s₁.heap) (h1 : s₁.heap.Ns mainGlobals mg) (h2 : s₁.heap.Ns builtinsNs mb) (h3 : ∀ x : Str, x ≠ "__name__" → mb x = bootBuiltins x) (h4 : s₁.heap.NoLimit) (h5 : s₁.gens = #[])
    (ha : s₁.heap.get? a = some { cls := .type "list", data := .seq vs.toArray }) (hi : IntsAre vs ns) (hl : ns.length ≤ sizeLine) (hr : Room k callerA)
    (F : ∀ base : Heap, K.In base → base.Ns mainGlobals mg → FnG P w K mg base k fa fd [x] sp) (hbind : ∀ (s : Shared) (u : Value), BindsTo s fd ⟨[u], []⟩ [(x, u)])
    (hsp : ∀ H : Hp, Only H → SqL K H a (ns.map V.int) → sp [.ref a] H (fun v _ => v = .bl true) fun _ _ _ => False) :
    codeAny (model P w) callerA (.call (.ref fa) ⟨[.ref a], []⟩) (fun r s' => r = .ok (.ret (.bool true)) ∧ OldK s₁.heap s'.heap ∧ s'.os = s₁.os ∧ AllBare s'.gens) s₁ := by
  have rv := vals_ints hi
  have lenV := hi.length
  have main : ∀ H : Hp, Only H → SqL K H a (ns.map V.int) → HOk P w H s₁.heap → (∀ b, H b ≠ none → b = a ∧ K.lookup a = none) →
      codeAny (model P w) callerA (.call (.ref fa) ⟨[.ref a], []⟩) (fun r s' => r = .ok (.ret (.bool true)) ∧ OldK s₁.heap s'.heap ∧ s'.os = s₁.os ∧ AllBare s'.gens) s₁ := by
    intro H hO hS hok hA
    have free : ∀ {b : Addr}, b ≠ a → H b = none := fun {b} hb => by
      cases q : H b with
      | none => rfl
      | some u => exact absurd (hA b (by rw [q]; exact Option.some_ne_none u)).1 hb
    have ns' : ∀ {b : Addr} {m : Str → Option Value}, s₁.heap.Ns b m → (hidT s₁.heap H).Ns b m := by
      rintro b m ⟨o, es, ep, e, d, r⟩
      have hb : b ≠ a := by
        rintro rfl
        rw [ha] at e
        cases e
        cases d
      exact ⟨o, es, ep, hidT_get e (free hb), d, r⟩
    have kb : K.In (hidT s₁.heap H) := fun b o e => by
      refine hidT_get (KX b o e) ?_
      cases q : H b with
      | none => rfl
      | some u =>
        obtain ⟨e1, e2⟩ := hA b (by rw [q]; exact Option.some_ne_none u)
        rw [e1, e2] at e
        cases e
    obtain ⟨mc, l1, l2⟩ := h4
    have M : Mod K mg (hidT s₁.heap H) := ⟨kb, ns' h1, ⟨mb, ns' h2, h3⟩, ⟨mc, ns' l1, l2⟩⟩
    have e0 : Env0 P w K mg (hidT s₁.heap H) callerA [] s₁ H :=
      ⟨rfl, M, fun b o e => of_hidT e, Nat.le_of_eq (hidT_size _ _), trivial, fun b hb => (List.not_mem_nil (a := b) hb).elim, hok, .of_eq h5⟩
    have run := (F _ kb (ns' h1)).run callerA [] s₁ H ⟨[.ref a], []⟩ [.ref a] [.ref a] _ _ rfl hr e0 (hbind s₁ (.ref a)) (.cons rfl .nil) (hsp H hO hS)
    refine codeAny_mono run fun r s' h => ?_
    cases r with
    | error e => exact False.elim h
    | ok fl =>
      cases fl with
      | next => exact False.elim h
      | brk => exact False.elim h
      | cont => exact False.elim h
      | ret u =>
        obtain ⟨v, H', os, bare, un, hok', r', q⟩ := h
        obtain rfl : v = V.bl true := q
        obtain rfl : u = Value.bool true := r'
        refine ⟨rfl, OldK.of_keep fun b o e => ?_, os, bare⟩
        rcases hO b with z | ⟨ob, xs, z⟩
        · exact un.keep b o e z (List.not_mem_nil (a := b)) (List.not_mem_nil (a := b))
        · obtain ⟨e1, _⟩ := hok b _ z
          obtain ⟨e2, _⟩ := hok' b _ (un.frzs b ob _ z)
          rw [e] at e1
          cases e1
          exact e2
  cases hk : K.lookup a with
  | some o =>
    have e := KX a o hk
    rw [ha] at e
    cases e
    exact main (fun _ => none) (fun _ => .inl rfl) (.inr ⟨_, vs.toArray, _, hk, rfl, rfl, rfl, by rw [List.size_toArray, lenV]; exact hl, by simpa using rv⟩) (fun b u z => nomatch z) fun b z => absurd rfl z
  | none =>
    have hT : ∀ {b : Addr} {u : HO}, (if b = a then some (HO.frz { cls := .type "list", data := .seq vs.toArray } (.lst (ns.map V.int))) else none) = some u → b = a ∧ u = .frz { cls := .type "list", data := .seq vs.toArray } (.lst (ns.map V.int)) := fun {b u} z => by
      by_cases hb : b = a
      · rw [if_pos hb] at z
        exact ⟨hb, (Option.some.inj z).symm⟩
      · rw [if_neg hb] at z
        cases z
    refine main (fun b => if b = a then some (.frz { cls := .type "list", data := .seq vs.toArray } (.lst (ns.map V.int))) else none) (fun b => ?_) (.inl (.inr ⟨_, if_pos rfl⟩)) (fun b u z => ?_) fun b z => ?_
    · by_cases hb : b = a
      · exact .inr ⟨_, _, if_pos hb⟩
      · exact .inl (if_neg hb)
    · obtain ⟨rfl, rfl⟩ := hT z
      exact ⟨ha, by rw [List.length_map]; exact hl, vs, _, rv, ha⟩
    · obtain ⟨u, hu⟩ := Option.ne_none_iff_exists'.mp z
      exact ⟨(hT hu).1, hk⟩
/-- the law's end, for such a promise -/
theorem walkG {l : PySem.W.OpenLaw} {n k : Nat} {q : Program} {loose : List Str} {XP : (Str → Option Value) → Heap → Prop} {YP : World → Heap → Prop} {d : DefRec} {K : Params → PySem.W.Frag} {sp : World → Sp} {x : Str}
    (hn : l.most = some n) (hn2 : n ≤ sizeLine) (hdf : d.params.defaults = []) (hr : Room k callerA) (hY : ∀ (w : World) (h : Heap), YP w h → (K w.params).In h)
    (F : ∀ (w : World) (mg : Str → Option Value) (fa : Addr) (h : Heap), (K w.params).In h → h.Ns mainGlobals mg → mg d.name = some (.ref fa) →
      ∃ fd : FuncData, (∀ (s : Shared) (u : Value), BindsTo s fd ⟨[u], []⟩ [(x, u)]) ∧ ∀ base : Heap, (K w.params).In base → base.Ns mainGlobals mg → FnG l.prog w (K w.params) mg base k fa fd [x] (sp w))
    (hsp : ∀ (w : World) (H : Hp) (a : Addr) (ns : List Int), ns.length ≤ n → Only H → SqL (K w.params) H a (ns.map V.int) → sp w [.ref a] H (fun v _ => v = .bl true) fun _ _ _ => False) :
    PySem.W.WalkO q loose XP YP l.row.toRowW d [] (fun f vs => PySem.call f vs) := by
  refine Att.attach_call hn hdf fun w s₀ s₁ mg mb fa o pm cd doc a vs ns G Y ho hd hcd hmg hobj hints hlen hg => ?_
  obtain ⟨fd, hb, hF⟩ := F w mg fa _ (hY w _ Y) G.T.g hmg
  exact lawCallG (hY w _ Y) G.T.g G.T.b G.T.builtins G.T.nolimit hg hobj hints (Nat.le_trans hlen hn2) hr hF hb fun H hO hS => hsp w H a ns hlen hO hS
end XR
/-! Exceptions of the text as values: made, their fields read, isinstance of them. -/
namespace XR
open PySem PySem.Spec L2
/-- an exception of the class at C with the fields fs, newest first -/
def ExAt (H : Hp) (e C : Addr) (fs : List (Str × V)) : Prop := (fs = [] ∧ H e = some (exo e C none)) ∨ ∃ dx, H e = some (exo e C (some dx)) ∧ H dx = some (exd dx fs)
theorem ExAt.same {H H' : Hp} {e C : Addr} {fs : List (Str × V)} (s : Same H H') (h : ExAt H e C fs) : ExAt H' e C fs := by
  rcases h with ⟨h1, h2⟩ | ⟨dx, h1, h2⟩
  · exact .inl ⟨h1, s _ _ h2⟩
  · exact .inr ⟨dx, s _ _ h1, s _ _ h2⟩
abbrev FV : List (Str × V) → List (Str × Value) → Prop := Paired fun p q => p.1 = q.1 ∧ RelV p.2 q.2
theorem FV.rel : ∀ {fs : List (Str × V)} {gs : List (Str × Value)}, FV fs gs → ∀ f, RelO (fs.lookup f) (gs.lookup f)
  | _, _, .nil, _ => True.intro
  | (a, v) :: fs, (b, u) :: gs, .cons ⟨h1, h2⟩ t, f => by
    have h1 : a = b := h1
    subst h1
    by_cases q : f = a
    · subst q
      simp only [List.lookup, beq_self_eq_true]
      exact h2
    · have q' : (f == a) = false := by simpa using q
      simp only [List.lookup, q']
      exact FV.rel t f
theorem FV.nil_iff {fs : List (Str × V)} {gs : List (Str × Value)} (h : FV fs gs) : gs = [] → fs = [] := fun e => by
  subst e
  cases h
  rfl
section
variable {X : Cx} {pins : List (Addr × Obj)} {σ : St} {H : Hp} {h h' : Heap} {g : Array GenState} {d : Drawn} {t tk : Nat} {os : OsState} {e C L : Addr} {fs : List (Str × V)} {gs : List (Str × Value)}
theorem laidX (I : Inv X pins σ H ⟨h, g, d, t, os⟩) (k : ∀ b o, h.get? b = some o → h'.get? b = some o) (he : h.objs.size ≤ e) (F : Fl h.objs.size L e C gs h') (r : FV fs gs) :
    ∃ H2, Same H H2 ∧ ExAt H2 e C fs ∧ Inv X pins σ H2 ⟨h', g, d, tk, os⟩ := by
  have ne : H e = none := I.hok.fresh he
  obtain ⟨t1, ⟨hf, ho⟩ | ⟨dx, hf, hd0, hde, hdL, ho, hns⟩⟩ := F
  · subst hf
    have e2 := r.nil_iff rfl
    subst e2
    refine ⟨upd H e (exo e C none), fun b o q => by rw [upd_ne (ne_of_none q ne)]; exact q, .inl ⟨rfl, upd_same⟩, ?_⟩
    exact I.laid (t' := tk) k he (exo_ok ho)
  · have nd : H dx = none := I.hok.fresh hd0
    have sm : Same H (upd (upd H dx (exd dx fs)) e (exo e C (some dx))) := fun b o q => by
      rw [upd_ne (ne_of_none q ne), upd_ne (ne_of_none q nd)]
      exact q
    refine ⟨_, sm, .inr ⟨dx, upd_same, by rw [upd_ne hde]; exact upd_same⟩, ?_⟩
    have lt : ∀ {b : Addr} {o : Obj}, h.get? b = some o → b ≠ e ∧ b ≠ dx := fun {b o} q => ⟨Nat.ne_of_lt (Nat.lt_of_lt_of_le (Heap.lt_size q) he), Nat.ne_of_lt (Nat.lt_of_lt_of_le (Heap.lt_size q) hd0)⟩
    have U : Un X.fs [] H (upd (upd H dx (exd dx fs)) e (exo e C (some dx))) h h' := {
      keep := fun b o q _ _ _ => k b o q
      slot := fun b o q _ _ _ => ⟨o.slots, k b o q⟩
      free := fun b o q n _ => by rw [upd_ne (lt q).1, upd_ne (lt q).2]; exact n
      there := fun b o q _ => ⟨o, k b o q⟩
      tups := fun b xs q => sm _ _ q
      frzs := fun b o u q => sm _ _ q
      tbls := fun b ps q => ⟨#[], by rw [sm _ _ q]; simp⟩ }
    refine I.un (t' := tk) U fun b o q => ?_
    by_cases hb : b = e
    · subst hb
      rw [upd_same] at q
      cases q
      exact exo_ok ho
    · rw [upd_ne hb] at q
      by_cases hd : b = dx
      · subst hd
        rw [upd_same] at q
        cases q
        exact exd_ok hns r.rel
      · rw [upd_ne hd] at q
        exact (I.hok b o q).stay (fun c v _ z => k c v z) (fun c z => sm _ _ z) fun c xs z => sm _ _ z
end
/-- how the class at C is made by a call with n arguments: by position, or by the keywords ks -/
def argsX (kw : Option (List Str)) (e : Addr) (us : List Value) : Args := match kw with
  | none => ⟨.ref e :: us, []⟩
  | some ks => ⟨[.ref e], ks.zip us⟩
structure MkX (K : PySem.W.Frag) (P : Program) (C : Addr) (kw : Option (List Str)) (n : Nat) (fv : List V → List (Str × V)) : Prop where
  n1 : n ≤ 100
  ex : ∃ fI cc cda B newId initId bmB fd txt k p0 p1 p2 p3 p4 p5, ∃ (l : List Value → List Sto) (gb : List Value → List (Str × Value)), XCls K P C fI cc cda B newId initId bmB fd ∧
    (∀ us, us.length = n → Shape P fd fI cda cc txt k p0 p1 p2 p3 p4 p5 (l us) ∧ (l us).length ≤ 900 ∧ (∀ e s, BindsTo s fd (argsX kw e us) (("self", .ref e) :: gb us)) ∧
      (∀ e, ∀ x ∈ (((("self" : Str), Value.ref e) :: gb us) : List (Str × Value)), fd.scope.names.lookup x.1 = some .local) ∧ (∀ e : Addr, (((("self" : Str), Value.ref e) :: gb us) : List (Str × Value)).reverse.lookup ("self" : Str) = some (Value.ref e)) ∧
      (∀ e : Addr, ∀ x ∈ l us, (((("self" : Str), Value.ref e) :: gb us) : List (Str × Value)).reverse.lookup x.p = some x.v ∧ PySem.W.takerIn K C x.f = some none) ∧
      ∀ vs, Vals vs us → FV (fv vs) ((l us).map fun x => (x.f, x.v)).reverse)
section
variable {X : Cx} {k n : Nat} {C : Addr} {fv : List V → List (Str × V)} {x : Str} {p pos : Pos} {e : Expr} {es : List Expr} {t tk : TA} {ks : List Str} {kws : List Keyword} {mb : Str → Option Value}
/-- the call of the class, its arguments at hand -/
theorem runX {pins : List (Addr × Obj)} {σ : St} {H : Hp} {s : Shared} {Q : VK} {kw : Option (List Str)} {us : List Value} {vs : List V} (T : MkX X.K X.prog C kw n fv) (hr : Room 2 X.A) (hsup : X.mg "super" = none) (I : Inv X pins σ H s) (r : Vals vs us) (hl : us.length = n)
    (q : ∀ H2 e, Same H H2 → H e = none → ExAt H2 e C (fv vs) → Q (.ref e) H2) :
    wpAny (model X.prog X.w) X.A (match kw with | none => call (.ref C) us | some ks => call (.ref C) [] (ks.zip us)) (EP X pins σ Q) X.xe s := by
  obtain ⟨fI, cc, cda, B, newId, initId, bmB, fd, txt, kk, p0, p1, p2, p3, p4, p5, l, gb, T1, T2⟩ := T.ex
  obtain ⟨S, hl9, bt, hloc, hself, hx, hfv⟩ := T2 us hl
  obtain ⟨mb, hb, hbb⟩ := I.ok.mod.blt
  have hn : us.length ≤ sizeLine := by rw [hl, sizeLine_eq]; have := T.n1; omega
  have m2 : mb "super" = some (.type "super") := (hbb _ (by decide +kernel)).trans (by decide +kernel)
  obtain ⟨h, g, d, t, os⟩ := s
  have hm := I.ok.mod.glob.keeps I.bk
  have hb' := hb.keeps I.bk
  have dep : ∀ us kw, (X.A.under (.builtin "type.__call__" ⟨.ref C :: us, kw⟩)).depth < recursionLimit := fun us kw => by
    have := hr.dp
    rw [make_depth]
    omega
  have fin : ∀ h' tk L, (∀ b o, h.get? b = some o → h'.get? b = some o) → Fl h.objs.size L (h.objs.size + 1) C ((l us).map fun x => (x.f, x.v)).reverse h' → EP X pins σ Q (.ref (h.objs.size + 1)) ⟨h', g, d, tk, os⟩ := fun h' tk L kp F => by
    obtain ⟨H2, sm, ea, J⟩ := laidX (tk := tk) I kp (Nat.le_succ _) F (hfv vs r)
    exact ⟨.ref (h.objs.size + 1), H2, J, rfl, q H2 _ sm (I.hok.fresh (Nat.le_succ _)) ea⟩
  cases kw with
  | none => exact made T1 S hl9 I.kIn hm hb' hsup m2 I.nolimit (dep _ _) hn (bt _) (hloc _) (hself _) (hx _) fin
  | some ks => exact made (us := []) T1 S hl9 I.kIn hm hb' hsup m2 I.nolimit (dep _ _) (Nat.zero_le _) (bt _) (hloc _) (hself _) (hx _) fin
def tMkX (C : Addr) (n : Nat) (fv : List V → List (Str × V)) (t : TA) : TE := fun σ H Q => t σ H fun vs H1 => vs.length = n ∧ ∀ H2 e, Same H1 H2 → H1 e = none → ExAt H2 e C (fv vs) → Q (.ref e) H2
/-- C(e, ..) -/
theorem pe_mkX (T : MkX X.K X.prog C none n fv) (hk : PySem.W.keepIn X.K (.ref C) = true) (hr : Room 2 X.A) (hsup : X.mg "super" = none) (hg : Gl X x) (hm : X.mg x = some (.ref C)) (ha : PA X (e :: es) t)
    (hdb : (x == ("__debug__" : Str)) = false := by decide) (he : starEach (e :: es) X.env = (false, eval e X.env) :: starEach es X.env := by rfl) (hpl : (backTo pos (starEach es X.env)).any (·.1) = false := by rfl) :
    PE X (.Call (.Name x p) (e :: es) [] pos) (tMkX C n fv t) := by
  refine ⟨fun pins s σ H Q I h => ?_⟩
  refine wpAny_Call_Name_kw (ld_glob I hg hm ?_ hdb)
  refine PySem.W.callWith_K (h₀ := X.base) I.ok.mod.kin hk (thn (ha.run pos pins s σ H _ I h) fun us s1 ⟨vs, H1, I1, r, hl, q⟩ => ⟨I1.kIn, ?_⟩) he hpl
  exact runX (kw := none) T hr hsup I1 r (r.length.symm.trans hl) q
/-- C() -/
theorem pe_mkX0 (T : MkX X.K X.prog C none 0 fv) (hk : PySem.W.keepIn X.K (.ref C) = true) (hr : Room 2 X.A) (hsup : X.mg "super" = none) (hg : Gl X x) (hm : X.mg x = some (.ref C))
    (hdb : (x == ("__debug__" : Str)) = false := by decide) : PE X (.Call (.Name x p) [] [] pos) (tMkX C 0 fv tNil) := by
  refine ⟨fun pins s σ H Q I h => ?_⟩
  refine wpAny_Call_Name_kw (ld_glob I hg hm ?_ hdb)
  obtain ⟨_, q⟩ := h
  exact PySem.W.callWith_K0 I.kIn hk (runX T hr hsup I .nil rfl q)
/-- C(k = e, ..) -/
theorem pe_mkXK (T : MkX X.K X.prog C (some ks) n fv) (hk : PySem.W.keepIn X.K (.ref C) = true) (hr : Room 2 X.A) (hsup : X.mg "super" = none) (hg : Gl X x) (hm : X.mg x = some (.ref C)) (hkw : PK X kws tk)
    (hall : (backToKw pos (keywordEach kws X.env)).all (·.1.isSome) = true := by rfl) (hks : (backToKw pos (keywordEach kws X.env)).filterMap (·.1) = ks := by rfl)
    (hdb : (x == ("__debug__" : Str)) = false := by decide) (hpl : ((backTo pos (starEach [] X.env)).any (·.1) || (backToKw pos (keywordEach kws X.env)).any (·.1.isNone)) = false := by rfl) :
    PE X (.Call (.Name x p) [] kws pos) (tMkX C n fv tk) := by
  refine ⟨fun pins s σ H Q I h => ?_⟩
  refine wpAny_Call_Name_kw (ld_glob I hg hm ?_ hdb)
  refine PySem.W.callWith_KW0 (h₀ := X.base) I.ok.mod.kin hk hall (thn (hkw.run pos pins s σ H _ I h) fun us s1 ⟨vs, H1, I1, r, hl, q⟩ => ⟨I1.kIn, ?_⟩) hpl
  rw [hks]
  exact runX (kw := some ks) T hr hsup I1 r (r.length.symm.trans hl) q
end
/-- what the written part says of a class of exceptions, for its fields and isinstance -/
structure ClsR (K : PySem.W.Frag) (C : Addr) : Prop where
  cl : (PySem.W.clsIn K C).isSome = true
  ga : PySem.W.findIn K (.ref C) "__getattribute__" = some (some (.builtin "BaseException.__getattribute__"))
  gt : PySem.W.findIn K (.ref C) "__getattr__" = some none
  sb : PySem.W.subIn K (.ref C) (.type "BaseException") = some true
  di : PySem.W.hasDictIn K C = true
  ca : PySem.W.findIn K (.ref C) "__class__" = some (some (.builtin "object.__class__"))
  sp : PySem.W.specialIn K (.builtin "object.__class__") "__get__" = some (some (.builtin "getset_descriptor.__get__"))
  tk : PySem.W.takesIn K (.builtin "object.__class__") = some true
  mo : PySem.W.mroIn K C (.type "object") = some true
section
variable {X : Cx} {pins : List (Addr × Obj)} {σ : St} {H : Hp} {s : Shared} {a C : Addr} {fs : List (Str × V)}
theorem instX (I : Inv X pins σ H s) (h : ExAt H a C fs) : ∃ (ox : Obj) (od : Option Obj), PySem.W.InstAt s.heap a ox C od ∧ ∀ v, fs.lookup v ≠ none → ∃ o, od = some o ∧ ∃ m : Str → Option Value, (∀ f, RelO (fs.lookup f) (m f)) ∧ ∀ f, PySem.W.lookIn f o = some (m f) := by
  rcases h with ⟨rfl, h⟩ | ⟨dx, h1, h2⟩
  · obtain ⟨t1, ho⟩ := exo_at I.hok h
    exact ⟨_, none, ⟨ho, rfl, rfl, trivial⟩, fun v hv => absurd rfl hv⟩
  · obtain ⟨t1, ho⟩ := exo_at I.hok h1
    obtain ⟨m, hn, hr⟩ := exd_at I.hok h2
    obtain ⟨od, hod, hl⟩ := lookIn_ns hn
    exact ⟨_, some od, ⟨ho, rfl, rfl, hod⟩, fun v _ => ⟨od, rfl, m, hr, hl⟩⟩
variable {e : Expr} {f : Str} {pos : Pos} {ta : TE}
def tExF (K : PySem.W.Frag) (ta : TE) (f : Str) : TE := fun σ H Q => ta σ H fun x H1 => ∃ a C fs v, x = .ref a ∧ ExAt H1 a C fs ∧ ClsR K C ∧ PySem.W.findIn K (.ref C) f = some none ∧ fs.lookup f = some v ∧ Q v H1
/-- e.f of an exception -/
theorem pe_exf (he : PE X e ta) (hb : attributeBase e f X.env (eval e X.env) = eval e X.env) : PE X (.Attribute e f pos) (tExF X.K ta f) := by
  refine ⟨fun pins s σ H Q I h => ?_⟩
  refine attr_of hb (thn (he.run pins s σ H _ I h) fun u s1 ⟨x, H1, I1, rx, a, C, fs, v, ex, ea, T, nf, l, q⟩ => ?_)
  subst ex
  obtain rfl : u = Value.ref a := rx
  obtain ⟨ox, od, J, hf⟩ := instX I1 ea
  obtain ⟨o, rfl, m, hr, hl⟩ := hf f (by rw [l]; exact Option.some_ne_none v)
  have hm := hr f
  rw [l] at hm
  obtain ⟨u, hu, ru⟩ := RelO.some_of hm
  have hl' := hl f
  rw [hu] at hl'
  refine PySem.PX.exc_get I1.kIn J T.ga T.gt T.sb (PySem.W.findObj_own T.di nf rfl hl') (handed_of ru) ?_
  exact ⟨v, H1, I1.tok _, ru, q⟩
/-- isinstance(e, c) -/
def rIsX (K : PySem.W.Frag) : List V → Hp → VK → Prop := fun xs H Q => ∃ (a C : Addr) (fs : List (Str × V)) (c : V) (cv : Value) (b : Bool), xs = [.ref a, c] ∧ ExAt H a C fs ∧ ClsR K C ∧ (∀ u, RelV c u → u = cv) ∧ PySem.W.kitOne K (.ref C) cv = some b ∧ Q (.bl b) H
theorem call_isX : CallR X (.builtin "isinstance") (rIsX X.K) := by
  intro pins s σ H xs us Q I r h
  obtain ⟨a, C, fs, c, cv, b, rfl, ea, T, hc, e, q⟩ := h
  obtain ⟨u1, u2, rfl, r1, r2⟩ := vals2 r
  cases r1
  obtain rfl := hc _ r2
  obtain ⟨ox, od, J, _⟩ := instX I ea
  exact PySem.W.kia_one (PySem.W.kitx_exc T.cl T.ga T.gt T.sb T.ca T.sp T.tk T.mo) I.kIn J e (fun z => nomatch z) fun tk => ⟨.bl b, H, I.kept (t' := tk) fun _ _ z => z, rfl, q⟩
end
end XR
/-! Raising an exception of the text whose __init__ calls super().__init__ and stores its parameters; its field in a handler. -/
namespace XR
open PySem PySem.Spec L2
section
variable {X : Cx} {n : Nat} {C : Addr} {fv : List V → List (Str × V)} {x : Str} {p pos : Pos} {e : Expr} {es : List Expr} {t : TA}
/-- C(e, ..), to be raised -/
def tPmX (C : Addr) (n : Nat) (fv : List V → List (Str × V)) (t : TA) : St → Hp → XK → Prop := fun σ H Q => t σ H fun vs H1 => vs.length = n ∧ ∀ d, H1 d = none → Q (.ref C) (some d) (upd H1 d (.xd (fv vs)))
theorem pmkX (T : MkX X.K X.prog C none n fv) (h0 : ∀ vs : List V, vs.length = n → fv vs ≠ []) (hk : PySem.W.keepIn X.K (.ref C) = true) (hr : Room 2 X.A) (hsup : X.mg "super" = none) (bP : PySem.W.subIn X.K (.ref C) (.type "BaseException") = some true) (tP : PySem.W.typeIn X.K (.ref C) = some (.type "type"))
    (hg : Gl X x) (hm : X.mg x = some (.ref C)) (ha : PA X (e :: es) t)
    (hdb : (x == ("__debug__" : Str)) = false := by decide) (he : starEach (e :: es) X.env = (false, eval e X.env) :: starEach es X.env := by rfl) (hpl : (backTo pos (starEach es X.env)).any (·.1) = false := by rfl) :
    PMk X (.Call (.Name x p) (e :: es) [] pos) (tPmX C n fv t) := by
  intro pins s σ H Q I h
  refine wpAny_Call_Name_kw (ld_glob I hg hm ?_ hdb)
  refine PySem.W.callWith_K (h₀ := X.base) I.ok.mod.kin hk (thn (ha.run pos pins s σ H _ I h) fun us s1 ⟨vs, H1, I1, r, hl, q⟩ => ⟨I1.kIn, ?_⟩) he hpl
  have hlu : us.length = n := r.length.symm.trans hl
  obtain ⟨fI, cc, cda, B, newId, initId, bmB, fd, txt, kk, p0, p1, p2, p3, p4, p5, l, gb, T1, T2⟩ := T.ex
  obtain ⟨S, hl9, bt, hloc, hself, hx, hfv⟩ := T2 us hlu
  obtain ⟨mb, hb, hbb⟩ := I1.ok.mod.blt
  have hn : us.length ≤ sizeLine := by rw [hlu, sizeLine_eq]; have := T.n1; omega
  have m2 : mb "super" = some (.type "super") := (hbb _ (by decide +kernel)).trans (by decide +kernel)
  obtain ⟨hp, g, dr, tk, os⟩ := s1
  have hm' := I1.ok.mod.glob.keeps I1.bk
  have hb' := hb.keeps I1.bk
  have dep : (X.A.under (.builtin "type.__call__" ⟨.ref C :: us, []⟩)).depth < recursionLimit := by
    have := hr.dp
    rw [make_depth]
    omega
  show wpAny _ _ (call (.ref C) us) _ _ _
  refine made T1 S hl9 I1.kIn hm' hb' hsup m2 I1.nolimit dep hn (bt _) (hloc _) (hself _) (hx _) fun h' tk' L k F => ?_
  obtain ⟨t1, ⟨hf, ho⟩ | ⟨dx, hf, hd0, hde, hdL, ho, hns⟩⟩ := F
  · exact absurd ((hfv vs r).nil_iff hf) (h0 vs hl)
  · obtain ⟨G', g1, g2⟩ := restrict h' fun b => decide (b ≠ hp.objs.size + 1)
    have gk : ∀ b, b ≠ hp.objs.size + 1 → G'.get? b = h'.get? b := fun b hb => g1 b (decide_eq_true hb)
    have ge : G'.get? (hp.objs.size + 1) = none := g2 (hp.objs.size + 1) (by simp)
    have old : ∀ b o, hp.get? b = some o → G'.get? b = some o := fun b o q => (gk b (Nat.ne_of_lt (Nat.lt_succ_of_lt (Heap.lt_size q)))).trans (k b o q)
    have ob : ObjOk X.prog X.w (upd H1 dx (.xd (fv vs))) G' dx (.xd (fv vs)) := ⟨_, hns.at (fun o q => (gk dx hde).trans q), (hfv vs r).rel⟩
    have J : Inv X pins σ (upd H1 dx (.xd (fv vs))) ⟨G', g, dr, tk', os⟩ := I1.laid (t' := tk') old hd0 ob
    refine ⟨hp.objs.size + 1, _, _, ⟨G', g, dr, tk', os⟩, _, .ref C, some dx, rfl, J, fun b o q => ?_, ge, ho, ⟨rfl, rfl⟩, rfl, rfl, ?_, rfl, I1.bare, raises_own bP tP, q dx (I1.hok.fresh hd0)⟩
    · by_cases hb : b = hp.objs.size + 1
      · have q' : G'.get? b = some o := q
        rw [hb, ge] at q'; cases q'
      · exact (gk b hb).symm.trans q
    · rw [upd_ne (Ne.symm hde)]
      exact I1.hok.fresh (Nat.le_succ _)
/-- raise C(e, ..) -/
theorem ps_raiseX {W : WX} {pos2 : Pos} (hc : X.calm = true) (tk : Takes X W) (T : MkX X.K X.prog C none n fv) (h0 : ∀ vs : List V, vs.length = n → fv vs ≠ []) (hk : PySem.W.keepIn X.K (.ref C) = true) (hr : Room 2 X.A) (hsup : X.mg "super" = none) (bP : PySem.W.subIn X.K (.ref C) (.type "BaseException") = some true) (tP : PySem.W.typeIn X.K (.ref C) = some (.type "type"))
    (hg : Gl X x) (hm : X.mg x = some (.ref C)) (ha : PA X (e :: es) t)
    (hdb : (x == ("__debug__" : Str)) = false := by decide) (he : starEach (e :: es) X.env = (false, eval e X.env) :: starEach es X.env := by rfl) (hpl : (backTo pos (starEach es X.env)).any (·.1) = false := by rfl) :
    PS X (.Raise (some (.Call (.Name x p) (e :: es) [] pos)) none pos2) (fun _ σ H => tPmX C n fv t σ H fun cls d H' => W cls d σ H') := ps_raise hc tk (pmkX T h0 hk hr hsup bP tP hg hm ha hdb he hpl)
/-- e.f in a handler, e the exception that it holds (at a; its class cls, its dict d) -/
def tByX (K : PySem.W.Frag) (a : Addr) (cls : Value) (d : Option Addr) (f : Str) (te : TE) : TE := fun σ H Q => te σ H fun x H1 => x = .ref a ∧ ∃ (C dd : Addr) (fs : List (Str × V)) (v : V), cls = .ref C ∧ d = some dd ∧ ClsR K C ∧ PySem.W.findIn K (.ref C) f = some none ∧ H1 dd = some (.xd fs) ∧ fs.lookup f = some v ∧ Q v H1
theorem pe_byX {a : Addr} {oe : Obj} {cls : Value} {d : Option Addr} {pn : List (Addr × Obj)} {e : Expr} {f : Str} {te : TE} {pos : Pos} (hz : Zc cls d oe) (hf : ∃ vs, oe.data = .fields vs) (he : PE (X.suite a ((a, oe) :: pn)) e te)
    (hb : attributeBase e f X.env (eval e X.env) = eval e X.env) :
    PE (X.suite a ((a, oe) :: pn)) (.Attribute e f pos) (tByX X.K a cls d f te) := by
  refine ⟨fun pins s σ H Q I h => ?_⟩
  refine attr_of hb (thn (he.run pins s σ H _ I h) fun u s1 hh => ?_)
  obtain ⟨x, H1, I1, rx, ex, C, dd, fs, v, ec, ed, T, nf, ea, lk, q⟩ := hh
  subst ex
  obtain rfl : u = Value.ref a := rx
  subst ec
  subst ed
  obtain ⟨ha, _⟩ := I1.pin (a, oe) (List.mem_append_left _ List.mem_cons_self)
  obtain ⟨vs, hd⟩ := hf
  have hx : ObjOk X.prog X.w H1 s1.heap dd (.xd fs) := I1.hok dd _ ea
  obtain ⟨mA, hns, hr⟩ := hx
  obtain ⟨od, ho, hl⟩ := lookIn_ns hns
  obtain ⟨u, hu, ru⟩ := RelO.some_of (v := v) (o := mA f) (by rw [← lk]; exact hr f)
  have J : PySem.W.InstAt s1.heap a oe C (some od) := ⟨ha, hz.1, by unfold PySem.W.notCls; rw [hd] <;> rfl, by rw [hz.2]; exact ho⟩
  exact PySem.PX.exc_get I1.kIn J T.ga T.gt T.sb (PySem.W.findObj_own T.di nf rfl (by rw [hl, hu])) (handed_of ru) ⟨v, H1, I1.tok _, ru, q⟩
end
end XR
/-! Law-independent: heaps alike but for one address, the pot of a law, what its draws promise. -/
namespace XR
open PySem L2
/-- all but a is as it was -/
def But (a : Addr) (H H' : Hp) : Prop := ∀ b o, H b = some o → b ≠ a → H' b = some o
theorem But.refl (a : Addr) (H : Hp) : But a H H := fun _ _ h _ => h
theorem But.trans {a : Addr} {H H1 H2 : Hp} (x : But a H H1) (y : But a H1 H2) : But a H H2 := fun b o h n => y b o (x b o h n) n
theorem But.same {a : Addr} {H H1 H2 : Hp} (x : But a H H1) (y : Same H1 H2) : But a H H2 := fun b o h n => y b o (x b o h n)
theorem same_upd {H : Hp} {p : Addr} {o : HO} (h : H p = none) : Same H (upd H p o) := fun b u e => by
  rw [upd_ne (ne_of_none e h)]
  exact e
theorem But.del {a : Addr} {H H' : Hp} (x : But a H H') : Same (L2.del H a) (L2.del H' a) := fun b o h => by
  by_cases e : b = a
  · rw [e, del_same] at h; cases h
  · rw [del_ne e] at h ⊢
    exact x b o h e
theorem del_sub {a : Addr} {H : Hp} : Same (L2.del H a) H := fun b o h => by
  by_cases e : b = a
  · rw [e, del_same] at h; cases h
  · rw [del_ne e] at h
    exact h
def PotAt (H : Hp) (a : Addr) : Prop := ∃ p q : Int, H a = some (.lst [.int p, .int q]) ∧ 0 ≤ p ∧ 0 ≤ q ∧ q < 2147483647
def spPot (K : PySem.W.Frag) : Sp := fun vs H Q _ => ∃ (a : Addr) (ns : List Int) (k : Nat), vs = [.ref a, .int k] ∧ SqL K H a (ns.map V.int) ∧ ns.length ≤ 63 ∧ k ≤ 100 ∧
  ∀ p H', Same H H' → H p = none → PotAt H' p → Q (.ref p) H'
def spDraw : Sp := fun vs H Q _ => ∃ (a : Addr) (m : Int), vs = [.ref a, .int m] ∧ PotAt H a ∧ 0 < m ∧ m ≤ 1000 ∧
  ∀ (r : Int) H', 0 ≤ r → r < m → PotAt H' a → But a H H' → Q (.int r) H'
def spPick : Sp := fun vs H Q _ => ∃ (a b : Addr) (xs : List V), vs = [.ref a, .ref b] ∧ PotAt H a ∧ H b = some (.lst xs) ∧ a ≠ b ∧ 0 < xs.length ∧ xs.length ≤ 1000 ∧
  ∀ (x : V) H', x ∈ xs → PotAt H' a → But a H H' → Q x H'
theorem int_of_map {ns : List Int} {i : Nat} (h : i < ns.length) : (ns.map V.int)[i]? = some (V.int (ns.getD i 0)) := by
  rw [List.getElem?_map, List.getD_eq_getElem?_getD]
  rw [List.getElem?_eq_getElem h]
  rfl
end XR
namespace XR
open PySem L2
theorem ll20 {n : Nat} (h : n ≤ 20) : n ≤ sizeLine := Nat.le_trans h (by decide)
theorem But.new {a p : Addr} {H H' : Hp} {o : HO} (b : But a H H') (h : H' p = none) : But a H (upd H' p o) := fun x u hx n => by
  have := b x u hx n
  rw [upd_ne (ne_of_none this h)]
  exact this
theorem PotAt.same {a : Addr} {H H' : Hp} (s : Same H H') (h : PotAt H a) : PotAt H' a := by
  obtain ⟨p, q, e, r⟩ := h
  exact ⟨p, q, s _ _ e, r⟩
theorem PotAt.ne {a p : Addr} {H : Hp} (h : PotAt H a) (n : H p = none) : a ≠ p := by
  obtain ⟨_, _, e, _⟩ := h
  exact ne_of_none e n
theorem PotAt.upd {a p : Addr} {H : Hp} {o : HO} (h : PotAt H a) (n : a ≠ p) : PotAt (L2.upd H p o) a := by
  obtain ⟨p', q, e, r⟩ := h
  exact ⟨p', q, by rw [upd_ne n]; exact e, r⟩
theorem Same.but {a : Addr} {H H' : Hp} (s : Same H H') : But a H H' := fun b o h _ => s b o h
theorem But.fresh {a p : Addr} {H H' : Hp} (b : But a H H') (h : PotAt H' a) (n : H' p = none) : H p = none := by
  cases e : H p with
  | none => rfl
  | some o =>
    have := b _ _ e (h.ne n).symm
    rw [n] at this; cases this
end XR
namespace XR
open PySem L2
def tyN : PyData → String
  | .none => "NoneType"
  | .bool _ => "bool"
  | .int _ => "int"
  | .str _ => "str"
  | .list _ => "list"
  | .tuple _ => "tuple"
  | .dict _ => "dict"
theorem Dq.ty {K : PySem.W.Frag} {H : Hp} {x : V} {d : PyData} (h : Dq K H x d) : TyX K H x (.type (tyN d)) := by
  cases h with
  | non => exact .base .non
  | bl b => exact .base (.bl b)
  | int i => exact .base (.int i)
  | str s => exact .base (.str s)
  | lst h1 h2 =>
    rcases h1 with (h | ⟨o, h⟩) | ⟨o, _, _, h, hc, _⟩
    · exact .base (.lst h)
    · exact .base (.frz h)
    · exact .kList h hc
  | tup h1 h2 =>
    rcases h1 with (h | ⟨o, h⟩) | ⟨o, _, _, h, hc, _⟩
    · exact .base (.tup h)
    · exact .fTuple h
    · exact .kTuple h hc
  | dct h1 _ _ => exact .base (.dK h1)
/-- a judge of any value -/
def spJudge (K : PySem.W.Frag) (p : PyData → Bool) : Sp := fun vs H Q _ => ∃ (x : V) (d : PyData), vs = [x] ∧ Dq K H x d ∧ ∀ H', Same H H' → Q (.bl (p d)) H'
def isWhole : PyData → Bool
  | .int _ => true
  | _ => false
def isSeq : PyData → Bool
  | .list _ => true
  | .tuple _ => true
  | _ => false
def isLine : PyData → Bool
  | .str s => !decide ((10 : Nat) ∈ s.cps.toList)
  | _ => false
def itemsOf : PyData → List PyData
  | .list ds => ds
  | .tuple ds => ds
  | _ => []
def isText (d : PyData) : Bool := isSeq d && (decide ((itemsOf d).length ≤ 60) && (itemsOf d).all isLine)
theorem kit_int (d : PyData) : kitB (tyN d) "int" = some (isWhole d || (match d with | .bool _ => true | _ => false)) := by
  cases d <;> kernel_rfl
theorem kit_bool (d : PyData) : kitB (tyN d) "bool" = some (match d with | .bool _ => true | _ => false) := by
  cases d <;> kernel_rfl
theorem kit_str (d : PyData) : kitB (tyN d) "str" = some (match d with | .str _ => true | _ => false) := by
  cases d <;> kernel_rfl
theorem kit_tuple (d : PyData) : kitB (tyN d) "tuple" = some (match d with | .tuple _ => true | _ => false) := by
  cases d <;> kernel_rfl
end XR
namespace XR
open PySem L2
theorem DqAll.get {K : PySem.W.Frag} {H : Hp} : ∀ {xs : List V} {ds : List PyData} {i : Nat} {x : V}, DqAll K H xs ds → xs[i]? = some x → ∃ d, ds[i]? = some d ∧ Dq K H x d
  | _, _, _, _, .nil, h => by simp at h
  | _, _, 0, _, .cons (d := d) a b, h => by
    have e := Option.some.inj h
    subst e
    exact ⟨d, rfl, a⟩
  | _, _, i + 1, _, .cons a b, h => b.get (i := i) h
end XR
namespace XR
open PySem PySem.Spec L2
/-- a call that raises nothing of a def that may raise -/
theorem passF {X : Cx} (σ : St) : PassesAt (L2.CX X.prog X.w) X σ E0 := fun pins H s e s' I h => by
  obtain ⟨_, _, _, _, _, _, _, _, _, _, _, _, z⟩ := h
  exact z.elim
section
variable {X : Cx} {CX : CXT} {k : Nat} {f : Addr} {sp : Sp} {E : St → XK} {x : Str} {p pos : Pos} {e : Expr} {es : List Expr} {t : TA}
/-- the plain call of a def that is known by its promise for any arguments -/
theorem pe_callR (F : FnR X.prog X.w X.K X.mg X.base CX k f sp) (hr : Room k X.A) (hgl : Gl X x) (hm : X.mg x = some (.ref f)) (hk : PySem.W.keepIn X.K (.ref f) = true) (hx : ∀ σ, PassesAt CX X σ (E σ)) (ha : PA X (e :: es) t)
    (hdb : (x == ("__debug__" : Str)) = false := by decide) (he : starEach (e :: es) X.env = (false, eval e X.env) :: starEach es X.env := by rfl) (hpl : (backTo pos (starEach es X.env)).any (·.1) = false := by rfl) :
    PE X (.Call (.Name x p) (e :: es) [] pos) (fun σ H Q => t σ H fun vs H1 => sp vs H1 Q (E σ)) := by
  refine ⟨fun pins s σ H Q I h => ?_⟩
  refine wpAny_Call_Name_kw (ld_glob I hgl hm ?_ hdb)
  refine PySem.W.callWith_K (h₀ := X.base) I.ok.mod.kin hk (thn (ha.run pos pins s σ H _ I h) fun us s1 ⟨vs, H1, I1, r, q⟩ => ⟨I1.kIn, ?_⟩) he hpl
  refine wpAny_call (codeAny_mono (F X.A X.stack s1 H1 us vs Q (E σ) hr I1.env0 r q) fun r' s' hq => ?_)
  cases r' with
  | error e => exact hx σ pins H1 s1 e s' I1 hq
  | ok fl =>
    cases fl with
    | ret u => exact I1.after hq
    | next => exact False.elim hq
    | brk => exact False.elim hq
    | cont => exact False.elim hq
end
/-- what is known of a class of exceptions with n fields -/
structure XOk (P : Program) (K : PySem.W.Frag) (mg : Str → Option Value) (x : Str) (C : Addr) (n : Nat) (fv : List V → List (Str × V)) : Prop where
  mx : MkX K P C none n fv
  ne : ∀ vs : List V, vs.length = n → fv vs ≠ []
  kp : PySem.W.keepIn K (.ref C) = true
  bP : PySem.W.subIn K (.ref C) (.type "BaseException") = some true
  tP : PySem.W.typeIn K (.ref C) = some (.type "type")
  g : mg x = some (.ref C)
  rd : ClsR K C
  nf : ∀ vs : List V, ∀ q, q ∈ fv vs → PySem.W.findIn K (.ref C) q.1 = some none
def fvOne (f : Str) : List V → List (Str × V) := fun vs => [(f, vs.getD 0 .non)]
/-- a judge of texts: it raises with the first that is none -/
def spCheck (K : PySem.W.Frag) (C : Addr) : Sp := fun vs H Q E => ∃ ds : List PyData, DqAll K H vs ds ∧ vs.length ≤ 100 ∧ (ds.all isText = true → ∀ H', Same H H' → Q .non H') ∧
  (∀ i x d, vs[i]? = some x → ds[i]? = some d → isText d = false → (∀ d', d' ∈ ds.take i → isText d' = true) → ∀ H' dd, Same H H' → H dd = none → H' dd = some (.xd [("value", x)]) → E (.ref C) (some dd) H')
end XR
namespace XR
open PySem L2
theorem DqAll.two {K : PySem.W.Frag} {H : Hp} {xs : List V} {ds : List PyData} (h : DqAll K H xs ds) (e : ds.length = 2) : ∃ d1 d2 y1 y2, ds = [d1, d2] ∧ xs = [y1, y2] ∧ Dq K H y1 d1 ∧ Dq K H y2 d2 := by
  cases h with
  | nil => cases e
  | cons a h =>
    cases h with
    | nil => cases e
    | cons b h =>
      cases h with
      | nil => exact ⟨_, _, _, _, rfl, rfl, a, b⟩
      | cons c h => simp at e
theorem sepFrom_le (B : Nat) : ∀ (ts : List Str) (k : Nat) (acc : Str), (∀ t ∈ ts, t.length ≤ B) → (textFrom k acc ts).length ≤ acc.length + ts.length * (B + 2)
  | [], k, acc, _ => by
    show acc.length ≤ acc.length + 0 * (B + 2)
    omega
  | t :: r, k, acc, h => by
    have ih := sepFrom_le B r (k + 1) (acc ++ (if k > 0 then ", " else "" : String) ++ t) fun x hx => h x (List.mem_cons_of_mem _ hx)
    have e : (acc ++ (if k > 0 then ", " else "" : String) ++ t).length ≤ acc.length + 2 + t.length := by
      rw [strLen_append, strLen_append]
      have q : (Str.ofString (if k > 0 then ", " else "")).length ≤ 2 := by
        by_cases hk : k > 0
        · rw [if_pos hk]; decide
        · rw [if_neg hk]; decide
      omega
    have ht := h t (List.mem_cons_self ..)
    show (textFrom (k + 1) _ r).length ≤ _
    rw [List.length_cons, Nat.succ_mul]
    omega
theorem shownAll_in {ds : List PyData} {t : Str} (h : t ∈ PyData.shownAll ds) : ∃ d ∈ ds, t = d.shown := by
  induction ds with
  | nil => simp [PyData.shownAll] at h
  | cons d ds ih =>
    simp only [PyData.shownAll, List.mem_cons] at h
    rcases h with rfl | h
    · exact ⟨d, List.mem_cons_self .., rfl⟩
    · obtain ⟨e, h1, h2⟩ := ih h
      exact ⟨e, List.mem_cons_of_mem _ h1, h2⟩
theorem shownAll_len : ∀ ds : List PyData, (PyData.shownAll ds).length = ds.length
  | [] => by simp [PyData.shownAll]
  | d :: ds => by simp [PyData.shownAll, shownAll_len ds]
theorem joined_le (B : Nat) : ∀ (ts : List Str), (∀ t ∈ ts, t.length ≤ B) → (Str.join ", " ts).length ≤ ts.length * (B + 2)
  | [], _ => by
    show (0 : Nat) ≤ _
    exact Nat.zero_le _
  | [x], h => by
    have := h x (List.mem_cons_self ..)
    show x.length ≤ _
    rw [List.length_cons, List.length_nil]
    omega
  | x :: y :: r, h => by
    have ih := joined_le B (y :: r) fun t ht => h t (List.mem_cons_of_mem _ ht)
    have hx := h x (List.mem_cons_self ..)
    have e2 : (Str.ofString ", ").length = 2 := by decide
    show (x ++ Str.ofString ", " ++ Str.join ", " (y :: r)).length ≤ _
    rw [strLen_append, strLen_append, e2]
    rw [List.length_cons, Nat.succ_mul]
    omega
structure Shw (n k : Nat) (d : PyData) : Prop where
  ok : d.showable = true
  len : d.shown.length ≤ n
  dep : d.depth ≤ k
theorem showAll_of : ∀ {ds : List PyData}, (∀ d ∈ ds, d.showable = true) → PyData.showableAll ds = true
  | [], _ => by simp [PyData.showableAll]
  | d :: ds, h => by
    simp only [PyData.showableAll, Bool.and_eq_true]
    exact ⟨h d (List.mem_cons_self ..), showAll_of fun x hx => h x (List.mem_cons_of_mem _ hx)⟩
theorem depAll_of {k : Nat} : ∀ {ds : List PyData}, (∀ d ∈ ds, d.depth ≤ k) → PyData.depthAll ds ≤ k
  | [], _ => by simp [PyData.depthAll]
  | d :: ds, h => by
    simp only [PyData.depthAll]
    exact Nat.max_le.mpr ⟨h d (List.mem_cons_self ..), depAll_of fun x hx => h x (List.mem_cons_of_mem _ hx)⟩
theorem Shw.list {n k m : Nat} {ds : List PyData} (h : ∀ d ∈ ds, Shw n k d) (l : ds.length ≤ m) : Shw (2 + m * (n + 2)) (k + 1) (.list ds) := by
  refine ⟨?_, ?_, ?_⟩
  · simp only [PyData.showable]
    exact showAll_of fun d hd => (h d hd).ok
  · simp only [PyData.shown]
    have e := sepFrom_le n (PyData.shownAll ds) 0 "[" fun t ht => by
      obtain ⟨d, hd, rfl⟩ := shownAll_in ht
      exact (h d hd).len
    have q : (listText (PyData.shownAll ds)).length = (textFrom 0 "[" (PyData.shownAll ds)).length + 1 := by
      show (textFrom 0 "[" (PyData.shownAll ds) ++ "]").length = _
      rw [strLen_append]; rfl
    have q2 : (Str.ofString "[").length = 1 := by decide
    rw [shownAll_len] at e
    have := Nat.mul_le_mul_right (n + 2) l
    omega
  · simp only [PyData.depth]
    have := depAll_of fun d hd => (h d hd).dep
    omega
theorem Shw.tuple {n k m : Nat} {ds : List PyData} (h : ∀ d ∈ ds, Shw n k d) (l : ds.length ≤ m) : Shw (3 + m * (n + 2)) (k + 1) (.tuple ds) := by
  refine ⟨?_, ?_, ?_⟩
  · simp only [PyData.showable]
    exact showAll_of fun d hd => (h d hd).ok
  · simp only [PyData.shown]
    have e := joined_le n (PyData.shownAll ds) fun t ht => by
      obtain ⟨d, hd, rfl⟩ := shownAll_in ht
      exact (h d hd).len
    have q1 : (Str.ofString "(").length = 1 := by decide
    have q2 : (Str.ofString (if (PyData.shownAll ds).length == 1 then ",)" else ")")).length ≤ 2 := by
      by_cases hk : ((PyData.shownAll ds).length == 1) = true
      · rw [if_pos hk]; decide
      · rw [if_neg hk]; decide
    unfold tupleText
    rw [strLen_append, strLen_append, q1]
    rw [shownAll_len] at e
    have := Nat.mul_le_mul_right (n + 2) l
    omega
  · simp only [PyData.depth]
    have := depAll_of fun d hd => (h d hd).dep
    omega
theorem Shw.le {n k n' k' : Nat} {d : PyData} (h : Shw n k d) (a : n ≤ n') (b : k ≤ k') : Shw n' k' d := ⟨h.ok, Nat.le_trans h.len a, Nat.le_trans h.dep b⟩
theorem line_ge : 8000 ≤ sizeLine := by decide
theorem passP {X : Cx} (σ : St) : PassesAt CX0 X σ E0 := fun _ _ _ _ _ _ h => h.elim
theorem same_new {H H1 : Hp} {p : Addr} {o o' : HO} (n : H p = none) (s : Same (upd H p o) H1) : Same H (upd H1 p o') := fun b u e => by
  rw [upd_ne (ne_of_none e n)]
  exact s _ _ (same_upd n _ _ e)
theorem Shw.line {n k : Nat} {d : PyData} (h : Shw n k d) (hn : n ≤ 8000) : d.shown.length ≤ sizeLine := Nat.le_trans h.len (Nat.le_trans hn line_ge)
theorem Shw.low {n k : Nat} {d : PyData} (h : Shw n k d) (hk : k ≤ 60) : d.depth ≤ 60 := Nat.le_trans h.dep hk
theorem del_at {p q : Addr} {H : Hp} {o : HO} (h : H q = some o) (n : p ≠ q) : L2.del H p q = some o := by
  rw [del_ne n.symm]
  exact h
def spLaw (K : PySem.W.Frag) : Sp := fun vs H Q _ => ∃ (a : Addr) (ns : List Int), vs = [.ref a] ∧ SqL K H a (ns.map V.int) ∧ ns.length ≤ 63 ∧ ∀ H', Q (.bl true) H'
theorem But.same_of {p : Addr} {H H1 H2 : Hp} (b : But p H1 H2) (s : Same H H1) (n : H p = none) : Same H H2 := fun q o h => b _ _ (s _ _ h) (ne_of_none h n)
end XR
/-! enumerate of a tuple. -/
namespace PySem
open Sem (wp)
theorem meets_enum1 {v : Value} {o : Obj} {H : Heap → Prop} (B : Begins v o H) :
    Meets (Builtin.«enumerate.__new__» ⟨[.type "enumerate", v], []⟩) (fun _ R s => H s.heap ∧
      R (.ok (.ret (.ref (s.heap.push o).objs.size))) { s with heap := (s.heap.push o).push { cls := .type "enumerate", data := .fields #[.none, .bool false, .ref s.heap.objs.size, rawInt 0, .none, .none] } }) :=
  .of_wp fun prog w A R s h => by
    obtain ⟨hp, g, d, tk, os⟩ := s; obtain ⟨h1, h⟩ := h
    have hsub := sub_enumerate
    have q1 : ∀ {A' : Around} {E : Value → Shared → Prop} {Q : Value → Shared → Prop}, Q (.ref hp.objs.size) ⟨hp.push o, g, d, tk, os⟩ → wpAny (model prog w) A' (pyIter v) Q E ⟨hp, g, d, tk, os⟩ :=
      fun q => B.iter prog w _ _ ⟨hp, g, d, tk, os⟩ _ h1 q
    wp_walk using q1
    refine wpAny_stack_any fun st => wpAny_pure ?_
    split
    · rename_i c _ _ _ _ _
      cases (c == Value.type "enumerate")
      · wp_walk using q1
        exact ⟨_, rfl, h⟩
      · wp_walk using q1
        exact ⟨_, rfl, h⟩
    · wp_walk using q1
      exact ⟨_, rfl, h⟩
section
variable {prog : Program} {w : World} {A : Around} {E : Value → Shared → Prop} {s : Shared}
theorem call_enum1 {v : Value} {o : Obj} {H : Heap → Prop} {Q : Value → Shared → Prop} (B : Begins v o H) (h1 : H s.heap)
    (h : ∀ h', IsEnum h' (s.heap.objs.size + 1) s.heap.objs.size 0 .none → h'.get? s.heap.objs.size = some o → h'.objs.size = s.heap.objs.size + 2 →
      (∀ b o, s.heap.get? b = some o → h'.get? b = some o) → Q (.ref (s.heap.objs.size + 1)) { s with heap := h' }) :
    wpAny (model prog w) A (call (.type "enumerate") [v]) Q E s := by
  refine callType_new F.called_enumerate (by decide) (F.typeCall_enumerate_1 _) (F.newCall_enumerate_1 _) (fun obj => F.args_object_init_2 obj _) F.entry_enumerate_new
    (meets_enum1 B) ⟨h1, ?_⟩
  have hz : (s.heap.push o).objs.size = s.heap.objs.size + 1 := Heap.size_push ..
  show _ ∧ _
  rw [hz]
  have he : IsEnum ((s.heap.push o).push { cls := .type "enumerate", data := .fields #[.none, .bool false, .ref s.heap.objs.size, rawInt 0, .none, .none] }) (s.heap.objs.size + 1) s.heap.objs.size 0 .none := by
    have := Heap.get?_push_size (s.heap.push o) (o := { cls := .type "enumerate", data := .fields #[.none, .bool false, .ref s.heap.objs.size, rawInt 0, .none, .none] }) rfl
    rw [hz] at this; exact this
  refine ⟨⟨_, he, rfl⟩, h _ he (Heap.get?_push_of_some _ (Heap.get?_push_size _ B.free)) (by rw [Heap.size_push, hz]) fun b o x => Heap.get?_push_of_some _ (Heap.get?_push_of_some _ x)⟩
theorem enum_tuple_end {e it t : Addr} {i : Nat} {items : Array Value} {old : Value} {Q : Option Value → Shared → Prop} (hh : A.handled = none)
    (he : IsEnum s.heap e it i old) (hit : s.heap.IsTupleIter it t i) (ht : s.heap.IsTuple t items) (hx : items[i]? = none)
    (hQ : ∀ h', Heap.ExtBut it s.heap h' → Q none { s with heap := h' }) : wpAny (model prog w) A (pyNext (.ref e)) Q E s := by
  have hT : s.TypeIs (.ref e) "enumerate" := ⟨_, he, rfl⟩
  unfold pyNext
  refine wpAny_bind (wpAny_attempt (wpAny_callSpecial?_slot (name := Str.ofString "__next__") hT F.slot_enumerate_next
    (wpAny_call_entry F.slot_enumerate_next hT F.entry_enumerate_next ?_ (F.args_enumerate_next_1 _))))
  show wpAny _ _ (field (.ref e) 2 >>= _) _ _ _
  refine wpAny_bind (wpAny_field he rfl (x := .ref it) rfl ?_)
  refine wpAny_bind (wpAny_nextOf_tuple_end hh hit ht hx fun h' x he' hx' => ?_)
  obtain ⟨o, ho, hc⟩ := hx'
  refine wpAny_bind (wpAny_isInstance (T := "StopIteration") (b := true) ⟨o, ho, hc⟩ isSubtype_stop ?_)
  exact wpAny_pure (hQ _ he')
end
end PySem
namespace XR
open PyProof.Rows hiding St
open PySem L2
def IteT (K : PySem.W.Frag) (a : Addr) : It :=
  ⟨fun i H => ∃ (xs : List V) (x : V), SqT K H a xs ∧ xs[i]? = some x, fun i H v H' => ∃ T x, v = .ref T ∧ H T = none ∧ H' = L2.upd H T (.tup [.int (i : Nat), x]) ∧ ∀ xs, SqT K H a xs → xs[i]? = some x, fun i H => ∃ xs : List V, SqT K H a xs ∧ xs.length ≤ i⟩
theorem turn_enumT {P : Program} {w : World} {K : PySem.W.Frag} {elts : List Expr} {kk : Nat} {tpos : Pos} (a e it : Addr) :
    Turn P w K (.Tuple elts kk tpos) (IteT K a) [e, it] e (fun i h => (∃ old, IsEnum h e it ((i : Nat) : Int) old) ∧ h.IsTupleIter it a i ∧ e ≠ it ∧ e ≠ a ∧ a ≠ it) where
  mem := by simp
  obj := fun i h st b hb => by
    obtain ⟨⟨old, he⟩, ⟨o, ho, hc, hd⟩, _⟩ := st
    have e' : b = e ∨ b = it := by simpa using hb
    rcases e' with z | z
    · rw [z]; exact ⟨_, he, fun v q => nomatch q⟩
    · rw [z]; exact ⟨o, ho, fun v q => by rw [hd] at q; cases q⟩
  keep := fun i h h' st k => let ⟨⟨old, he⟩, hi, hne⟩ := st; ⟨⟨old, k e (by simp) _ he⟩, hi.at fun o q => k it (by simp) o q, hne⟩
  item := by
    intro X hP hw hK hc i pins s σ H E I hf st hg
    subst hP hw hK
    obtain ⟨⟨old, he⟩, hit, hne, hea, hai⟩ := st
    obtain ⟨xs, x, hq, hx⟩ := hg
    obtain ⟨its, rv, p, hz⟩ := I.tuple hq
    have p' : s.heap.IsTuple a its.toArray := p
    obtain ⟨u, hu, ru⟩ := rv.get hx
    have hel : e < s.heap.objs.size := Heap.lt_size he
    have hil : it < s.heap.objs.size := by obtain ⟨_, q, _⟩ := hit; exact Heap.lt_size q
    have hlt : i < its.toArray.size := by
      have := (List.getElem?_eq_some_iff.mp hu).1
      simpa using this
    refine wpAny_pyNext_enum_itemD (Draws.tuple (A := X.A.in1) (I.ok.hd hc) it a hai its.toArray) he ⟨hit, p'⟩ hlt hne (by simp [hne, hea]) fun u' h' tk hu' ho hst' hT hsz hk => ?_
    obtain ⟨hit', _⟩ := hst'
    have eu : u' = u := by
      have h1 : its[i]? = some u' := by simpa using hu'
      rw [hu] at h1
      exact (Option.some.inj h1).symm
    subst eu
    refine ⟨_, rfl, wpAny_letOwnedTupleGo_enum (s := { s with heap := h', toks := tk + 1 }) ho fun h'' he' sb => ?_⟩
    have hT2 : h''.get? s.heap.objs.size = some { cls := .type "tuple", data := .seq #[.int i tk, u'] } := (sb.2 _ (Nat.ne_of_gt hel)).trans hT
    have new : ObjOk X.prog X.w (L2.upd H s.heap.objs.size (.tup [.int (i : Nat), x])) h'' s.heap.objs.size (.tup [.int (i : Nat), x]) :=
      ⟨by show 2 ≤ sizeLine; decide, [.int i tk, u'], .cons ⟨_, rfl⟩ (.cons ru .nil), ⟨_, hT2, rfl, _, rfl⟩⟩
    have I1 : Inv X pins σ (L2.upd H s.heap.objs.size (.tup [.int (i : Nat), x])) { s with heap := h'', toks := tk + 1 } :=
      I.turnedNew (ch := [e, it]) (fun b ob hb q => (sb.2 b (fun z => hb (by simp [z]))).trans (hk b ob (fun z => hb (by simp [z])) (fun z => hb (by simp [z])) q)) hf (Nat.le_refl _) new
    refine ⟨.ref s.heap.objs.size, _, I1, rfl, ⟨_, x, rfl, I.hok.fresh (Nat.le_refl _), rfl, fun ys hy => by rw [I.tuple_inj hy hq]; exact hx⟩, ⟨⟨u', ?_⟩, hit'.at fun o q => (sb.2 it (Ne.symm hne)).trans q, hne, hea, hai⟩, fun b hb => ?_⟩
    · have e1 : ((i + 1 : Nat) : Int) = (i : Int) + 1 := by omega
      rw [e1]; exact he'
    · have hb' : b < s.heap.objs.size := by
        have e' : b = e ∨ b = it := by simpa using hb
        rcases e' with z | z
        · rw [z]; exact hel
        · rw [z]; exact hil
      rw [upd_ne (Nat.ne_of_lt hb')]
      exact (hf b hb).1
  done := by
    intro X hP hw hK hc i pins s σ H E I hf st hg
    subst hP hw hK
    obtain ⟨⟨old, he⟩, hit, hne⟩ := st
    obtain ⟨xs, hq, hx⟩ := hg
    obtain ⟨its, rv, p, hz⟩ := I.tuple hq
    obtain ⟨f0, f1, f2, f3, f4, f5⟩ := hf it (by simp)
    have hl := rv.length
    exact enum_tuple_end (I.ok.hd hc) he hit (show s.heap.IsTuple a its.toArray from p) (by simp; omega) fun h' eb => ⟨rfl, I.turned (t' := s.toks) (fun b o hb q => eb b o hb q) f0 f1 f3 f4 f5⟩
  self := fun A i s Q E st h => let ⟨⟨_, he⟩, _⟩ := st; wpAny_pyIter_enum he h
def iEnumT (K : PySem.W.Frag) (ta : TA) : TI := fun σ H R => ta σ H fun vs H1 => ∃ a xs, vs = [.ref a] ∧ SqT K H1 a xs ∧ R (IteT K a) H1
theorem pi_enumT {X : Cx} {e : Expr} {ta : TA} {p pos tpos : Pos} {elts : List Expr} {kk : Nat} (hg : Gl X "enumerate") (hm : X.mg "enumerate" = none) (ha : PA X [e] ta) (hs : starEach [e] X.env = [(false, eval e X.env)] := by rfl) :
    PI X (.Tuple elts kk tpos) (.Call (.Name "enumerate" p) [e] [] pos) (iEnumT X.K ta) := by
  refine ⟨fun pins s σ H R I h => ?_⟩
  refine Call_ (ld_blt I hg hm boot_enumerate (PyProof.Rows.callWith_type1 (thn (ha.run pos pins s σ H _ I h) fun us s1 ⟨vs, H1, I1, r1, q1⟩ => ?_) hs rfl))
  obtain ⟨a, xs, ex, hq, q⟩ := q1
  subst ex
  cases r1 with
  | cons r rr =>
    cases rr
    cases r
    obtain ⟨its, rv, p', hz⟩ := I1.tuple hq
    have p'' : s1.heap.IsTuple a its.toArray := p'
    have hal : a < s1.heap.objs.size := by obtain ⟨_, q, _⟩ := p''; exact Heap.lt_size q
    refine call_enum1 (begins_tuple a its.toArray) p'' fun h' he hit hsz hk => wpAny_pyIter_enum he ?_
    have I2 : Inv X pins σ H1 { s1 with heap := h' } := I1.kept (t' := s1.toks) hk
    refine ⟨s1.heap.objs.size + 1, [s1.heap.objs.size + 1, s1.heap.objs.size], _, _, H1, rfl, I2, turn_enumT a (s1.heap.objs.size + 1) s1.heap.objs.size, ⟨⟨.none, he⟩, ⟨_, hit, rfl, rfl⟩, Nat.succ_ne_self _, Nat.ne_of_gt (Nat.lt_succ_of_lt hal), Nat.ne_of_lt hal⟩, fun b hb => ?_, q⟩
    have e' : b = s1.heap.objs.size + 1 ∨ b = s1.heap.objs.size := by simpa using hb
    have hle : s1.heap.objs.size ≤ b := by
      rcases e' with z | z
      · rw [z]; exact Nat.le_add_right _ _
      · rw [z]; exact Nat.le_refl _
    exact I1.fpOk hle (I1.hok.fresh hle)
theorem walk_enumT {K : PySem.W.Frag} {a : Addr} {xs : List V} : Walk (IteT K a) xs.length (fun H => SqT K H a xs) (YPair (fun i => some (.int (i : Nat))) (fun i => xs[i]?)) := by
  refine ⟨fun i _ hi q => ⟨xs, xs[i], q, by simp [hi]⟩, fun _ q => ⟨xs, q, Nat.le_refl _⟩, fun i H v H' _ q y => ?_⟩
  obtain ⟨T, x, h1, h2, h3, h4⟩ := y
  exact ⟨T, .int (i : Nat), x, h1, h2, h3, rfl, h4 xs q⟩
end XR
/-! bool or whole number on the left of +, -, ==; a tuple != (); a op b op c op d as a test. -/
namespace XR
open PyProof.Rows hiding St
open PySem L2 PySem.Spec
def numV : V → Option Int
  | .int i => some i
  | .bl b => some (if b = true then 1 else 0)
  | _ => none
def rNum (g : Int → Int → V) : R2 := fun x y H Q => ∃ i j, numV x = some i ∧ y = .int j ∧ Q (g i j) H
section
variable {X : Cx}
theorem op_addN : OpR X (binaryOp .Add) (rNum fun i j => .int (i + j)) := by
  intro pins s σ H x y v u Q I rx ry h
  obtain ⟨i, j, e, rfl, q⟩ := h
  obtain ⟨t', rfl⟩ := ry
  cases x with
  | int a =>
    cases e
    obtain ⟨t, rfl⟩ := rx
    exact add_int ⟨.int (_ + j), H, I.tok _, ⟨_, rfl⟩, q⟩
  | bl b =>
    cases e
    cases rx
    exact PySem.IntBool.add_bool_int ⟨.int (_ + j), H, I.tok _, ⟨_, rfl⟩, q⟩
  | _ => cases e
theorem op_subN2 : OpR X (binaryOp .Sub) (rNum fun i j => .int (i - j)) := by
  intro pins s σ H x y v u Q I rx ry h
  obtain ⟨i, j, e, rfl, q⟩ := h
  obtain ⟨t', rfl⟩ := ry
  cases x with
  | int a =>
    cases e
    obtain ⟨t, rfl⟩ := rx
    exact sub_int ⟨.int (_ - j), H, I.tok _, ⟨_, rfl⟩, q⟩
  | bl b =>
    cases e
    cases rx
    exact PySem.IntBool.sub_bool_int ⟨.int (_ - j), H, I.tok _, ⟨_, rfl⟩, q⟩
  | _ => cases e
theorem op_eqN : OpR X (compareOp .Eq) (rNum fun i j => .bl (decide (i = j))) := by
  intro pins s σ H x y v u Q I rx ry h
  obtain ⟨i, j, e, rfl, q⟩ := h
  obtain ⟨t', rfl⟩ := ry
  cases x with
  | int a =>
    cases e
    obtain ⟨t, rfl⟩ := rx
    exact eq_int (fin_bl I q rfl)
  | bl b =>
    cases e
    cases rx
    exact PySem.EqBoolInt.eq_bool_int (fin_bl I q rfl)
  | _ => cases e
def rNeT0 (K : PySem.W.Frag) : R2 := fun x y H Q => ∃ a b xs, x = .ref a ∧ y = .ref b ∧ SqT K H a xs ∧ SqT K H b [] ∧ Q (.bl (decide (xs ≠ []))) H
theorem op_neT0 {k : Nat} (hr : Room k X.A) : OpR X (compareOp .NotEq) (rNeT0 X.K) := by
  intro pins s σ H x y v u Q I rx ry h
  obtain ⟨a, b, xs, rfl, rfl, h1, h2, q⟩ := h
  cases rx
  cases ry
  obtain ⟨its, rv, p, hz⟩ := I.tuple h1
  obtain ⟨its2, rv2, p2, hz2⟩ := I.tuple h2
  cases rv2
  have p' : s.heap.IsTuple a its.toArray := p
  have p2' : s.heap.IsTuple b #[] := p2
  refine PySem.SeqAt.RcNeAt.tuples (e := fun _ => true) p' p2' (Nat.lt_of_le_of_lt (Nat.le_add_right _ _) (hu_of hr)) (fun j j1 j2 => absurd j2 (Nat.not_lt_zero _)) _ _ _ _ ?_
  refine fin_bl I q ?_
  have hl := rv.length
  cases xs with
  | nil =>
    cases rv
    rfl
  | cons y ys =>
    cases rv
    rfl
def tChain3 (r r' r'' : R2) (ta tb tc td : TE) : TE := fun σ H Q => ta σ H fun x H1 => tb σ H1 fun y H2 => r x y H2 fun z H3 => ∃ k, z = .bl k ∧
  (if k = true then tc σ H3 fun w' H4 => r' y w' H4 fun z2 H5 => ∃ k2, z2 = .bl k2 ∧ (if k2 = true then td σ H5 fun w'' H6 => r'' w' w'' H6 Q else Q (.bl false) H5) else Q (.bl false) H3)
theorem pt_chain3 {a b c d : Expr} {ta tb tc td : TE} {pos : Pos} {op op' op'' : CmpOp} {r r' r'' : R2} (ho : OpR X (compareOp op) r) (ho' : OpR X (compareOp op') r') (ho'' : OpR X (compareOp op'') r'')
    (ha : PE X a ta) (hb : PE X b tb) (hc : PE X c tc) (hd : PE X d td)
    (hm : lastMarks [op, op', op''] [b, c, d] = false := by with_unfolding_all rfl) : PT X (.Compare a [op, op', op''] [b, c, d] pos) (tTest (tChain3 r r' r'' ta tb tc td)) := by
  refine ⟨fun pins s σ H Q I h => ?_⟩
  refine PyProof.Rows.isTrue_chain (thn (ha.run pins s σ H _ I h) fun v s1 ⟨x, H1, I1, r1, q1⟩ => PyProof.Rows.test_link (thn (hb.run pins s1 σ H1 _ I1 q1) fun u s2 ⟨y, H2, I2, r2, q2⟩ =>
    thn (ho pins s2 σ H2 x y v u _ I2 r1 r2 q2) fun d s3 ⟨z, H3, I3, r3, k, e, q3⟩ => ?_)) hm
  subst e
  cases r3
  refine PySem.wpAny_truthy_bool ?_
  cases k with
  | false =>
    obtain ⟨k', e', q'⟩ := q3
    cases e'
    exact ite_ff ⟨H3, I3, q'⟩
  | true =>
    refine ite_tt (PyProof.Rows.test_link (thn (hc.run pins s3 σ H3 _ I3 q3) fun w' s4 ⟨z', H4, I4, r4, q4⟩ => thn (ho' pins s4 σ H4 y z' u w' _ I4 r2 r4 q4) fun d' s5 ⟨z2, H5, I5, r5, k2, e2, q5⟩ => ?_))
    subst e2
    cases r5
    refine PySem.wpAny_truthy_bool ?_
    cases k2 with
    | false =>
      obtain ⟨k', e', q'⟩ := q5
      cases e'
      exact ite_ff ⟨H5, I5, q'⟩
    | true =>
      refine ite_tt (PyProof.Rows.test_last (thn (hd.run pins s5 σ H5 _ I5 q5) fun w2 s6 ⟨z3, H6, I6, r6, q6⟩ => thn (ho'' pins s6 σ H6 z' z3 w' w2 _ I6 r4 r6 q6) fun d2 s7 ⟨z4, H7, I7, r7, k3, e3, q7⟩ => ?_))
      subst e3
      cases r7
      exact PySem.wpAny_truthy_bool ⟨H7, I7, q7⟩
end
end XR
/-! Calls by names alone; try with several clauses 'except C as n' of one name. -/
namespace XR
open PySem PySem.Spec L2
section
variable {X : Cx} {CX : CXT} {k : Nat} {f : Addr} {fd : FuncData} {ps ks : List Str} {sp : Sp} {E : St → XK} {x : Str} {p pos : Pos} {kws : List Keyword} {tk : TA} {g : List Value → List Value → List Value} {gV : List V → List V → List V}
/-- f(k = v, ..), nothing by its place -/
theorem pe_callKw (F : FnOk X.prog X.w X.K X.mg X.base CX k f fd ps sp) (hr : Room k X.A) (hgl : Gl X x) (hm : X.mg x = some (.ref f)) (hk : PySem.W.keepIn X.K (.ref f) = true) (kb : KBinds X.K fd ps ks g gV) (hx : ∀ σ, PassesAt CX X σ (E σ)) (hkw : PK X kws tk)
    (ok1 : (backToKw pos (keywordEach kws X.env)).all (·.1.isSome) = true := by rfl) (ok2 : (backToKw pos (keywordEach kws X.env)).filterMap (·.1) = ks := by rfl) (ok3 : (x == ("__debug__" : Str)) = false := by decide)
    (ok4 : ((backTo pos (starEach [] X.env)).any (·.1) || (backToKw pos (keywordEach kws X.env)).any (·.1.isNone)) = false := by rfl) :
    PE X (.Call (.Name x p) [] kws pos) (fun σ H Q => tk σ H fun zs H1 => sp (gV [] zs) H1 Q (E σ)) := by
  refine ⟨fun pins s σ H Q I h => wpAny_Call_Name_kw (ld_glob I hgl hm ?_ ok3)⟩
  refine PySem.W.callWith_KW0 (h₀ := X.base) I.ok.mod.kin hk ok1 (thn (hkw.run pos pins s σ H _ I h) fun ws t ⟨zs, H2, J, rz, q⟩ => ⟨J.kIn, ?_⟩) ok4
  rw [ok2]
  have r2 : Vals (gV [] zs) (g [] ws) := kb.rel .nil rz
  have hl : (g [] ws).length = ps.length := r2.length.symm.trans (F.len _ _ _ _ q)
  refine wpAny_call (codeAny_mono (F.run X.A X.stack t H2 ⟨[], ks.zip ws⟩ (g [] ws) (gV [] zs) Q (E σ) hr J.env0 (kb.to t [] ws J.kIn hl) r2 q) fun r t' hq => ?_)
  match r, hq with
  | .error e, hq => exact hx σ pins H2 t e t' J hq
  | .ok (.ret u), hq => exact J.after hq
  | .ok .next, hq => exact hq.elim
  | .ok .brk, hq => exact hq.elim
  | .ok .cont, hq => exact hq.elim
end
def turn4 {α : Type} : List α → List α → List α
  | [], [a, b, c, d] => [d, c, b, a]
  | _, _ => []
def turn5 {α : Type} : List α → List α → List α
  | [], [a, b, c, d, e] => [e, d, c, b, a]
  | _, _ => []
theorem turn4_rel {vs : List V} {us : List Value} {zs : List V} {ws : List Value} (r : Vals vs us) (t : Vals zs ws) : Vals (turn4 vs zs) (turn4 us ws) := by
  cases r with
  | cons _ _ => exact .nil
  | nil =>
    cases t with
    | nil => exact .nil
    | cons a t => cases t with
      | nil => exact .nil
      | cons b t => cases t with
        | nil => exact .nil
        | cons c t => cases t with
          | nil => exact .nil
          | cons d t => cases t with
            | nil => exact .cons d (.cons c (.cons b (.cons a .nil)))
            | cons e t => exact .nil
theorem turn5_rel {vs : List V} {us : List Value} {zs : List V} {ws : List Value} (r : Vals vs us) (t : Vals zs ws) : Vals (turn5 vs zs) (turn5 us ws) := by
  cases r with
  | cons _ _ => exact .nil
  | nil =>
    cases t with
    | nil => exact .nil
    | cons a t => cases t with
      | nil => exact .nil
      | cons b t => cases t with
        | nil => exact .nil
        | cons c t => cases t with
          | nil => exact .nil
          | cons d t => cases t with
            | nil => exact .nil
            | cons e t => cases t with
              | nil => exact .cons e (.cons d (.cons c (.cons b (.cons a .nil))))
              | cons f t => exact .nil
theorem turn4_len {us ws : List Value} (h : (turn4 us ws).length = 4) : ∃ a b c d, us = [] ∧ ws = [a, b, c, d] := by
  unfold turn4 at h
  split at h
  · exact ⟨_, _, _, _, rfl, rfl⟩
  · cases h
theorem turn5_len {us ws : List Value} (h : (turn5 us ws).length = 5) : ∃ a b c d e, us = [] ∧ ws = [a, b, c, d, e] := by
  unfold turn5 at h
  split at h
  · exact ⟨_, _, _, _, _, rfl, rfl⟩
  · cases h
section
variable {K : PySem.W.Frag} {x qual : Str} {st : Stmt} {f : Addr} {fd : FuncData} {p1 p2 p3 p4 p5 : Str}
theorem kb4 (F : Fun K x qual st f fd) (h : ∀ (kV doc pm : Value) (an : Option Addr) (cdv ct a b c d : Value), bindArgs (PySem.W.fnOf x qual (defArgs st) (defBody st) (defScope st) .none kV doc pm an cdv ct) ⟨[], [(p4, a), (p3, b), (p2, c), (p1, d)]⟩ = pure [(p1, d), (p2, c), (p3, b), (p4, a)]) :
    KBinds K fd [p1, p2, p3, p4] [p4, p3, p2, p1] turn4 turn4 := by
  obtain ⟨oc, od, kV, doc, pm, an, cdv, ct, osl, rfl, lk, hcd⟩ := F.ex
  refine ⟨fun s us ws _ hl => ?_, turn4_rel⟩
  obtain ⟨a, b, c, d, rfl, rfl⟩ := turn4_len hl
  exact .of_eq (h kV doc pm an cdv ct a b c d)
theorem kb5 (F : Fun K x qual st f fd) (h : ∀ (kV doc pm : Value) (an : Option Addr) (cdv ct a b c d e : Value), bindArgs (PySem.W.fnOf x qual (defArgs st) (defBody st) (defScope st) .none kV doc pm an cdv ct) ⟨[], [(p5, a), (p4, b), (p3, c), (p2, d), (p1, e)]⟩ = pure [(p1, e), (p2, d), (p3, c), (p4, b), (p5, a)]) :
    KBinds K fd [p1, p2, p3, p4, p5] [p5, p4, p3, p2, p1] turn5 turn5 := by
  obtain ⟨oc, od, kV, doc, pm, an, cdv, ct, osl, rfl, lk, hcd⟩ := F.ex
  refine ⟨fun s us ws _ hl => ?_, turn5_rel⟩
  obtain ⟨a, b, c, d, e, rfl, rfl⟩ := turn5_len hl
  exact .of_eq (h kV doc pm an cdv ct a b c d e)
end
/-- behind the suite of 'except C as n' the slot of n is empty -/
def freed (i : Nat) (D : Ends) : Ends := { nx := fun τ G => D.nx (τ.set i none) G, rt := D.rt, bk := fun τ G => D.bk (τ.set i none) G, ct := fun τ G => D.ct (τ.set i none) G }
abbrev Clauses := List (Value × (Addr → Value → Option Addr → TS))
/-- what the clauses, from the first one on, wish of an exception -/
def wishA (K : PySem.W.Frag) (i : Nat) (Wout : WX) (D : Ends) : Clauses → WX
  | [] => Wout
  | (c, ts) :: r => fun cls d σ H => ∃ b, PySem.W.exmOne K cls c = some b ∧ (b = true → ∀ a, H a = none → ts a cls d (freed i D) (σ.set i (some (.ref a))) H) ∧ (b = false → wishA K i Wout D r cls d σ H)
inductive ClausesOk (X : Cx) (n : Str) : List ExceptHandler → Clauses → Prop
  | nil : ClausesOk X n [] []
  | cons {x : Str} {c : Value} {ts : Addr → Value → Option Addr → TS} {st : Stmt} {sts : List Stmt} {np q : Pos} {hl : List ExceptHandler} {l : Clauses} (hc : Names X x c)
      (su : ∀ (a : Addr) (o : Obj) (cls : Value) (d : Option Addr) (pn : List (Addr × Obj)), Zc cls d o → (∃ vs, o.data = .fields vs) → PSs (X.suite a ((a, o) :: pn)) (st :: sts) (ts a cls d)) (r : ClausesOk X n hl l) :
      ClausesOk X n (.ExceptHandler (some (.Name x np)) (some n) (st :: sts) q :: hl) ((c, ts) :: l)
/-- what becomes of an exception that the clauses look at -/
def looked (X : Cx) (hl : List ExceptHandler) (Q : Flow → Shared → Prop) : Value → Shared → Prop := fun e t1 =>
  wpAny (model X.prog X.w) X.A (noteFrame e X.env) (fun _ t2 => wpAny (model X.prog X.w) X.A (setFlight e none) (fun _ t3 => wpAny (model X.prog X.w) X.A (handleBy e X.env hl) Q X.xe t3) X.xe t2) X.xe t1
section
variable {X : Cx} {body : List Stmt} {c₀ : ExceptHandler} {cl : List ExceptHandler} {l : Clauses} {pos : Pos} {tb : WX → TS} {Wout : WX} {i : Nat} {n : Str}
theorem ps_try_asMany (hs : X.stack = X.env :: X.outer) (hf : X.env.frame = some X.env.locals) (hN : X.N.Nodup) (hi : X.N[i]? = some n) (hln : X.env.kindOf n = some .local) (tk : Takes X Wout)
    (hb : ∀ (W : WX) (pn : List (Addr × Obj)) (xe : Value → Shared → Prop), Takes (X.tr pn xe) W → PySem.PassesOwn (model X.prog X.w) X.A X.env xe → PSs (X.tr pn xe) body (tb W)) (hc : ClausesOk X n (c₀ :: cl) l) :
    PS X (.Try body (c₀ :: cl) [] [] pos) (fun D σ H => tb (wishA X.K i Wout D l) D σ H) := by
  refine ⟨fun pins s σ H D I h => ?_⟩
  have ok := I.ok
  have hfr : X.A.frames = some (X.env :: X.outer) := ok.frames.trans (congrArg some hs)
  have hloc : Loc X.env.scope n := .inl hln
  refine wpAny_Try_except (wpAny_mono ((hb (wishA X.K i Wout D l) (X.pn ++ pins) (looked X (c₀ :: cl) (SP X pins D)) (fun u t xx => ?_) PySem.PassesOwn.looking).run [] s σ H D (I.toTry _) h) (fun fl t q => ?_) fun e t he => he)
  · obtain ⟨a, B, sI, pins', σ', H', cls, d, rfl, J', nb, up, sk, na, os, ag, w⟩ := xx
    have J : Inv X pins σ' H' sI := J'.ofTry ok
    rw [show (X.tr (X.pn ++ pins) (looked X (c₀ :: cl) (SP X pins D))).stack = X.env :: X.outer from hs] at sk
    show wpAny (model X.prog X.w) X.A (noteFrame (.ref a) X.env) _ _ _
    refine Sky.land Zc.steady hfr hf sk fun g3 fl3 up3 => ?_
    have J3 : Inv X pins σ' H' { t with heap := g3 } := J.landed nb fl3.1 (up.trans up3) os ag
    obtain ⟨o3, vs3, e3, z3, d3⟩ := fl3.there
    have nofr : a ∉ frs (X.env :: X.outer) := fun hm => by
      obtain ⟨_, o', e', hnf⟩ := fl3.2.2.1.mem hm
      rw [e3] at e'
      cases e'
      exact hnf _ d3
    have nL : a ≠ X.env.locals := fun z => nofr (List.mem_filterMap.mpr ⟨X.env, List.mem_cons_self, hf.trans (congrArg some z.symm)⟩)
    have nF : a ∉ X.fs := fun hm => let ⟨e, he, q⟩ := List.mem_filterMap.mp hm; nofr (List.mem_filterMap.mpr ⟨e, List.mem_cons_of_mem _ he, q⟩)
    have S3 := J3.suite e3 d3 na nL nF
    have go : ∀ {hl : List ExceptHandler} {k : Clauses}, ClausesOk X n hl k → wishA X.K i Wout D k cls d σ' H' →
        wpAny (model X.prog X.w) X.A (handleBy (.ref a) X.env hl) (SP X pins D) X.xe { t with heap := g3 } := by
      intro hl k hk
      induction hk with
      | nil =>
        intro w
        refine wpAny_handleBy_nil ?_
        obtain ⟨k1, k2, k3, oe, vs, T, oT, ts', he, hz, hd, h1, hr⟩ := id fl3
        unfold PySem.passOn
        refine wpAny_bind (wpAny_field he hd h1 ?_)
        rw [if_neg (by simp : ¬ ((Value.ref T == Value.none) = true))]
        have out : wpAny (model X.prog X.w) X.A (setFlight (.ref a) X.env.frame) (fun _ t4 => wpAny (model X.prog X.w) X.A (throw (.ref a) : Sem Flow) (SP X pins D) X.xe t4) X.xe { t with heap := g3 } := by
          rw [hf]
          exact HandSPX.setFlight_upZ fl3 fun g4 hh4 up4 => wpAny_throw (tk _ _ ⟨a, B, sI, pins, σ', H', cls, d, rfl, J, nb, (up.trans up3).trans up4, .inr (.inr (by rw [hs]; exact hh4)), na, os, ag, w⟩)
        first
          | exact wpAny_bind (wpAny_pure (wpAny_bind out))
          | exact wpAny_bind out
      | @cons x c ts st sts np q hl2 l2 hc su r ih =>
        intro w
        obtain ⟨b, hb1, yes, no⟩ := w
        refine wpAny_handleBy_cons (codeAny_handlers_test ?_) (fun q => nomatch q)
        have LT : PySem.W.Looks (model X.prog X.w) g3 (typeOf (.ref a)) cls := fun A Q E t k q => wpAny_typeOf_ref (k _ _ e3) (by rw [z3.1]; exact q)
        have test : ∀ {Q : Value → Shared → Prop} {E : Value → Shared → Prop}, Q c { t with heap := g3 } → wpAny (model X.prog X.w) (X.A.mark (some (.ref a))) (eval (.Name x np) X.env) Q E { t with heap := g3 } := fun {Q E} q => by
          obtain ⟨hg, hdb, hm | ⟨hm, hv, hnn⟩⟩ := hc
          · exact ld_glob (X := X.suite a ((a, o3) :: (X.pn ++ pins))) S3 hg hm q hdb
          · exact ld_blt (X := X.suite a ((a, o3) :: (X.pn ++ pins))) S3 hg hm hv q hnn hdb
        refine test ((PySem.W.exm_one (M := model X.prog X.w) J3.kIn LT hb1).here ?_)
        cases b with
        | false => exact ih (no rfl)
        | true =>
          refine codeAny_handlers_suite_as (HandSPX.lands_againZ fl3 fun g4 fl4 up4 => ?_)
          have J4 : Inv X pins σ' H' { t with heap := g4 } := J.landed nb fl4.1 ((up.trans up3).trans up4) os ag
          obtain ⟨o4, vs4, e4, z4, d4⟩ := fl4.there
          refine store_ok (X := X.suite a ((a, o4) :: (X.pn ++ pins))) (v := .ref a) (J4.suite e4 d4 na nL nF) hN hi hloc rfl (fun t5 S5 => ?_) (.inr hln)
          refine wpAny_mono ((su a o4 cls d (X.pn ++ pins) z4 ⟨_, d4⟩).run [] t5 _ H' _ S5 (yes rfl a na)) (fun fl t6 hsp => ?_) (fun _ _ z => z.elim)
          have gone : ∀ {σ6 : St} {H6 : Hp} {Q : Shared → Prop}, Inv (X.suite a ((a, o4) :: (X.pn ++ pins))) [] σ6 H6 t6 → (∀ t7, Inv X pins (σ6.set i none) H6 t7 → Q t7) →
              wpAny (model X.prog X.w) X.A (do bindName X.env n .none; unbindBehindTheSuite X.env n q) (fun _ t7 => Q t7) X.xe t6 := fun {σ6 H6 Q} S6 hq => gone_ok (S6.unsuite ok) hN hi hln hq
          cases fl with
          | ret u =>
            obtain ⟨v6, σ6, H6, S6, r6, q6⟩ := hsp
            exact gone S6 fun t7 J7 => ⟨_, _, _, J7, r6, q6⟩
          | next =>
            obtain ⟨σ6, H6, S6, q6⟩ := hsp
            exact gone S6 fun t7 J7 => ⟨_, _, J7, q6⟩
          | brk =>
            obtain ⟨σ6, H6, S6, q6⟩ := hsp
            exact gone S6 fun t7 J7 => ⟨_, _, J7, q6⟩
          | cont =>
            obtain ⟨σ6, H6, S6, q6⟩ := hsp
            exact gone S6 fun t7 J7 => ⟨_, _, J7, q6⟩
    exact go hc w
  · cases fl with
    | ret u =>
      obtain ⟨v, τ, G, J', r, z⟩ := q
      exact ⟨v, τ, G, J'.ofTry ok, r, z⟩
    | next =>
      obtain ⟨τ, G, J', z⟩ := q
      exact wpAny_execs_nil ⟨τ, G, J'.ofTry ok, z⟩
    | brk =>
      obtain ⟨τ, G, J', z⟩ := q
      exact ⟨τ, G, J'.ofTry ok, z⟩
    | cont =>
      obtain ⟨τ, G, J', z⟩ := q
      exact ⟨τ, G, J'.ofTry ok, z⟩
end
end XR
/-! isinstance of a caught own exception that has a dict. -/
namespace XR
open PySem PySem.Spec L2
def rIsH (K : PySem.W.Frag) (a : Addr) (cls : Value) (d : Option Addr) : List V → Hp → VK → Prop := fun xs H Q => ∃ (C dd : Addr) (fs : List (Str × V)) (c : V) (cv : Value) (b : Bool), xs = [.ref a, c] ∧ cls = .ref C ∧ d = some dd ∧ ClsR K C ∧ H dd = some (.xd fs) ∧ (∀ u, RelV c u → u = cv) ∧ PySem.W.kitOne K (.ref C) cv = some b ∧ Q (.bl b) H
theorem call_isH {X : Cx} {a : Addr} {oe : Obj} {cls : Value} {d : Option Addr} {pn : List (Addr × Obj)} (hz : Zc cls d oe) (hf : ∃ vs, oe.data = .fields vs) : CallR (X.suite a ((a, oe) :: pn)) (.builtin "isinstance") (rIsH X.K a cls d) := by
  intro pins s σ H xs us Q I r h
  obtain ⟨C, dd, fs, c, cv, b, rfl, rfl, rfl, T, ea, hc, e, q⟩ := h
  obtain ⟨u1, u2, rfl, r1, r2⟩ := vals2 r
  cases r1
  obtain rfl := hc _ r2
  obtain ⟨ha, _⟩ := I.pin (a, oe) (List.mem_append_left _ List.mem_cons_self)
  obtain ⟨vs, hd⟩ := hf
  have hx : ObjOk X.prog X.w H s.heap dd (.xd fs) := I.hok dd _ ea
  obtain ⟨mA, hns, hr⟩ := hx
  obtain ⟨od, ho, hl⟩ := lookIn_ns hns
  have J : PySem.W.InstAt s.heap a oe C (some od) := ⟨ha, hz.1, by unfold PySem.W.notCls; rw [hd] <;> rfl, by rw [hz.2]; exact ho⟩
  exact PySem.W.kia_one (PySem.W.kitx_exc T.cl T.ga T.gt T.sb T.ca T.sp T.tk T.mo) I.kIn J e (fun z => nomatch z) fun tk => ⟨.bl b, H, I.kept (t' := tk) fun _ _ z => z, rfl, q⟩
end XR
namespace XR
open PySem L2
def isTup (n : Int) : PyData → Bool
  | .tuple ds => decide ((ds.length : Int) = n)
  | _ => false
def spTup (K : PySem.W.Frag) : Sp := fun vs H Q _ => ∃ (x : V) (d : PyData) (n : Int), vs = [x, .int n] ∧ Dq K H x d ∧ ∀ H', Same H H' → Q (.bl (isTup n d)) H'
def linesB : PyData → Bool
  | .tuple ds => decide (ds.length ≤ 60) && ds.all isLine
  | _ => false
def isClashWord : PyData → Bool
  | .str s => decide (s = ("clash" : Str))
  | _ => false
def rngB : PyData → PyData → Bool
  | .int i, .int j => decide (0 ≤ i) && (decide (i ≤ j) && decide (j ≤ 60))
  | _, _ => false
def clashB : PyData → Bool
  | .tuple [c, a, b, o, t] => isClashWord c && (rngB a b && (linesB o && linesB t))
  | _ => false
def tokB (d : PyData) : Bool := isLine d || clashB d
def rowB : PyData → Bool
  | .tuple ds => decide (ds.length ≤ 180) && ds.all tokB
  | _ => false
def tupB : PyData → Bool
  | .tuple _ => true
  | _ => false
theorem linesB_tup (ds : List PyData) : linesB (.tuple ds) = (decide (ds.length ≤ 60) && ds.all isLine) := rfl
theorem rowB_tup (ds : List PyData) : rowB (.tuple ds) = (decide (ds.length ≤ 180) && ds.all tokB) := rfl
theorem five_of {K : PySem.W.Frag} {H : Hp} {xs : List V} {ds : List PyData} (h : DqAll K H xs ds) (e : ds.length = 5) :
    ∃ d0 d1 d2 d3 d4 x0 x1 x2 x3 x4, ds = [d0, d1, d2, d3, d4] ∧ xs = [x0, x1, x2, x3, x4] ∧ Dq K H x0 d0 ∧ Dq K H x1 d1 ∧ Dq K H x2 d2 ∧ Dq K H x3 d3 ∧ Dq K H x4 d4 := by
  rcases ds with _ | ⟨d0, _ | ⟨d1, _ | ⟨d2, _ | ⟨d3, _ | ⟨d4, _ | ⟨d5, ds⟩⟩⟩⟩⟩⟩
  all_goals first
    | (simp at e; done)
    | skip
  cases h with
  | cons a0 h =>
    cases h with
    | cons a1 h =>
      cases h with
      | cons a2 h =>
        cases h with
        | cons a3 h =>
          cases h with
          | cons a4 h =>
            cases h
            exact ⟨_, _, _, _, _, _, _, _, _, _, rfl, rfl, a0, a1, a2, a3, a4⟩
theorem not5 {ds : List PyData} (h : ds.length ≠ 5) : clashB (.tuple ds) = false := by
  rcases ds with _ | ⟨d0, _ | ⟨d1, _ | ⟨d2, _ | ⟨d3, _ | ⟨d4, _ | ⟨d5, ds⟩⟩⟩⟩⟩⟩
  all_goals first
    | rfl
    | exact absurd rfl h
end XR
namespace K65
open PySem L2 XR
def top (i : Nat) : Stmt := PySem.Challenge.pw_alldiffs_k65_clashes_resolved.main.body.getD i (.Pass ⟨0, 0, 0, 0⟩)
structure Blt (mg : Str → Option Value) : Prop where
  all : ∀ x : Str, x ∈ (["len", "abs", "max", "min", "int", "divmod", "repr", "isinstance", "enumerate", "range", "all", "super", "tuple", "bool", "str", "list"] : List Str) → mg x = none
abbrev sWhole : Stmt := top 5
abbrev sIsTuple : Stmt := top 7
abbrev sLine : Stmt := top 10
abbrev sIsClash : Stmt := top 13
abbrev sIsRow : Stmt := top 14
abbrev sClashL : Stmt := top 15
abbrev sLines : Stmt := top 16
section
variable {P : Program} {w : World} {K : PySem.W.Frag} {mg : Str → Option Value} {base : Heap}
def Blt.len {mg : Str → Option Value} (T : Blt mg) : mg "len" = none := T.all _ (by decide)
def Blt.max {mg : Str → Option Value} (T : Blt mg) : mg "max" = none := T.all _ (by decide)
def Blt.int {mg : Str → Option Value} (T : Blt mg) : mg "int" = none := T.all _ (by decide)
def Blt.min {mg : Str → Option Value} (T : Blt mg) : mg "min" = none := T.all _ (by decide)
def Blt.range {mg : Str → Option Value} (T : Blt mg) : mg "range" = none := T.all _ (by decide)
def Blt.repr {mg : Str → Option Value} (T : Blt mg) : mg "repr" = none := T.all _ (by decide)
def Blt.tuple {mg : Str → Option Value} (T : Blt mg) : mg "tuple" = none := T.all _ (by decide)
def Blt.list {mg : Str → Option Value} (T : Blt mg) : mg "list" = none := T.all _ (by decide)
def Blt.str {mg : Str → Option Value} (T : Blt mg) : mg "str" = none := T.all _ (by decide)
def Blt.bool {mg : Str → Option Value} (T : Blt mg) : mg "bool" = none := T.all _ (by decide)
def Blt.isin {mg : Str → Option Value} (T : Blt mg) : mg "isinstance" = none := T.all _ (by decide)
def Blt.enum {mg : Str → Option Value} (T : Blt mg) : mg "enumerate" = none := T.all _ (by decide)
theorem scWhole : FnScope ["value"] ["value"] (defScope sWhole) := ⟨rfl, rfl, rfl, by decide +kernel, rfl, by decide +kernel, by decide +kernel⟩
theorem ok_whole {f : Addr} {fd : FuncData} (F : Fun K "is_whole" "is_whole" sWhole f fd) (T : Blt mg) : FnOk P w K mg base CX0 1 f fd ["value"] (spJudge K isWhole) := by
  refine F.ok scWhole (fun vs H Q E h => ?_) (fun cdv A outer s H vs Q E hr h => ?_)
  · obtain ⟨x, d, rfl, _⟩ := h
    rfl
  · obtain ⟨x, d, rfl, hd, z⟩ := h
    refine ⟨_, pss_one (ps_ret (pe_and (pe_callB call_isi (by rfl) T.isin (by decide +kernel) (pa_cons (pv 0) (pa_cons (pe_bltn (v := .ty "int") (u := .type "int") (by rfl) T.int (by decide +kernel) rfl) pa_nil))) (pe_one (pe_not (pe_callB call_isi (by rfl) T.isin (by decide +kernel) (pa_cons (pv 0) (pa_cons (pe_bltn (v := .ty "bool") (u := .type "bool") (by rfl) T.bool (by decide +kernel) rfl) pa_nil))))))), ?_⟩
    refine ⟨_, rfl, x, _, _, _, _, rfl, .ty "int", hd.ty, kit_ty (kit_int d), _, rfl, ?_⟩
    have zz := z H (fun _ _ e => e)
    cases d <;> first
      | exact iteF zz
      | exact iteT ⟨_, rfl, x, _, _, _, _, rfl, .ty "bool", hd.ty, kit_ty (kit_bool _), _, rfl, zz⟩
theorem scLine : FnScope ["value"] ["value"] (defScope sLine) := ⟨rfl, rfl, rfl, by decide +kernel, rfl, by decide +kernel, by decide +kernel⟩
theorem ok_line {f : Addr} {fd : FuncData} (F : Fun K "is_line" "is_line" sLine f fd) (T : Blt mg) : FnOk P w K mg base CX0 1 f fd ["value"] (spJudge K isLine) := by
  refine F.ok scLine (fun vs H Q E h => ?_) (fun cdv A outer s H vs Q E hr h => ?_)
  · obtain ⟨x, d, rfl, _⟩ := h
    rfl
  · obtain ⟨x, d, rfl, hd, z⟩ := h
    refine ⟨_, pss_one (ps_ret (pe_and (pe_callB call_isi (by rfl) T.isin (by decide +kernel) (pa_cons (pv 0) (pa_cons (pe_bltn (v := .ty "str") (u := .type "str") (by rfl) T.str (by decide +kernel) rfl) pa_nil))) (pe_one (pe_cmpR op_notIn_sign pe_str (pv 0) (by rfl))))), ?_⟩
    refine ⟨_, rfl, x, _, _, _, _, rfl, .ty "str", hd.ty, kit_ty (kit_str d), _, rfl, ?_⟩
    have zz := z H (fun _ _ e => e)
    cases d <;> first
      | exact iteF zz
      | skip
    cases hd
    exact iteT ⟨_, rfl, _, _, rfl, rfl, zz⟩
theorem scTup : FnScope ["value", "many"] ["value", "many"] (defScope sIsTuple) := ⟨rfl, rfl, rfl, by decide +kernel, rfl, by decide +kernel, by decide +kernel⟩
theorem ok_tup {f : Addr} {fd : FuncData} (F : Fun K "is_tuple" "is_tuple" sIsTuple f fd) (T : Blt mg) : FnOk P w K mg base CX0 1 f fd ["value", "many"] (spTup K) := by
  refine F.ok scTup (fun vs H Q E h => ?_) (fun cdv A outer s H vs Q E hr h => ?_)
  · obtain ⟨x, d, n, rfl, _⟩ := h
    rfl
  · obtain ⟨x, d, n, rfl, hd, z⟩ := h
    refine ⟨_, pss_one (ps_ret (pe_and (pe_callB call_isi (by rfl) T.isin (by decide +kernel) (pa_cons (pv 0) (pa_cons (pe_bltn (v := .ty "tuple") (u := .type "tuple") (by rfl) T.tuple (by decide +kernel) rfl) pa_nil)))
      (pe_one (pe_cmpR op_eq (pe_callB call_len_seq (by rfl) T.len PySem.boot_len (pa_cons (pv 0) pa_nil)) (pv 1) (nomark _))))), ?_⟩
    refine ⟨_, rfl, x, _, _, _, _, rfl, .ty "tuple", hd.ty, kit_ty (kit_tuple d), _, rfl, ?_⟩
    have zz := z H (fun _ _ e => e)
    cases hd with
    | @tup a xs ds h1 h2 =>
      refine iteT ⟨_, rfl, a, xs, rfl, .inr h1, _, rfl, rfl, ?_⟩
      have e : decide (V.int ((xs.length : Nat) : Int) = V.int n) = isTup n (.tuple ds) := by
        show _ = decide ((ds.length : Int) = n)
        rw [h2.length]
        simp
      rw [e]
      exact zz
    | _ => exact iteF zz
theorem scIsClash : FnScope ["token"] ["token"] (defScope sIsClash) := ⟨rfl, rfl, rfl, by decide +kernel, rfl, by decide +kernel, by decide +kernel⟩
theorem ok_isClash {f : Addr} {fd : FuncData} (F : Fun K "is_clash" "is_clash" sIsClash f fd) (T : Blt mg) : FnOk P w K mg base CX0 1 f fd ["token"] (spJudge K tupB) := by
  refine F.ok scIsClash (fun vs H Q E h => ?_) (fun cdv A outer s H vs Q E hr h => ?_)
  · obtain ⟨x, d, rfl, _⟩ := h
    rfl
  · obtain ⟨x, d, rfl, hd, z⟩ := h
    refine ⟨_, pss_one (ps_ret (pe_callB call_isi (by rfl) T.isin (by decide +kernel) (pa_cons (pv 0) (pa_cons (pe_bltn (v := .ty "tuple") (u := .type "tuple") (by rfl) T.tuple (by decide +kernel) rfl) pa_nil)))), ?_⟩
    refine ⟨_, rfl, x, _, _, _, _, rfl, .ty "tuple", hd.ty, kit_ty (kit_tuple d), ?_⟩
    have zz := z H (fun _ _ e => e)
    cases d <;> exact zz
theorem scLines : FnScope ["value", "line"] ["value"] (defScope sLines) := ⟨rfl, rfl, rfl, by decide +kernel, rfl, by decide +kernel, by decide +kernel⟩
theorem ok_lines {f fI : Addr} {fd fdI : FuncData} {tm : Nat} (F : Fun K "is_tuple_of_lines" "is_tuple_of_lines" sLines f fd) (T : Blt mg) (mM : mg "MOST" = some (.int 60 tm))
    (FI : Fun K "is_line" "is_line" sLine fI fdI) (bI : Binds K fdI ["value"] []) (mI : mg "is_line" = some (.ref fI)) : FnOk P w K mg base CX0 2 f fd ["value"] (spJudge K linesB) := by
  have GI := ok_line (P := P) (w := w) (base := base) FI T
  refine F.ok scLines (fun vs H Q E h => ?_) (fun cdv A outer s H vs Q E hr h => ?_)
  · obtain ⟨x, d, rfl, _⟩ := h
    rfl
  · obtain ⟨x, d, rfl, hd, z⟩ := h
    refine ⟨_, pss_one (ps_ret (pe_and (pe_callB call_isi (by rfl) T.isin (by decide +kernel) (pa_cons (pv 0) (pa_cons (pe_bltn (v := .ty "tuple") (u := .type "tuple") (by rfl) T.tuple (by decide +kernel) rfl) pa_nil))) (pe_and (pe_cmpR op_le (pe_callB call_len_seq (by rfl) T.len PySem.boot_len (pa_cons (pv 0) pa_nil)) (pe_glob (v := .int 60) (by rfl) mM ⟨_, rfl⟩) (nomark _))
        (pe_one (pe_callB (cr_all rfl) (by rfl) (T.all "all" (by decide)) (by decide +kernel) (pa_cons (pe_lc (own := [("line", 1)]) (g := gName 1) (tt := tYes) (te := tCall (spJudge K isLine) [] E0 (tCons (tVar 1) tNil)) rfl scLines.nd (pi_tup (pv 0))
          (blkOk_by (own := [("line", 1)]) (N := ["value", "line"]) (sc := defScope sLines) (by decide +kernel)) (fun _ _ _ _ _ => pg_name (i := 1) scLines.nd rfl (Or.inl rfl)) (fun _ _ _ _ _ => pts_nil)
          (fun _ _ _ _ _ => pe_call GI hr rfl mI FI.kp bI .nil pass0 (pa_cons (pv 1) pa_nil))) pa_nil)))))), ?_⟩
    refine ⟨_, rfl, x, _, _, _, _, rfl, .ty "tuple", hd.ty, kit_ty (kit_tuple d), _, rfl, ?_⟩
    have zz := z H (fun _ _ e => e)
    cases hd with
    | @tup a xs ds h1 h2 =>
      refine iteT ⟨_, rfl, a, xs, rfl, .inr h1, _, _, rfl, rfl, _, rfl, ?_⟩
      have hlen := h2.length
      refine ite2 (fun c1 => ?_) (fun c1 => ?_)
      · have c2 : xs.length ≤ 60 := by have := of_decide_eq_true c1; omega
        refine ⟨_, rfl, a, rfl, ⟨_, h1⟩, fun D nD => ?_⟩
        have sD := same_upd (o := .lst []) nD
        refine lc_tup (K := K) (a := a) (xs := xs) (fun i H' => Same H H' ∧ H' D = some (.lst (((ds.take i).map isLine).map V.bl))) ⟨sD, upd_same⟩ (fun i H' _ hh => XR.Same.tup hh.1 h1) ?_ ?_
        · rintro i x H' hx ⟨sm, hD⟩
          obtain ⟨d, hd1, hd2⟩ := h2.get hx
          refine ⟨rfl, ?_⟩
          unfold tYes
          dsimp only
          rw [if_pos rfl]
          have fin : ∀ H2, Same H' H2 → (∃ l, H2 D = some (.lst l) ∧ l.length < sizeLine ∧ (∀ b o, H b = some o → upd H2 D (.lst (l ++ [V.bl (isLine d)])) b = some o) ∧ upd H2 D (.lst (l ++ [V.bl (isLine d)])) D = some (.lst (((ds.take (i + 1)).map isLine).map V.bl))) := by
            intro H2 s2
            refine ⟨_, s2 _ _ hD, ?_, fun b o h => ?_, ?_⟩
            · rw [List.length_map, List.length_map]
              have c3 : (ds.take i).length ≤ 60 := by rw [List.length_take]; omega
              exact Nat.lt_of_le_of_lt c3 (by decide)
            · rw [upd_ne (ne_of_none h nD)]
              exact s2 _ _ (sm _ _ h)
            · rw [upd_same, List.take_add_one, hd1, List.map_append, List.map_append]
              rfl
          exact ⟨_, rfl, x, d, rfl, hd2.same sm, fun H2 s2 => fin H2 s2⟩
        · rintro H' ⟨sm, hD⟩
          refine ⟨D, ds.map isLine, rfl, SqL.of (by rw [hD, hlen, List.take_length]), ?_⟩
          have e : (ds.map isLine).all id = linesB (.tuple ds) := by
            rw [linesB_tup]
            rw [List.all_map, decide_eq_true (show ds.length ≤ 60 by omega)]
            rfl
          rw [e]
          exact z _ sm
      · have e : linesB (.tuple ds) = false := by
          have c2 : ¬ ds.length ≤ 60 := fun h => c1 (decide_eq_true (by omega))
          rw [linesB_tup]
          rw [decide_eq_false c2]
          rfl
        rw [e] at zz
        exact zz
    | _ => exact iteF zz
end
end K65
namespace K65
open PySem L2 XR
section
variable {P : Program} {w : World} {K : PySem.W.Frag} {mg : Str → Option Value} {base : Heap}
theorem scClashL : FnScope ["value", "_", "a", "b", "ones", "twos"] ["value"] (defScope sClashL) := ⟨rfl, rfl, rfl, by decide +kernel, rfl, by decide +kernel, by decide +kernel⟩
theorem ok_clashL {f fT fW fL : Addr} {fd fdT fdW fdL : FuncData} {tm : Nat} (F : Fun K "is_clash_of_lines" "is_clash_of_lines" sClashL f fd) (T : Blt mg) (mM : mg "MOST" = some (.int 60 tm))
    (FT : Fun K "is_tuple" "is_tuple" sIsTuple fT fdT) (bT : Binds K fdT ["value", "many"] []) (mT : mg "is_tuple" = some (.ref fT))
    (FW : Fun K "is_whole" "is_whole" sWhole fW fdW) (bW : Binds K fdW ["value"] []) (mW : mg "is_whole" = some (.ref fW))
    (FL : Fun K "is_tuple_of_lines" "is_tuple_of_lines" sLines fL fdL) (GL : FnOk P w K mg base CX0 2 fL fdL ["value"] (spJudge K linesB)) (bL : Binds K fdL ["value"] []) (mL : mg "is_tuple_of_lines" = some (.ref fL)) : FnOk P w K mg base CX0 3 f fd ["value"] (spJudge K clashB) := by
  have GT := ok_tup (P := P) (w := w) (base := base) FT T
  have GW := ok_whole (P := P) (w := w) (base := base) FW T
  refine F.ok scClashL (fun vs H Q E h => ?_) (fun cdv A outer s H vs Q E hr h => ?_)
  · obtain ⟨x, d, rfl, _⟩ := h
    rfl
  · obtain ⟨x, d, rfl, hd, z⟩ := h
    have hr1 := hr.mono (show 1 ≤ 2 by decide)
    refine ⟨_, pss_cons (ps_if (PW.pt (pw_or (pt_not (pt_val (pe_call GT hr1 rfl mT FT.kp bT .nil pass0 (pa_cons (pv 0) (pa_cons pe_int pa_nil)))))
        (pw_or (pt_not (pt_val (pe_callB call_isi (by rfl) T.isin (by decide +kernel) (pa_cons (pe_ix ix_tup (pv 0) pe_int (fun _ _ => rfl)) (pa_cons (pe_bltn (v := .ty "str") (u := .type "str") (by rfl) T.str (by decide +kernel) rfl) pa_nil))))) (pw_or1 (pt_cmpR op_ne (pe_ix ix_tup (pv 0) pe_int (fun _ _ => rfl)) pe_str (nomark _)))))) (pss_one (ps_ret pe_bl)) pss_nil)
      (pss_cons (ps_asg (pv 0) (pg_tup rfl (pgs_cons (pg_name (i := 1) scClashL.nd rfl (.inl rfl)) (pgs_cons (pg_name (i := 2) scClashL.nd rfl (.inl rfl)) (pgs_cons (pg_name (i := 3) scClashL.nd rfl (.inl rfl)) (pgs_cons (pg_name (i := 4) scClashL.nd rfl (.inl rfl)) (pgs_cons (pg_name (i := 5) scClashL.nd rfl (.inl rfl)) pgs_nil)))))))
      (pss_cons (ps_if (PW.pt (pw_or (pt_not (pt_val (pe_call GW hr1 rfl mW FW.kp bW .nil pass0 (pa_cons (pv 2) pa_nil)))) (pw_or (pt_not (pt_val (pe_call GW hr1 rfl mW FW.kp bW .nil pass0 (pa_cons (pv 3) pa_nil)))) (pw_or1 (pt_not (pt_chain3 op_le op_le op_le pe_int (pv 2) (pv 3) (pe_glob (v := .int 60) (by rfl) mM ⟨_, rfl⟩))))))) (pss_one (ps_ret pe_bl)) pss_nil)
      (pss_one (ps_ret (pe_and (pe_call GL hr rfl mL FL.kp bL .nil pass0 (pa_cons (pv 4) pa_nil)) (pe_one (pe_call GL hr rfl mL FL.kp bL .nil pass0 (pa_cons (pv 5) pa_nil)))))))), ?_⟩
    refine ⟨_, rfl, x, d, 5, rfl, hd, fun H1 s1 => ⟨_, rfl, ?_⟩⟩
    have zz := z H1 s1
    cases e5 : isTup 5 d with
    | false =>
      refine iteT (iteT ?_)
      have e : clashB d = false := by
        cases d with
        | tuple ds =>
          refine not5 fun h => ?_
          have : isTup 5 (.tuple ds) = true := decide_eq_true (by omega)
          rw [this] at e5
          cases e5
        | _ => rfl
      rw [e] at zz
      exact zz
    | true =>
      refine iteF ?_
      cases hd with
      | @tup a xs ds h1 h2 =>
        have hl : ds.length = 5 := by have := of_decide_eq_true e5; omega
        obtain ⟨d0, d1, d2, d3, d4, x0, x1, x2, x3, x4, rfl, rfl, a0, a1, a2, a3, a4⟩ := five_of h2 hl
        have ht := XR.Same.tup s1 h1
        refine ⟨_, rfl, a, _, _, _, rfl, rfl, ht, atI_nat (xs := [x0, x1, x2, x3, x4]) (j := 0) rfl, x0, _, _, _, _, rfl, .ty "str", (a0.same s1).ty, kit_ty (kit_str d0), _, rfl, ?_⟩
        cases d0 with
        | str s0 =>
          cases a0
          refine iteF ⟨_, rfl, a, _, _, _, rfl, rfl, ht, atI_nat (xs := [V.str s0, x1, x2, x3, x4]) (j := 0) rfl, rfl, _, rfl, ?_⟩
          have ez : clashB (.tuple [.str s0, d1, d2, d3, d4]) = (decide (s0 = ("clash" : Str)) && (rngB d1 d2 && (linesB d3 && linesB d4))) := rfl
          rw [ez] at zz
          refine ite2 (fun c0 => ?_) (fun c0 => ?_)
          · have q0 : s0 ≠ ("clash" : Str) := fun h => by rw [h] at c0; simp at c0
            rw [decide_eq_false q0] at zz
            exact zz
          · have q0 : s0 = ("clash" : Str) := by
              by_cases h : s0 = ("clash" : Str)
              · exact h
              · exact absurd (by simp [h]) c0
            rw [decide_eq_true q0] at zz
            refine ⟨_, rfl, a, _, rfl, ht, rfl, _, _, rfl, _, _, rfl, _, _, rfl, _, _, rfl, _, _, rfl, rfl, ?_⟩
            refine ⟨_, rfl, x1, d1, rfl, a1.same s1, fun H2 s2 => ⟨_, rfl, ?_⟩⟩
            have z2 := z H2 (s1.trans s2)
            rw [ez, decide_eq_true q0] at z2
            cases d1 with
            | int i =>
              cases a1
              refine iteF ⟨_, rfl, x2, d2, rfl, (a2.same s1).same s2, fun H3 s3 => ⟨_, rfl, ?_⟩⟩
              have z3 := z H3 ((s1.trans s2).trans s3)
              rw [ez, decide_eq_true q0] at z3
              cases d2 with
              | int j =>
                cases a2
                have er : rngB (.int i) (.int j) = (decide (0 ≤ i) && (decide (i ≤ j) && decide (j ≤ 60))) := rfl
                rw [er] at z3
                refine iteF ⟨_, rfl, _, _, rfl, rfl, _, rfl, ?_⟩
                by_cases c1 : (0 : Int) ≤ i
                · rw [decide_eq_true c1] at z3 ⊢
                  refine iteT ⟨_, rfl, _, _, rfl, rfl, _, rfl, ?_⟩
                  by_cases c2 : i ≤ j
                  · rw [decide_eq_true c2] at z3 ⊢
                    refine iteT ⟨_, _, rfl, rfl, _, rfl, ?_⟩
                    by_cases c3 : j ≤ 60
                    · rw [decide_eq_true c3] at z3 ⊢
                      refine iteF ⟨_, rfl, x3, d3, rfl, ((a3.same s1).same s2).same s3, fun H4 s4 => ⟨_, rfl, ?_⟩⟩
                      have z4 := z H4 (((s1.trans s2).trans s3).trans s4)
                      rw [ez, decide_eq_true q0, er, decide_eq_true c1, decide_eq_true c2, decide_eq_true c3] at z4
                      cases e3 : linesB d3 with
                      | false =>
                        rw [e3] at z4
                        exact iteF z4
                      | true =>
                        refine iteT ⟨_, rfl, x4, d4, rfl, (((a4.same s1).same s2).same s3).same s4, fun H5 s5 => ?_⟩
                        have z5 := z H5 ((((s1.trans s2).trans s3).trans s4).trans s5)
                        rw [ez, decide_eq_true q0, er, decide_eq_true c1, decide_eq_true c2, decide_eq_true c3, e3] at z5
                        exact z5
                    · rw [decide_eq_false c3] at z3 ⊢
                      exact iteT z3
                  · rw [decide_eq_false c2] at z3 ⊢
                    exact iteF ⟨_, rfl, iteT z3⟩
                · rw [decide_eq_false c1] at z3 ⊢
                  exact iteF ⟨_, rfl, iteT z3⟩
              | _ => exact iteT z3
            | _ => exact iteT (iteT z2)
        | _ => exact iteT (iteT zz)
      | _ => cases e5
theorem scIsRow : FnScope ["value", "token"] ["value"] (defScope sIsRow) := ⟨rfl, rfl, rfl, by decide +kernel, rfl, by decide +kernel, by decide +kernel⟩
theorem ok_isRow {f fI fC : Addr} {fd fdI fdC : FuncData} {tm : Nat} (F : Fun K "is_row" "is_row" sIsRow f fd) (T : Blt mg) (mM : mg "MOST_TOKENS" = some (.int 180 tm))
    (FI : Fun K "is_line" "is_line" sLine fI fdI) (bI : Binds K fdI ["value"] []) (mI : mg "is_line" = some (.ref fI))
    (FC : Fun K "is_clash_of_lines" "is_clash_of_lines" sClashL fC fdC) (GC : FnOk P w K mg base CX0 3 fC fdC ["value"] (spJudge K clashB)) (bC : Binds K fdC ["value"] []) (mC : mg "is_clash_of_lines" = some (.ref fC)) : FnOk P w K mg base CX0 4 f fd ["value"] (spJudge K rowB) := by
  have GI := ok_line (P := P) (w := w) (base := base) FI T
  refine F.ok scIsRow (fun vs H Q E h => ?_) (fun cdv A outer s H vs Q E hr h => ?_)
  · obtain ⟨x, d, rfl, _⟩ := h
    rfl
  · obtain ⟨x, d, rfl, hd, z⟩ := h
    have hr1 := hr.mono (show 1 ≤ 3 by decide)
    refine ⟨_, pss_cons (ps_if (PW.pt (pw_or (pt_not (pt_val (pe_callB call_isi (by rfl) T.isin (by decide +kernel) (pa_cons (pv 0) (pa_cons (pe_bltn (v := .ty "tuple") (u := .type "tuple") (by rfl) T.tuple (by decide +kernel) rfl) pa_nil))))) (pw_or1 (pt_cmpR op_gt (pe_callB call_len_seq (by rfl) T.len PySem.boot_len (pa_cons (pv 0) pa_nil)) (pe_glob (v := .int 180) (by rfl) mM ⟨_, rfl⟩) (nomark _))))) (pss_one (ps_ret pe_bl)) pss_nil)
      (pss_one (ps_ret (pe_callB (cr_all rfl) (by rfl) (T.all "all" (by decide)) (by decide +kernel) (pa_cons (pe_lc (own := [("token", 1)]) (g := gName 1) (tt := tYes) (te := tOrV (tCall (spJudge K isLine) [] E0 (tCons (tVar 1) tNil)) (tCall (spJudge K clashB) [] E0 (tCons (tVar 1) tNil))) rfl scIsRow.nd (pi_tup (pv 0))
          (blkOk_by (own := [("token", 1)]) (N := ["value", "token"]) (sc := defScope sIsRow) (by decide +kernel)) (fun _ _ _ _ _ => pg_name (i := 1) scIsRow.nd rfl (Or.inl rfl)) (fun _ _ _ _ _ => pts_nil)
          (fun _ _ _ _ _ => pe_or (pe_call GI hr1 rfl mI FI.kp bI .nil pass0 (pa_cons (pv 1) pa_nil)) (pe_one (pe_call GC hr rfl mC FC.kp bC .nil pass0 (pa_cons (pv 1) pa_nil))))) pa_nil)))), ?_⟩
    refine ⟨_, rfl, x, _, _, _, _, rfl, .ty "tuple", hd.ty, kit_ty (kit_tuple d), _, rfl, ?_⟩
    have zz := z H (fun _ _ e => e)
    cases hd with
    | @tup a xs ds h1 h2 =>
      refine iteF ⟨_, rfl, a, xs, rfl, .inr h1, _, _, rfl, rfl, _, rfl, ?_⟩
      have hlen := h2.length
      refine ite2 (fun c1 => ?_) (fun c1 => ?_)
      · have e : rowB (.tuple ds) = false := by
          have c2 := of_decide_eq_true c1
          rw [rowB_tup, decide_eq_false (by omega)]
          rfl
        rw [e] at zz
        exact zz
      · have c2 : xs.length ≤ 180 := by
          have c3 : ¬ ((xs.length : Int) > 180) := fun h => c1 (decide_eq_true h)
          omega
        refine ⟨_, rfl, a, rfl, ⟨_, h1⟩, fun D nD => ?_⟩
        have sD := same_upd (o := .lst []) nD
        refine lc_tup (K := K) (a := a) (xs := xs) (fun i H' => Same H H' ∧ H' D = some (.lst (((ds.take i).map tokB).map V.bl))) ⟨sD, upd_same⟩ (fun i H' _ hh => XR.Same.tup hh.1 h1) ?_ ?_
        · rintro i x H' hx ⟨sm, hD⟩
          obtain ⟨d, hd1, hd2⟩ := h2.get hx
          refine ⟨rfl, ?_⟩
          unfold tYes
          dsimp only
          rw [if_pos rfl]
          have fin : ∀ H2, Same H' H2 → (∃ l, H2 D = some (.lst l) ∧ l.length < sizeLine ∧ (∀ b o, H b = some o → upd H2 D (.lst (l ++ [V.bl (tokB d)])) b = some o) ∧ upd H2 D (.lst (l ++ [V.bl (tokB d)])) D = some (.lst (((ds.take (i + 1)).map tokB).map V.bl))) := by
            intro H2 s2
            refine ⟨_, s2 _ _ hD, ?_, fun b o h => ?_, ?_⟩
            · rw [List.length_map, List.length_map]
              have c3 : (ds.take i).length ≤ 180 := by rw [List.length_take]; omega
              exact Nat.lt_of_le_of_lt c3 (by decide)
            · rw [upd_ne (ne_of_none h nD)]
              exact s2 _ _ (sm _ _ h)
            · rw [upd_same, List.take_add_one, hd1, List.map_append, List.map_append]
              rfl
          have ez : ∀ b : Bool, isLine d = b → tokB d = (b || clashB d) := fun b h => by unfold tokB; rw [h]
          refine ⟨_, rfl, x, d, rfl, hd2.same sm, fun H2 s2 => ⟨_, rfl, ?_⟩⟩
          cases el : isLine d with
          | true =>
            have f2 := fin H2 s2
            rw [ez _ el] at f2
            exact iteT f2
          | false =>
            refine iteF ⟨_, rfl, x, d, rfl, (hd2.same sm).same s2, fun H3 s3 => ?_⟩
            have f3 := fin H3 (s2.trans s3)
            rw [ez _ el] at f3
            exact f3
        · rintro H' ⟨sm, hD⟩
          refine ⟨D, ds.map tokB, rfl, SqL.of (by rw [hD, hlen, List.take_length]), ?_⟩
          have e : (ds.map tokB).all id = rowB (.tuple ds) := by
            rw [rowB_tup, List.all_map, decide_eq_true (show ds.length ≤ 180 by omega)]
            rfl
          rw [e]
          exact z _ sm
    | _ => exact iteT (iteT zz)
end
end K65
namespace K65
open PySem L2 XR
abbrev sPot : Stmt := top 23
abbrev sDraw : Stmt := top 24
abbrev sPick : Stmt := top 25
def Blt.abs {mg : Str → Option Value} (T : Blt mg) : mg "abs" = none := T.all _ (by decide)
def Blt.divmod {mg : Str → Option Value} (T : Blt mg) : mg "divmod" = none := T.all _ (by decide)
section
variable {P : Program} {w : World} {K : PySem.W.Frag} {mg : Str → Option Value} {base : Heap}
theorem scPot : FnScope ["_law_script", "_law_index", "_law_cell"] ["_law_script", "_law_index"] (defScope sPot) := ⟨rfl, rfl, rfl, by decide +kernel, rfl, by decide +kernel, by decide +kernel⟩
theorem ok_pot {f : Addr} {fd : FuncData} (F : Fun K "_law_pot" "_law_pot" sPot f fd) (T : Blt mg) : FnOk P w K mg base CX0 1 f fd ["_law_script", "_law_index"] (spPot K) := by
  refine F.ok scPot (fun vs H Q E h => ?_) (fun cdv A outer s H vs Q E hr h => ?_)
  · obtain ⟨a, ns, k, rfl, _⟩ := h
    rfl
  · obtain ⟨a, ns, k, rfl, hS, hn, hk, q⟩ := h
    refine ⟨_, pss_cons (ps_set (i := 2) scPot.nd rfl (.inl rfl) (pe_ifExp (pt_cmpR op_lt (pv 1) (pe_callB call_len_seq (by rfl) T.len PySem.boot_len (pa_cons (pv 0) pa_nil)) (nomark _))
        (pe_callB call_abs (by rfl) T.abs (by decide +kernel) (pa_cons (pe_ix ix_list (pv 0) (pv 1) (fun _ _ => rfl)) pa_nil))
        (pe_op op_add (pe_op op_mul pe_int (pv 1)) pe_int)))
      (pss_one (ps_ret (pe_lst (pa_cons (pe_callB (call_max2 rfl) (by rfl) T.max (by decide +kernel) (pa_cons pe_int (pa_cons (pe_op op_sub (pv 2) (pe_op op_pow pe_int pe_int)) pa_nil)))
        (pa_cons (pe_op op_mod (pe_callTy call_int1 (by rfl) T.int (by decide +kernel) (pa_cons (pe_op op_add (pe_op op_add (pe_op op_mul (pe_op op_mod (pe_callTy call_int1 (by rfl) T.int (by decide +kernel) (pa_cons (pv 2) pa_nil)) pe_int) pe_int) (pe_op op_mul pe_int (pv 1))) pe_int) pa_nil)) pe_int) pa_nil))))), ?_⟩
    refine ⟨_, rfl, _, rfl, a, _, rfl, .inl hS, _, _, rfl, rfl, _, rfl, ?_⟩
    refine ite2 (fun h1 => ?_) (fun h1 => ?_)
    · have h2 : k < ns.length := by
        have h3 := of_decide_eq_true h1
        rw [List.length_map] at h3
        omega
      refine ⟨_, rfl, _, rfl, a, _, _, _, rfl, rfl, hS, atI_nat (int_of_map h2), _, rfl, ?_⟩
      have hc : (0 : Int) ≤ (if ns.getD k 0 < 0 then -(ns.getD k 0) else ns.getD k 0) := by split <;> omega
      revert hc
      generalize (if ns.getD k 0 < 0 then -(ns.getD k 0) else ns.getD k 0) = c
      intro hc
      refine ⟨_, rfl, _, _, rfl, rfl, ⟨by decide, by decide, by decide⟩, _, _, rfl, rfl, _, _, rfl, _, rfl, .inl ⟨_, rfl, _, _, rfl, rfl, by show (0 : Int) < 2147483563; decide, _, _, rfl, rfl, .inr ⟨by decide, by decide⟩, _, rfl, _, _, rfl, rfl, .inl ⟨by decide, by decide⟩, _, _, rfl, rfl, _, _, rfl, rfl,
        .inl ⟨_, rfl, _, _, rfl, rfl, by show (0 : Int) < 2147483629; decide, by show 2 ≤ sizeLine; decide, fun p hp => ?_⟩⟩⟩
      refine q p _ (same_upd hp) hp ⟨_, _, upd_same, ?_, Int.emod_nonneg _ (by decide), Int.lt_of_lt_of_le (Int.emod_lt_of_pos _ (show (0 : Int) < 2147483629 by decide)) (by decide)⟩

      split <;> omega
    · refine ⟨_, rfl, _, _, rfl, rfl, .inl ⟨by decide, by decide⟩, _, _, rfl, rfl, ?_⟩
      refine ⟨_, rfl, _, _, rfl, rfl, ⟨by decide, by decide, by decide⟩, _, _, rfl, rfl, _, _, rfl, _, rfl, .inl ⟨_, rfl, _, _, rfl, rfl, by show (0 : Int) < 2147483563; decide, _, _, rfl, rfl, .inr ⟨by decide, by decide⟩, _, rfl, _, _, rfl, rfl, .inl ⟨by decide, by decide⟩, _, _, rfl, rfl, _, _, rfl, rfl,
        .inl ⟨_, rfl, _, _, rfl, rfl, by show (0 : Int) < 2147483629; decide, by show 2 ≤ sizeLine; decide, fun p hp => ?_⟩⟩⟩
      refine q p _ (same_upd hp) hp ⟨_, _, upd_same, ?_, Int.emod_nonneg _ (by decide), Int.lt_of_lt_of_le (Int.emod_lt_of_pos _ (show (0 : Int) < 2147483629 by decide)) (by decide)⟩

      split <;> omega
theorem scDraw : FnScope ["_law_pot_here", "_law_many", "_law_digit"] ["_law_pot_here", "_law_many"] (defScope sDraw) := ⟨rfl, rfl, rfl, by decide +kernel, rfl, by decide +kernel, by decide +kernel⟩
theorem ok_draw {f : Addr} {fd : FuncData} (F : Fun K "_law_draw" "_law_draw" sDraw f fd) (T : Blt mg) : FnOk P w K mg base CX0 1 f fd ["_law_pot_here", "_law_many"] spDraw := by
  refine F.ok scDraw (fun vs H Q E h => ?_) (fun cdv A outer s H vs Q E hr h => ?_)
  · obtain ⟨a, m, rfl, _⟩ := h
    rfl
  · obtain ⟨a, m, rfl, ⟨p, q, ha, hp, hq, hq2⟩, hm, hm2, z⟩ := h
    refine ⟨_, pss_cons (ps_if (pt_cmpR op_gt (pe_ix ix_list (pv 0) pe_int (fun _ _ => rfl)) pe_int (nomark _))
        (pss_cons (ps_asg (pe_callB call_divmod (by rfl) T.divmod (by decide +kernel) (pa_cons (pe_ix ix_list (pv 0) pe_int (fun _ _ => rfl)) (pa_cons (pv 1) pa_nil)))
            (pg_tup rfl (pgs_cons (pg_sub (pv 0) pe_int set_list) (pgs_cons (pg_name (i := 2) scDraw.nd rfl (.inl rfl)) pgs_nil))))
          (pss_one (ps_ret (pv 2))))
        pss_nil)
      (pss_cons (ps_asg (pe_op op_mod (pe_callTy call_int1 (by rfl) T.int (by decide +kernel) (pa_cons (pe_op op_add (pe_op op_mul (pe_ix ix_list (pv 0) pe_int (fun _ _ => rfl)) pe_int) pe_int) pa_nil)) pe_int) (pg_sub (pv 0) pe_int set_list))
      (pss_one (ps_ret (pe_op op_mod (pe_callTy call_int1 (by rfl) T.int (by decide +kernel) (pa_cons (pe_op op_fdiv (pe_op op_mod (pe_callTy call_int1 (by rfl) T.int (by decide +kernel) (pa_cons (pe_op op_mul (pe_ix ix_list (pv 0) pe_int (fun _ _ => rfl)) (pe_ix ix_list (pv 0) pe_int (fun _ _ => rfl))) pa_nil)) pe_int) pe_int) pa_nil)) (pv 1))))), ?_⟩
    refine ⟨_, rfl, a, _, _, _, rfl, rfl, .inl (.inl ha), atI_nat (j := 0) rfl, _, _, rfl, rfl, _, rfl, ?_⟩
    refine ite2 (fun h1 => ?_) (fun h1 => ?_)
    · refine ⟨_, rfl, a, _, _, _, rfl, rfl, .inl (.inl ha), atI_nat (j := 0) rfl, _, rfl, _, _, rfl, ⟨hm, by omega⟩, fun t ht => ?_⟩
      refine ⟨t, _, rfl, .inl (.inl upd_same), rfl, ?_⟩
      have hat : a ≠ t := ne_of_none ha ht
      refine ⟨_, _, rfl, _, rfl, a, _, _, 0, rfl, rfl, (by rw [upd_ne hat]; exact ha), rfl, ?_⟩
      refine ⟨_, _, rfl, rfl, _, rfl, ?_⟩
      have hp1 : (0 : Int) < p := of_decide_eq_true h1
      refine z (p % m) _ (Int.emod_nonneg _ (by omega)) (Int.emod_lt_of_pos _ hm) ⟨p / m, q, upd_same, Int.ediv_nonneg hp (by omega), hq, hq2⟩ fun b o hb hn => ?_
      rw [upd_ne hn, upd_ne (ne_of_none hb ht)]
      exact hb
    · have m1 : (0 : Int) < 2147483629 := by decide
      have m2 : (0 : Int) < 2147483587 := by decide
      refine ⟨_, rfl, a, _, _, _, rfl, rfl, .inl (.inl ha), atI_nat (j := 1) rfl, _, _, rfl, rfl, .inr ⟨by decide, by decide⟩, _, _, rfl, rfl, .inl ⟨_, rfl, _, _, rfl, rfl, m1, _, rfl, a, _, _, 1, rfl, rfl, ha, rfl, ?_⟩⟩
      have q0 : 0 ≤ (q * 48271 + 11) % 2147483629 := Int.emod_nonneg _ (by decide)
      have q1 : (q * 48271 + 11) % 2147483629 < 2147483629 := Int.emod_lt_of_pos _ (by decide)
      refine ⟨_, rfl, a, _, _, _, rfl, rfl, .inl (.inl upd_same), atI_nat (j := 1) rfl, _, rfl, a, _, _, _, rfl, rfl, .inl (.inl upd_same), atI_nat (j := 1) rfl, _, _, rfl, rfl, .inl ⟨by omega, by omega⟩, .inl ⟨_, rfl, _, _, rfl, rfl, m2, _, _, rfl, rfl, ⟨by decide, by decide⟩, .inl ⟨_, rfl, _, rfl, _, _, rfl, rfl, hm, ?_⟩⟩⟩
      refine z _ _ (Int.emod_nonneg _ (by omega)) (Int.emod_lt_of_pos _ hm) ⟨p, (q * 48271 + 11) % 2147483629, upd_same, hp, q0, by omega⟩ fun b o hb hn => ?_
      rw [upd_ne hn]
      exact hb
theorem scPick : FnScope ["_law_pot_here", "_law_some"] ["_law_pot_here", "_law_some"] (defScope sPick) := ⟨rfl, rfl, rfl, by decide +kernel, rfl, by decide +kernel, by decide +kernel⟩
theorem ok_pick {f fD : Addr} {fd fdD : FuncData} (F : Fun K "_law_pick" "_law_pick" sPick f fd) (T : Blt mg) (FD : Fun K "_law_draw" "_law_draw" sDraw fD fdD) (bD : Binds K fdD ["_law_pot_here", "_law_many"] []) (mD : mg "_law_draw" = some (.ref fD)) : FnOk P w K mg base CX0 2 f fd ["_law_pot_here", "_law_some"] spPick := by
  have GD : FnOk P w K mg base CX0 1 fD fdD ["_law_pot_here", "_law_many"] spDraw := ok_draw FD T
  refine F.ok scPick (fun vs H Q E h => ?_) (fun cdv A outer s H vs Q E hr h => ?_)
  · obtain ⟨a, b, xs, rfl, _⟩ := h
    rfl
  · obtain ⟨a, b, xs, rfl, hpot, hb, hab, h0, h1, z⟩ := h
    refine ⟨_, pss_one (ps_ret (pe_ix ix_list (pv 1) (pe_call GD hr rfl mD FD.kp bD .nil pass0 (pa_cons (pv 0) (pa_cons (pe_callB call_len_seq (by rfl) T.len PySem.boot_len (pa_cons (pv 1) pa_nil)) pa_nil))) (fun _ _ => rfl))), ?_⟩
    refine ⟨_, rfl, _, rfl, _, rfl, b, xs, rfl, .inl (.inl (.inl hb)), a, _, rfl, hpot, by omega, by omega, fun r H' r0 r1 hp' but => ?_⟩
    have hlt : r.toNat < xs.length := by omega
    have er : ((r.toNat : Nat) : Int) = r := by omega
    have ea : atI xs ((r.toNat : Nat) : Int) = some xs[r.toNat] := atI_nat (List.getElem?_eq_getElem hlt)
    rw [er] at ea
    exact ⟨b, xs, r, xs[r.toNat], rfl, rfl, .inl (.inl (but b _ hb (Ne.symm hab))), ea, z _ H' (List.getElem_mem hlt) hp' but⟩
structure Draws (P : Program) (w : World) (K : PySem.W.Frag) (mg : Str → Option Value) (base : Heap) (fD fP : Addr) (fdD fdP : FuncData) : Prop where
  FD : Fun K "_law_draw" "_law_draw" sDraw fD fdD
  GD : FnOk P w K mg base CX0 1 fD fdD ["_law_pot_here", "_law_many"] spDraw
  bD : Binds K fdD ["_law_pot_here", "_law_many"] []
  mD : mg "_law_draw" = some (.ref fD)
  FP : Fun K "_law_pick" "_law_pick" sPick fP fdP
  GP : FnOk P w K mg base CX0 2 fP fdP ["_law_pot_here", "_law_some"] spPick
  bP : Binds K fdP ["_law_pot_here", "_law_some"] []
  mP : mg "_law_pick" = some (.ref fP)
end
end K65
namespace XR
open PySem L2
def placesTo (ds : List PyData) (n : Nat) : List Nat := (List.range n).filter fun i => tupB (ds.getD i .none)
def places (ds : List PyData) : List Nat := placesTo ds ds.length
def plV (l : List Nat) : List V := l.map fun i : Nat => V.int (i : Int)
theorem placesTo_succ {ds : List PyData} {n : Nat} {d : PyData} (h : ds[n]? = some d) : placesTo ds (n + 1) = if tupB d = true then placesTo ds n ++ [n] else placesTo ds n := by
  unfold placesTo
  rw [List.range_succ, List.filter_append]
  have e : ds.getD n .none = d := by rw [List.getD_eq_getElem?_getD, h]; rfl
  cases q : tupB d with
  | true => simp [List.filter_cons, e, h, q]
  | false => simp [List.filter_cons, e, h, q]
theorem placesTo_len (ds : List PyData) (n : Nat) : (placesTo ds n).length ≤ n := by
  have := List.length_filter_le (fun i => tupB (ds.getD i .none)) (List.range n)
  rw [List.length_range] at this
  exact this
def swapD : PyData → PyData
  | .tuple [c, a, b, o, t] => .tuple [c, a, b, t, o]
  | d => d
theorem row_of {K : PySem.W.Frag} {H : Hp} {x : V} {d : PyData} (h : Dq K H x d) (e : rowB d = true) : ∃ a xs ds, x = .ref a ∧ d = .tuple ds ∧ SqT K H a xs ∧ DqAll K H xs ds ∧ ds.length ≤ 180 ∧ ds.all tokB = true := by
  cases h with
  | @tup a xs ds h1 h2 =>
    rw [rowB_tup, Bool.and_eq_true] at e
    exact ⟨a, xs, ds, rfl, rfl, h1, h2, of_decide_eq_true e.1, e.2⟩
  | _ => cases e
def spChkRow (K : PySem.W.Frag) (C : Addr) : Sp := fun vs H Q E => ∃ (x : V) (d : PyData), vs = [x] ∧ Dq K H x d ∧ (rowB d = true → ∀ H', Same H H' → Q .non H') ∧
  (rowB d = false → ∀ (H' : Hp) (dd : Addr), Same H H' → H dd = none → H' dd = some (.xd [("value", x)]) → E (.ref C) (some dd) H')
def spClashes (K : PySem.W.Frag) (C : Addr) : Sp := fun vs H Q E => ∃ (x : V) (d : PyData), vs = [x] ∧ Dq K H x d ∧
  (∀ ds, d = .tuple ds → rowB d = true → ∀ l H', Same H H' → H l = none → H' l = some (.lst (plV (places ds))) → Q (.ref l) H') ∧
  (rowB d = false → ∀ (H' : Hp) (dd : Addr), Same H H' → H dd = none → H' dd = some (.xd [("value", x)]) → E (.ref C) (some dd) H')
def spTextOf (K : PySem.W.Frag) (C CC : Addr) : Sp := fun vs H Q E => ∃ (x : V) (d : PyData), vs = [x] ∧ Dq K H x d ∧
  (∀ a xs ds, x = .ref a → d = .tuple ds → SqT K H a xs → DqAll K H xs ds → rowB d = true → (places ds = [] → ∀ l H', Same H H' → H l = none → H' l = some (.lst xs) → Q (.ref l) H') ∧
    (places ds ≠ [] → ∀ (H' : Hp) (dd t : Addr), Same H H' → H dd = none → H' dd = some (.xd [("positions", .ref t)]) → H' t = some (.tup (plV (places ds))) → E (.ref CC) (some dd) H')) ∧
  (rowB d = false → ∀ (H' : Hp) (dd : Addr), Same H H' → H dd = none → H' dd = some (.xd [("value", x)]) → E (.ref C) (some dd) H')
def spSwapped (K : PySem.W.Frag) (C : Addr) : Sp := fun vs H Q E => ∃ (x : V) (d : PyData), vs = [x] ∧ Dq K H x d ∧
  (∀ ds, d = .tuple ds → rowB d = true → ∀ t H', Same H H' → H t = none → Dq K H' (.ref t) (.tuple (ds.map swapD)) → Q (.ref t) H') ∧
  (rowB d = false → ∀ (H' : Hp) (dd : Addr), Same H H' → H dd = none → H' dd = some (.xd [("value", x)]) → E (.ref C) (some dd) H')
theorem same_to_del {H H' : Hp} {D : Addr} (s : Same H H') (n : H D = none) : Same H (L2.del H' D) := fun b o h => by
  rw [del_ne (ne_of_none h n)]
  exact s _ _ h
theorem del_upd {H : Hp} {D : Addr} {o : HO} : L2.del (upd H D o) D = L2.del H D := by
  funext b
  by_cases e : b = D
  · rw [e, del_same, del_same]
  · rw [del_ne e, del_ne e, upd_ne e]
theorem DqAll.snoc {K : PySem.W.Frag} {H : Hp} {y : V} {e : PyData} : ∀ {xs : List V} {ds : List PyData}, DqAll K H xs ds → Dq K H y e → DqAll K H (xs ++ [y]) (ds ++ [e])
  | _, _, .nil, h => .cons h .nil
  | _, _, .cons a b, h => .cons a (b.snoc h)
theorem tok_line {d : PyData} (e : tupB d = false) : swapD d = d := by
  cases d with
  | tuple ds => cases e
  | _ => rfl
theorem tok_clash {K : PySem.W.Frag} {H : Hp} {x : V} {d : PyData} (h : Dq K H x d) (e : tupB d = true) (t : tokB d = true) : ∃ q d0 d1 d2 d3 d4 x0 x1 x2 x3 x4, x = .ref q ∧ d = .tuple [d0, d1, d2, d3, d4] ∧ SqT K H q [x0, x1, x2, x3, x4] ∧ Dq K H x0 d0 ∧ Dq K H x1 d1 ∧ Dq K H x2 d2 ∧ Dq K H x3 d3 ∧ Dq K H x4 d4 := by
  cases h with
  | @tup a xs ds h1 h2 =>
    have hl : ds.length = 5 := by
      by_cases h : ds.length = 5
      · exact h
      · have t' : clashB (.tuple ds) = true := t
        rw [not5 h] at t'
        cases t'
    obtain ⟨d0, d1, d2, d3, d4, x0, x1, x2, x3, x4, rfl, rfl, a0, a1, a2, a3, a4⟩ := five_of h2 hl
    exact ⟨a, d0, d1, d2, d3, d4, x0, x1, x2, x3, x4, rfl, rfl, h1, a0, a1, a2, a3, a4⟩
  | _ => cases e
theorem none_back {H H1 : Hp} {d : Addr} (s : Same H H1) (n : H1 d = none) : H d = none := by
  cases q : H d with
  | none => rfl
  | some o => rw [s _ _ q] at n; cases n
end XR
namespace K65
open PySem L2 XR
abbrev sChkRow : Stmt := top 17
abbrev sClashes : Stmt := top 18
section
variable {P : Program} {w : World} {K : PySem.W.Frag} {mg : Str → Option Value} {base : Heap}
theorem scChkRow : FnScope ["row"] ["row"] (defScope sChkRow) := ⟨rfl, rfl, rfl, by decide +kernel, rfl, by decide +kernel, by decide +kernel⟩
theorem ok_chkRow {f fI C : Addr} {fd fdI : FuncData} (F : Fun K "check_row" "check_row" sChkRow f fd) (hsup : mg "super" = none) (XD : XOk P K mg "InvalidRow" C 1 (fvOne "value"))
    (FI : Fun K "is_row" "is_row" sIsRow fI fdI) (GI : FnOk P w K mg base CX0 4 fI fdI ["value"] (spJudge K rowB)) (bI : Binds K fdI ["value"] []) (mI : mg "is_row" = some (.ref fI)) : FnOk P w K mg base (L2.CX P w) 5 f fd ["row"] (spChkRow K C) := by
  refine F.okX scChkRow (fun vs H Q E h => ?_) (fun cdv A outer s H vs Q E hr h => ?_)
  · obtain ⟨x, d, rfl, _⟩ := h
    rfl
  · obtain ⟨x, d, rfl, hd, z, zx⟩ := h
    refine ⟨_, pss_one (ps_if (pt_not (pt_val (pe_call GI hr rfl mI FI.kp bI .nil pass0 (pa_cons (pv 0) pa_nil))))
      (pss_one (ps_raiseX rfl (takes_of rfl rfl rfl rfl) XD.mx XD.ne XD.kp (hr.mono (by decide)) hsup XD.bP XD.tP rfl XD.g (pa_cons (pv 0) pa_nil))) pss_nil), ?_⟩
    refine ⟨_, rfl, x, d, rfl, hd, fun H1 s1 => ⟨_, rfl, ?_⟩⟩
    cases e3 : rowB d with
    | true => exact iteF (z e3 H1 s1)
    | false =>
      refine iteT ⟨_, rfl, rfl, fun dd ndd => ?_⟩
      exact zx e3 _ dd (s1.trans (same_upd ndd)) (none_back s1 ndd) upd_same
theorem scClashes : FnScope ["row", "at", "token"] ["row"] (defScope sClashes) := ⟨rfl, rfl, rfl, by decide +kernel, rfl, by decide +kernel, by decide +kernel⟩
theorem ok_clashes {f fC fT C : Addr} {fd fdC fdT : FuncData} (F : Fun K "clashes" "clashes" sClashes f fd) (T : Blt mg)
    (FC : Fun K "check_row" "check_row" sChkRow fC fdC) (GC : FnOk P w K mg base (L2.CX P w) 5 fC fdC ["row"] (spChkRow K C)) (bC : Binds K fdC ["row"] []) (mC : mg "check_row" = some (.ref fC))
    (FT : Fun K "is_clash" "is_clash" sIsClash fT fdT) (bT : Binds K fdT ["token"] []) (mT : mg "is_clash" = some (.ref fT)) : FnOk P w K mg base (L2.CX P w) 6 f fd ["row"] (spClashes K C) := by
  have GT := ok_isClash (P := P) (w := w) (base := base) FT T
  refine F.okX scClashes (fun vs H Q E h => ?_) (fun cdv A outer s H vs Q E hr h => ?_)
  · obtain ⟨x, d, rfl, _⟩ := h
    rfl
  · obtain ⟨x, d, rfl, hd, z, zx⟩ := h
    have hr1 := hr.mono (show 1 ≤ 5 by decide)
    refine ⟨_, pss_cons (ps_expr (pe_callS GC hr rfl mC FC.kp bC (fun σ => passAt (takes_of rfl rfl rfl rfl) σ) (pa_cons (pv 0) pa_nil)))
      (pss_one (ps_ret (pe_lc (own := [("at", 1), ("token", 2)]) (g := gTup K 2 (gCons (gName 1) (gCons (gName 2) gNil))) (tt := tB (tCall (spJudge K tupB) [] E0 (tCons (tVar 2) tNil))) (te := tVar 1) rfl scClashes.nd (pi_enumT (by rfl) T.enum (pa_cons (pv 0) pa_nil))
        (blkOk_by (own := [("at", 1), ("token", 2)]) (N := ["row", "at", "token"]) (sc := defScope sClashes) (by decide +kernel))
        (fun _ _ _ _ _ => pg_tup rfl (pgs_cons (pg_name (i := 1) scClashes.nd rfl (.inl rfl)) (pgs_cons (pg_name (i := 2) scClashes.nd rfl (.inl rfl)) pgs_nil))) (fun _ _ _ _ _ => pts_one (pt_val (pe_call GT hr1 rfl mT FT.kp bT .nil pass0 (pa_cons (pv 2) pa_nil))))
        (fun _ _ _ _ _ => pv 1)))), ?_⟩
    refine ⟨_, rfl, ?_⟩
    dsimp only [tNil]
    refine ⟨x, d, rfl, hd, fun er H1 s1 => ?_, zx⟩
    obtain ⟨a, xs, ds, rfl, rfl, h1, h2, hl, hall⟩ := row_of hd er
    have hlen := h2.length
    have h1' := XR.Same.tup s1 h1
    refine ⟨_, rfl, a, xs, rfl, h1', fun D nD => ?_⟩
    have sD := same_upd (o := .lst []) nD
    refine lc_it walk_enumT (fun i H' => Same H1 H' ∧ H' D = some (.lst (plV (placesTo ds i)))) ⟨sD, upd_same⟩ (fun i H' _ hh => XR.Same.tup hh.1 h1') ?_ ?_
    · rintro i x Ha Hb hi ⟨sm, hD⟩ ⟨T0, y1, y2, rfl, nT, rfl, e1, e2⟩
      obtain rfl := Option.some.inj e1
      obtain ⟨d, hd1, hd2⟩ := h2.get e2
      have sT := same_upd (o := .tup [V.int (i : Nat), y2]) nT
      refine ⟨T0, _, rfl, .inl (.inl upd_same), rfl, _, _, rfl, _, _, rfl, rfl, rfl, ?_⟩
      refine ⟨_, rfl, y2, d, rfl, ((hd2.same s1).same sm).same sT, fun H2 s2 => ⟨_, rfl, ?_⟩⟩
      have sm2 := (sm.trans sT).trans s2
      have hD2 := s2 _ _ (sT _ _ hD)
      cases e : tupB d with
      | true =>
        refine iteT ⟨_, rfl, _, hD2, ?_, fun b o h => ?_, ?_⟩
        · unfold plV
          rw [List.length_map]
          have := placesTo_len ds i
          exact Nat.lt_of_le_of_lt (show _ ≤ 180 by omega) (by decide)
        · rw [upd_ne (ne_of_none h nD)]
          exact sm2 _ _ h
        · rw [upd_same, placesTo_succ hd1, if_pos e]
          unfold plV
          rw [List.map_append]
          rfl
      | false =>
        refine iteF ⟨sm2, ?_⟩
        rw [placesTo_succ hd1, e, if_neg (by decide)]
        exact hD2
    · rintro H' ⟨sm, hD⟩
      rw [hlen] at hD
      exact z ds rfl er D H' (s1.trans sm) (none_back s1 nD) hD
end
end K65
/-! Bounds of repr: signs below 128, texts made of reprs. -/
namespace XR
open PySem L2
def Asc (s : Str) : Prop := ∀ c ∈ s.cps.toList, c < 128
instance (s : Str) : Decidable (Asc s) := by unfold Asc; infer_instance
theorem Asc.append {s t : Str} (h : Asc s) (k : Asc t) : Asc (s ++ t) := fun c hc => by
  have e : (s ++ t).cps.toList = s.cps.toList ++ t.cps.toList := by
    show (s.cps ++ t.cps).toList = _
    simp
  rw [e] at hc
  rcases List.mem_append.mp hc with hc | hc
  · exact h c hc
  · exact k c hc
theorem asc_from : ∀ (ts : List Str) (k : Nat) (acc : Str), (∀ t ∈ ts, Asc t) → Asc acc → Asc (textFrom k acc ts)
  | [], _, _, _, a => a
  | t :: r, k, acc, h, a => by
    refine asc_from r (k + 1) _ (fun x hx => h x (List.mem_cons_of_mem _ hx)) ((a.append ?_).append (h t (List.mem_cons_self ..)))
    by_cases hk : k > 0
    · rw [if_pos hk]; decide
    · rw [if_neg hk]; decide
theorem asc_join : ∀ (ts : List Str), (∀ t ∈ ts, Asc t) → Asc (Str.join ", " ts)
  | [], _ => by show Asc Str.empty; decide
  | [x], h => h x (List.mem_cons_self ..)
  | x :: y :: r, h => by
    have ih := asc_join (y :: r) fun t ht => h t (List.mem_cons_of_mem _ ht)
    show Asc (x ++ Str.ofString ", " ++ Str.join ", " (y :: r))
    exact ((h x (List.mem_cons_self ..)).append (by decide)).append ih
structure Shx (n k : Nat) (d : PyData) : Prop where
  sh : Shw n k d
  asc : Asc d.shown
theorem Shx.le {n k n' k' : Nat} {d : PyData} (h : Shx n k d) (a : n ≤ n') (b : k ≤ k') : Shx n' k' d := ⟨h.sh.le a b, h.asc⟩
theorem Shx.list {n k m : Nat} {ds : List PyData} (h : ∀ d ∈ ds, Shx n k d) (l : ds.length ≤ m) : Shx (2 + m * (n + 2)) (k + 1) (.list ds) := by
  refine ⟨Shw.list (fun d hd => (h d hd).sh) l, ?_⟩
  simp only [PyData.shown]
  show Asc (textFrom 0 "[" (PyData.shownAll ds) ++ "]")
  refine Asc.append (asc_from _ _ _ (fun t ht => ?_) (by decide)) (by decide)
  obtain ⟨d, hd, rfl⟩ := shownAll_in ht
  exact (h d hd).asc
theorem Shx.tuple {n k m : Nat} {ds : List PyData} (h : ∀ d ∈ ds, Shx n k d) (l : ds.length ≤ m) : Shx (3 + m * (n + 2)) (k + 1) (.tuple ds) := by
  refine ⟨Shw.tuple (fun d hd => (h d hd).sh) l, ?_⟩
  simp only [PyData.shown]
  unfold tupleText
  refine Asc.append (Asc.append (by decide) (asc_join _ (fun t ht => ?_))) ?_
  · obtain ⟨d, hd, rfl⟩ := shownAll_in ht
    exact (h d hd).asc
  · by_cases hk : ((PyData.shownAll ds).length == 1) = true
    · rw [if_pos hk]; decide
    · rw [if_neg hk]; decide
/-- repr of a repr -/
theorem shw_str {n k : Nat} {d : PyData} (h : Shx n k d) : Shw (10 * n + 2) 1 (.str d.shown) := by
  refine ⟨by simp [PyData.showable], ?_, by simp [PyData.depth]⟩
  simp only [PyData.shown]
  have e := PySem.StrLaws.reprText_len d.shown (fun c hc => Nat.lt_trans (h.asc c hc) (by decide))
  have := h.sh.len
  omega
theorem shw_two {n1 n2 k : Nat} {a b : PyData} (h1 : Shw n1 k a) (h2 : Shw n2 k b) : Shw (n1 + n2 + 4) (k + 1) (.list [a, b]) := by
  refine ⟨?_, ?_, ?_⟩
  · simp only [PyData.showable, PyData.showableAll, h1.ok, h2.ok, Bool.and_self]
  · simp only [PyData.shown, PyData.shownAll]
    show ((("[" : Str) ++ (if 0 > 0 then ", " else "" : String) ++ a.shown) ++ (if 1 > 0 then ", " else "" : String) ++ b.shown ++ "]").length ≤ _
    simp only [strLen_append]
    have := h1.len
    have := h2.len
    have e1 : (Str.ofString "[").length = 1 := by decide
    have e2 : (Str.ofString (if 0 > 0 then ", " else "")).length = 0 := by decide
    have e3 : (Str.ofString (if 1 > 0 then ", " else "")).length = 2 := by decide
    have e4 : (Str.ofString "]").length = 1 := by decide
    omega
  · simp only [PyData.depth, PyData.depthAll]
    have := h1.dep
    have := h2.dep
    omega
theorem shw_three {n1 n2 n3 k : Nat} {a b c : PyData} (h1 : Shw n1 k a) (h2 : Shw n2 k b) (h3 : Shw n3 k c) : Shw (n1 + n2 + n3 + 6) (k + 1) (.list [a, b, c]) := by
  refine ⟨?_, ?_, ?_⟩
  · simp only [PyData.showable, PyData.showableAll, h1.ok, h2.ok, h3.ok, Bool.and_self]
  · simp only [PyData.shown, PyData.shownAll]
    show ((("[" : Str) ++ (if 0 > 0 then ", " else "" : String) ++ a.shown) ++ (if 1 > 0 then ", " else "" : String) ++ b.shown ++ (if 2 > 0 then ", " else "" : String) ++ c.shown ++ "]").length ≤ _
    simp only [strLen_append]
    have := h1.len
    have := h2.len
    have := h3.len
    have e1 : (Str.ofString "[").length = 1 := by decide
    have e2 : (Str.ofString (if 0 > 0 then ", " else "")).length = 0 := by decide
    have e3 : (Str.ofString (if 1 > 0 then ", " else "")).length = 2 := by decide
    have e5 : (Str.ofString (if 2 > 0 then ", " else "")).length = 2 := by decide
    have e4 : (Str.ofString "]").length = 1 := by decide
    omega
  · simp only [PyData.depth, PyData.depthAll]
    have := h1.dep
    have := h2.dep
    have := h3.dep
    omega
end XR
namespace XR
open PySem L2
/-- the heap without Z -/
def cut (Z : List Addr) (H : Hp) : Hp := fun b => if b ∈ Z then none else H b
theorem cut_in {Z : List Addr} {H : Hp} {b : Addr} (h : b ∈ Z) : cut Z H b = none := if_pos h
theorem cut_out {Z : List Addr} {H : Hp} {b : Addr} (h : b ∉ Z) : cut Z H b = H b := if_neg h
theorem cut_some {Z : List Addr} {H : Hp} {b : Addr} {o : HO} (h : cut Z H b = some o) : b ∉ Z ∧ H b = some o := by
  by_cases e : b ∈ Z
  · rw [cut_in e] at h; cases h
  · rw [cut_out e] at h; exact ⟨e, h⟩
theorem cut_sub {Z : List Addr} {H : Hp} : Same (cut Z H) H := fun b o h => (cut_some h).2
theorem cut_but {Z : List Addr} {p : Addr} {H H' : Hp} (m : p ∈ Z) (b : But p H H') : Same (cut Z H) (cut Z H') := fun c o h => by
  obtain ⟨h1, h2⟩ := cut_some h
  rw [cut_out h1]
  exact b _ _ h2 (fun e => h1 (e ▸ m))
theorem cut_same {Z : List Addr} {H H' : Hp} (b : Same H H') : Same (cut Z H) (cut Z H') := fun c o h => by
  obtain ⟨h1, h2⟩ := cut_some h
  rw [cut_out h1]
  exact b _ _ h2
theorem cut_upd {Z : List Addr} {c : Addr} {H : Hp} {o : HO} (m : c ∈ Z) : cut Z (upd H c o) = cut Z H := by
  funext b
  by_cases e : b ∈ Z
  · rw [cut_in e, cut_in e]
  · rw [cut_out e, cut_out e, upd_ne (fun q : b = c => e (by rw [q]; exact m))]
structure PZ (Z : List Addr) (p : Addr) (H : Hp) : Prop where
  pot : PotAt H p
  mem : p ∈ Z
  live : ∀ z ∈ Z, ∃ o, H z = some o
theorem PZ.step {Z : List Addr} {p : Addr} {H H' : Hp} (h : PZ Z p H) (hp : PotAt H' p) (b : But p H H') : PZ Z p H' := ⟨hp, h.mem, fun z hz => by
  by_cases e : z = p
  · obtain ⟨_, _, q, _⟩ := hp
    exact ⟨_, e ▸ q⟩
  · obtain ⟨o, q⟩ := h.live z hz
    exact ⟨o, b _ _ q e⟩⟩
theorem PZ.same {Z : List Addr} {p : Addr} {H H' : Hp} (h : PZ Z p H) (b : Same H H') : PZ Z p H' := h.step (h.pot.same b) (Same.but b)
theorem PZ.notin {Z : List Addr} {p t : Addr} {H : Hp} (h : PZ Z p H) (n : H t = none) : t ∉ Z := fun e => by
  obtain ⟨o, q⟩ := h.live t e
  rw [n] at q; cases q
theorem PZ.more {Z : List Addr} {p c : Addr} {H : Hp} {o : HO} (h : PZ Z p H) (hc : H c = some o) : PZ (c :: Z) p H := ⟨h.pot, List.mem_cons_of_mem _ h.mem, fun z hz => by
  rcases List.mem_cons.mp hz with e | e
  · exact ⟨o, e ▸ hc⟩
  · exact h.live z e⟩
theorem PZ.one {p : Addr} {H : Hp} (h : PotAt H p) : PZ [p] p H := ⟨h, List.mem_singleton.mpr rfl, fun z hz => by
  obtain ⟨_, _, q, _⟩ := h
  rw [List.mem_singleton.mp hz]
  exact ⟨_, q⟩⟩
theorem cut_less {Z : List Addr} {c : Addr} {H : Hp} : Same (cut (c :: Z) H) (cut Z H) := fun b o h => by
  obtain ⟨h1, h2⟩ := cut_some h
  rw [cut_out (fun e => h1 (List.mem_cons_of_mem _ e))]
  exact h2
theorem cut_more {Z : List Addr} {c : Addr} {H : Hp} (n : H c = none) : Same (cut Z H) (cut (c :: Z) H) := fun b o h => by
  obtain ⟨h1, h2⟩ := cut_some h
  rw [cut_out (fun e => by
    rcases List.mem_cons.mp e with e | e
    · rw [e, n] at h2; cases h2
    · exact h1 e)]
  exact h2
def Dz (K : PySem.W.Frag) (Z : List Addr) (H : Hp) (x : V) (d : PyData) : Prop := Dq K (cut Z H) x d
def DzAll (K : PySem.W.Frag) (Z : List Addr) (H : Hp) (xs : List V) (ds : List PyData) : Prop := DqAll K (cut Z H) xs ds
theorem Dz.step {K : PySem.W.Frag} {Z : List Addr} {p : Addr} {H H' : Hp} {x : V} {d : PyData} (h : Dz K Z H x d) (z : PZ Z p H) (b : But p H H') : Dz K Z H' x d := Dq.same (cut_but z.mem b) h
theorem DzAll.step {K : PySem.W.Frag} {Z : List Addr} {p : Addr} {H H' : Hp} {x : List V} {d : List PyData} (h : DzAll K Z H x d) (z : PZ Z p H) (b : But p H H') : DzAll K Z H' x d := DqAll.same (cut_but z.mem b) h
theorem Dz.same {K : PySem.W.Frag} {Z : List Addr} {H H' : Hp} {x : V} {d : PyData} (h : Dz K Z H x d) (b : Same H H') : Dz K Z H' x d := Dq.same (cut_same b) h
theorem DzAll.same {K : PySem.W.Frag} {Z : List Addr} {H H' : Hp} {x : List V} {d : List PyData} (h : DzAll K Z H x d) (b : Same H H') : DzAll K Z H' x d := DqAll.same (cut_same b) h
theorem Dz.dq {K : PySem.W.Frag} {Z : List Addr} {H : Hp} {x : V} {d : PyData} (h : Dz K Z H x d) : Dq K H x d := Dq.same cut_sub h
theorem DzAll.dq {K : PySem.W.Frag} {Z : List Addr} {H : Hp} {x : List V} {d : List PyData} (h : DzAll K Z H x d) : DqAll K H x d := DqAll.same cut_sub h
theorem Dz.less {K : PySem.W.Frag} {Z : List Addr} {c : Addr} {H : Hp} {x : V} {d : PyData} (h : Dz K (c :: Z) H x d) : Dz K Z H x d := Dq.same cut_less h
theorem DzAll.less {K : PySem.W.Frag} {Z : List Addr} {c : Addr} {H : Hp} {x : List V} {d : List PyData} (h : DzAll K (c :: Z) H x d) : DzAll K Z H x d := DqAll.same cut_less h
theorem Dz.more {K : PySem.W.Frag} {Z : List Addr} {c : Addr} {H : Hp} {x : V} {d : PyData} (h : Dz K Z H x d) (n : H c = none) : Dz K (c :: Z) H x d := Dq.same (cut_more n) h
theorem DzAll.more {K : PySem.W.Frag} {Z : List Addr} {c : Addr} {H : Hp} {x : List V} {d : List PyData} (h : DzAll K Z H x d) (n : H c = none) : DzAll K (c :: Z) H x d := DqAll.same (cut_more n) h
theorem DzAll.upd {K : PySem.W.Frag} {Z : List Addr} {c : Addr} {H : Hp} {o : HO} {x : List V} {d : List PyData} (h : DzAll K Z H x d) (m : c ∈ Z) : DzAll K Z (L2.upd H c o) x d := by
  unfold DzAll; rw [cut_upd m]; exact h
/-- a new tuple, a new list of data -/
theorem Dz.new_tup {K : PySem.W.Frag} {Z : List Addr} {p t : Addr} {H : Hp} {xs : List V} {ds : List PyData} (h : DzAll K Z H xs ds) (z : PZ Z p H) (n : H t = none) : Dz K Z (upd H t (.tup xs)) (.ref t) (.tuple ds) :=
  .tup (SqT.of (by rw [cut_out (z.notin n)]; exact upd_same)) (h.same (same_upd n))
theorem Dz.new_lst {K : PySem.W.Frag} {Z : List Addr} {p t : Addr} {H : Hp} {xs : List V} {ds : List PyData} (h : DzAll K Z H xs ds) (z : PZ Z p H) (n : H t = none) : Dz K Z (upd H t (.lst xs)) (.ref t) (.list ds) :=
  .lst (SqL.of (by rw [cut_out (z.notin n)]; exact upd_same)) (h.same (same_upd n))
theorem dz_strs {K : PySem.W.Frag} {Z : List Addr} {H : Hp} : ∀ ss : List Str, DzAll K Z H (ss.map V.str) (ss.map PyData.str)
  | [] => .nil
  | s :: ss => .cons (.str s) (dz_strs ss)
def wsL : List Str := ["a", "c", "one", ""]
def wsT : List Str := ["a", "b", "", "clash"]
def lnD (ss : List Str) : PyData := .tuple (ss.map .str)
def Few (ss : List Str) : Prop := ss.length ≤ 3 ∧ ∀ s ∈ ss, s ∈ wsL
def GoodTok (d : PyData) : Prop := (∃ s ∈ wsT, d = .str s) ∨ ∃ (lo hi : Int) (ss ts : List Str), d = .tuple [.str "clash", .int lo, .int hi, lnD ss, lnD ts] ∧ 0 ≤ lo ∧ lo ≤ hi ∧ hi ≤ 60 ∧ Few ss ∧ Few ts
def spLinesL (K : PySem.W.Frag) : Sp := fun vs H Q _ => ∃ p Z, vs = [.ref p] ∧ PZ Z p H ∧ ∀ t ss H', PotAt H' p → But p H H' → Dz K Z H' (.ref t) (lnD ss) → Few ss → Q (.ref t) H'
def spFresh (K : PySem.W.Frag) : Sp := fun vs H Q _ => ∃ p Z, vs = [.ref p] ∧ PZ Z p H ∧ ∀ t d H', PotAt H' p → But p H H' → Dz K Z H' t d → GoodTok d → tupB d = true → Q t H'
def spTokens (K : PySem.W.Frag) : Sp := fun vs H Q _ => ∃ (p : Addr) (Z : List Addr) (m : Int), vs = [.ref p, .int m] ∧ PZ Z p H ∧ 0 ≤ m ∧ m ≤ 100 ∧ ∀ t ds H', PotAt H' p → But p H H' → Dz K Z H' (.ref t) (.tuple ds) → (∀ d ∈ ds, GoodTok d) → (ds.length : Int) ≤ m → Q (.ref t) H'
end XR
namespace K65
open PySem L2 XR
abbrev sTokens : Stmt := top 26
abbrev sFresh : Stmt := top 27
abbrev sLinesL : Stmt := top 28
section
variable {P : Program} {w : World} {K : PySem.W.Frag} {mg : Str → Option Value} {base : Heap}
theorem scLinesL : FnScope ["_law_pot_here", "_law_turn"] ["_law_pot_here"] (defScope sLinesL) := ⟨rfl, rfl, rfl, by decide +kernel, rfl, by decide +kernel, by decide +kernel⟩
theorem ok_linesL {f fD fP : Addr} {fd fdD fdP : FuncData} (F : Fun K "_law_lines" "_law_lines" sLinesL f fd) (T : Blt mg) (D : Draws P w K mg base fD fP fdD fdP) : FnOk P w K mg base CX0 3 f fd ["_law_pot_here"] (spLinesL K) := by
  refine F.ok scLinesL (fun vs H Q E h => ?_) (fun cdv A outer s H vs Q E hr h => ?_)
  · obtain ⟨p, Z, rfl, _⟩ := h
    rfl
  · obtain ⟨p, Z, rfl, hz, z⟩ := h
    have hp := hz.pot
    refine ⟨_, pss_one (ps_ret (pe_callTy call_tuple_of (by rfl) T.tuple (by decide +kernel) (pa_cons (pe_lc (own := [("_law_turn", 1)]) (g := gName 1) (tt := tYes) (te := tCall spPick [] E0 (tCons (tVar 0) (tCons (tLst (tCons (tC (.str "a")) (tCons (tC (.str "c")) (tCons (tC (.str "one")) (tCons (tC (.str "")) tNil))))) tNil))) rfl scLinesL.nd
          (pi_range1 rfl T.range (pa_cons (pe_call D.GD (hr.mono (by decide)) rfl D.mD D.FD.kp D.bD .nil pass0 (pa_cons (pv 0) (pa_cons pe_int pa_nil))) pa_nil))
          (blkOk_by (own := [("_law_turn", 1)]) (N := ["_law_pot_here", "_law_turn"]) (sc := defScope sLinesL) (by decide +kernel))
          (fun _ _ _ _ _ => pg_name (i := 1) scLinesL.nd rfl (Or.inl rfl)) (fun _ _ _ _ _ => pts_nil)
          (fun _ _ _ _ _ => pe_call D.GP hr rfl D.mP D.FP.kp D.bP .nil pass0 (pa_cons (pv 0) (pa_cons (pe_lst (pa_cons pe_str (pa_cons pe_str (pa_cons pe_str (pa_cons pe_str pa_nil))))) pa_nil)))) pa_nil))), ?_⟩
    refine ⟨_, rfl, p, 4, rfl, hp, by decide, by decide, fun r H2 r0 r1 hp2 b2 => ?_⟩
    refine ⟨r, rfl, by omega, by omega, fun c nc => ?_⟩
    have hac := hp2.ne nc
    refine lc_range (n := r.toNat) (fun j H' => PotAt H' p ∧ But p H2 H' ∧ ∃ ss : List Str, H' c = some (.lst (ss.map V.str)) ∧ (∀ s ∈ ss, s ∈ wsL) ∧ ss.length = j) ⟨hp2.upd hac, (But.refl p H2).new nc, [], upd_same, (fun s h => by cases h), rfl⟩ ?_ ?_
    · rintro j H' hj ⟨hp', b', ss, hc, hwd', hl⟩
      refine ⟨rfl, ?_⟩
      unfold tYes
      dsimp only
      rw [if_pos rfl]
      refine ⟨_, rfl, ll20 (by show 4 ≤ 20; decide), fun q nq => ?_⟩
      have sq := same_upd (o := .lst [V.str "a", V.str "c", V.str "one", V.str ""]) nq
      refine ⟨p, q, wsL.map V.str, rfl, hp'.same sq, upd_same, hp'.ne nq, by decide, by decide, fun x H3 hx hp3 b3 => ?_⟩
      obtain ⟨s, hs, rfl⟩ := List.mem_map.mp hx
      have hc3 := b3 _ _ (sq _ _ hc) hac.symm
      refine ⟨_, hc3, ?_, hp3.upd hac, ?_, ss ++ [s], ?_, ?_, ?_⟩
      · rw [List.length_map, hl]
        exact Nat.lt_of_lt_of_le hj (Nat.le_trans (show r.toNat ≤ 4 by omega) (by decide))
      · intro b o hb hn
        have hb' := b3 _ _ (sq _ _ (b' _ _ hb hn)) hn
        by_cases e : b = c
        · subst e; rw [nc] at hb; cases hb
        · rw [upd_ne e]; exact hb'
      · rw [upd_same, List.map_append]; rfl
      · intro y hy
        rcases List.mem_append.mp hy with hy | hy
        · exact hwd' y hy
        · rw [List.mem_singleton.mp hy]; exact hs
      · rw [List.length_append, hl]; rfl
    · rintro H' ⟨hp', b', ss, hc, hwd', hl⟩
      refine ⟨c, _, rfl, .inl ⟨SqL.of hc, fun t nt => ?_⟩⟩
      exact z t ss _ (hp'.same (same_upd nt)) (b2.trans (b'.trans ((But.refl p H').new nt))) (Dz.new_tup (dz_strs ss) (hz.step hp' (b2.trans b')) nt) ⟨by omega, hwd'⟩
end
end K65
namespace K65
open PySem L2 XR
section
variable {P : Program} {w : World} {K : PySem.W.Frag} {mg : Str → Option Value} {base : Heap}
theorem scFresh : FnScope ["_law_pot_here", "_law_low", "_law_high"] ["_law_pot_here"] (defScope sFresh) := ⟨rfl, rfl, rfl, by decide +kernel, rfl, by decide +kernel, by decide +kernel⟩
theorem ok_fresh {f fD fP fL : Addr} {fd fdD fdP fdL : FuncData} (F : Fun K "_law_fresh_clash" "_law_fresh_clash" sFresh f fd) (T : Blt mg) (D : Draws P w K mg base fD fP fdD fdP)
    (FL : Fun K "_law_lines" "_law_lines" sLinesL fL fdL) (GL : FnOk P w K mg base CX0 3 fL fdL ["_law_pot_here"] (spLinesL K)) (bL : Binds K fdL ["_law_pot_here"] []) (mL : mg "_law_lines" = some (.ref fL)) : FnOk P w K mg base CX0 4 f fd ["_law_pot_here"] (spFresh K) := by
  refine F.ok scFresh (fun vs H Q E h => ?_) (fun cdv A outer s H vs Q E hr h => ?_)
  · obtain ⟨p, Z, rfl, _⟩ := h
    rfl
  · obtain ⟨p, Z, rfl, hz, z⟩ := h
    have hp := hz.pot
    have hr1 := hr.mono (show 1 ≤ 3 by decide)
    have hr2 := hr.mono (show 2 ≤ 3 by decide)
    refine ⟨_, pss_cons (ps_set (i := 1) scFresh.nd rfl (.inl rfl) (pe_call D.GP hr2 rfl D.mP D.FP.kp D.bP .nil pass0 (pa_cons (pv 0) (pa_cons (pe_lst (pa_cons pe_int (pa_cons pe_int (pa_cons (pe_call D.GD hr1 rfl D.mD D.FD.kp D.bD .nil pass0 (pa_cons (pv 0) (pa_cons pe_int pa_nil))) pa_nil)))) pa_nil))))
      (pss_cons (ps_set (i := 2) scFresh.nd rfl (.inl rfl) (pe_op op_add (pv 1) (pe_call D.GP hr2 rfl D.mP D.FP.kp D.bP .nil pass0 (pa_cons (pv 0) (pa_cons (pe_lst (pa_cons pe_int (pa_cons (pe_callB (call_min2 rfl) (by rfl) T.min (by decide +kernel) (pa_cons (pe_op op_sub pe_int (pv 1)) (pa_cons pe_int pa_nil))) (pa_cons (pe_call D.GD hr1 rfl D.mD D.FD.kp D.bD .nil pass0 (pa_cons (pv 0) (pa_cons (pe_op op_sub pe_int (pv 1)) pa_nil))) pa_nil)))) pa_nil)))))
      (pss_one (ps_ret (pe_tup (pa_cons pe_str (pa_cons (pv 1) (pa_cons (pv 2) (pa_cons (pe_call GL hr rfl mL FL.kp bL .nil pass0 (pa_cons (pv 0) pa_nil)) (pa_cons (pe_call GL hr rfl mL FL.kp bL .nil pass0 (pa_cons (pv 0) pa_nil)) pa_nil))))))))), ?_⟩
    refine ⟨_, rfl, _, rfl, p, 61, rfl, hp, by decide, by decide, fun r H1 r0 r1 hp1 b1 => ⟨ll20 (by show 3 ≤ 20; decide), fun l nl => ?_⟩⟩
    have sl := same_upd (o := .lst [V.int 0, V.int 1, V.int r]) nl
    have bl : But p H1 (upd H1 l (.lst [V.int 0, V.int 1, V.int r])) := (But.refl p H1).new nl
    refine ⟨p, l, _, rfl, hp1.same sl, upd_same, hp1.ne nl, by show 0 < 3; decide, by show 3 ≤ 1000; decide, fun x H2 hx hp2 b2 => ?_⟩
    obtain ⟨lo, rfl, l0, l1⟩ : ∃ lo : Int, x = .int lo ∧ 0 ≤ lo ∧ lo ≤ 60 := by
      simp only [List.mem_cons, List.not_mem_nil, or_false] at hx
      rcases hx with rfl | rfl | rfl
      · exact ⟨0, rfl, by decide, by decide⟩
      · exact ⟨1, rfl, by decide, by decide⟩
      · exact ⟨r, rfl, r0, by omega⟩
    have hb2 := (b1.trans bl).trans b2
    generalize upd H1 l (.lst [V.int 0, V.int 1, V.int r]) = G at b2 bl sl
    refine ⟨_, rfl, _, rfl, _, rfl, _, _, rfl, rfl, _, _, rfl, _, rfl, _, rfl, _, _, rfl, rfl, p, 61 - lo, rfl, hp2, by omega, by omega, fun r2 H3 r20 r21 hp3 b3 => ⟨ll20 (by show 3 ≤ 20; decide), fun l2 nl2 => ?_⟩⟩
    have sl2 := same_upd (o := .lst [V.int 0, V.int (if (1 : Int) < 60 - lo then 1 else 60 - lo), V.int r2]) nl2
    have bl2 : But p H3 (upd H3 l2 (.lst [V.int 0, V.int (if (1 : Int) < 60 - lo then 1 else 60 - lo), V.int r2])) := (But.refl p H3).new nl2
    refine ⟨p, l2, _, rfl, hp3.same sl2, upd_same, hp3.ne nl2, by show 0 < 3; decide, by show 3 ≤ 1000; decide, fun x H4 hx hp4 b4 => ?_⟩
    obtain ⟨st, rfl, t0, t1⟩ : ∃ st : Int, x = .int st ∧ 0 ≤ st ∧ lo + st ≤ 60 := by
      simp only [List.mem_cons, List.not_mem_nil, or_false] at hx
      rcases hx with rfl | rfl | rfl
      · exact ⟨0, rfl, by decide, by omega⟩
      · exact ⟨_, rfl, by split <;> omega, by split <;> omega⟩
      · exact ⟨r2, rfl, r20, by omega⟩
    have hb4 := ((hb2.trans b3).trans bl2).trans b4
    generalize upd H3 l2 (.lst [V.int 0, V.int (if (1 : Int) < 60 - lo then 1 else 60 - lo), V.int r2]) = G2 at b4 bl2 sl2
    refine ⟨_, _, rfl, rfl, ?_⟩
    have hz4 := hz.step hp4 hb4
    refine ⟨_, rfl, _, rfl, _, rfl, p, Z, rfl, hz4, fun ta ss1 H5 hp5 b5 k1 f1 => ⟨_, rfl, p, Z, rfl, hz4.step hp5 b5, fun tb ss2 H6 hp6 b6 k2 f2 => ⟨ll20 (by show 5 ≤ 20; decide), fun t nt => ?_⟩⟩⟩
    refine z (.ref t) (.tuple [.str "clash", .int lo, .int (lo + st), lnD ss1, lnD ss2]) _ (hp6.same (same_upd nt)) (((hb4.trans b5).trans b6).trans ((But.refl p H6).new nt)) (Dz.new_tup (.cons (.str _) (.cons (.int _) (.cons (.int _) (.cons (k1.step (hz4.step hp5 b5) b6) (.cons k2 .nil))))) ((hz4.step hp5 b5).step hp6 b6) nt) ?_ rfl
    exact .inr ⟨lo, lo + st, ss1, ss2, rfl, l0, by omega, t1, f1, f2⟩
theorem scTokens : FnScope ["_law_pot_here", "_law_most", "_law_found", "_law_turn"] ["_law_pot_here", "_law_most"] (defScope sTokens) := ⟨rfl, rfl, rfl, by decide +kernel, rfl, by decide +kernel, by decide +kernel⟩
theorem ok_tokens {f fD fP fL : Addr} {fd fdD fdP fdL : FuncData} (F : Fun K "_law_tokens" "_law_tokens" sTokens f fd) (T : Blt mg) (D : Draws P w K mg base fD fP fdD fdP)
    (FL : Fun K "_law_fresh_clash" "_law_fresh_clash" sFresh fL fdL) (GL : FnOk P w K mg base CX0 4 fL fdL ["_law_pot_here"] (spFresh K)) (bL : Binds K fdL ["_law_pot_here"] []) (mL : mg "_law_fresh_clash" = some (.ref fL)) : FnOk P w K mg base CX0 5 f fd ["_law_pot_here", "_law_most"] (spTokens K) := by
  refine F.ok scTokens (fun vs H Q E h => ?_) (fun cdv A outer s H vs Q E hr h => ?_)
  · obtain ⟨p, Z, m, rfl, _⟩ := h
    rfl
  · obtain ⟨p, Z, m, rfl, hz, m0, m1, z⟩ := h
    have hp := hz.pot
    have hr1 := hr.mono (show 1 ≤ 4 by decide)
    have hr2 := hr.mono (show 2 ≤ 4 by decide)
    refine ⟨_, pss_cons (ps_set (i := 2) scTokens.nd rfl (.inl rfl) (pe_lst pa_nil))
      (pss_cons (ps_for PassesOwn.never rfl (pi_range1 rfl T.range (pa_cons (pe_call D.GD hr1 rfl D.mD D.FD.kp D.bD .nil pass0 (pa_cons (pv 0) (pa_cons (pe_op op_add (pv 1) pe_int) pa_nil))) pa_nil)) (pg_name (i := 3) scTokens.nd rfl (.inl rfl))
        (pss_one (ps_expr (pe_bm PySem.F.plainAttrs_list PySem.F.slot_list_append PySem.F.type_list_append mt_append (pv 2) (pa_cons (pe_ifExp (pt_cmpR op_gt (pe_call D.GD hr1 rfl D.mD D.FD.kp D.bD .nil pass0 (pa_cons (pv 0) (pa_cons pe_int pa_nil))) pe_int (nomark _))
          (pe_call D.GP hr2 rfl D.mP D.FP.kp D.bP .nil pass0 (pa_cons (pv 0) (pa_cons (pe_lst (pa_cons pe_str (pa_cons pe_str (pa_cons pe_str (pa_cons pe_str pa_nil))))) pa_nil))) (pe_call GL hr rfl mL FL.kp bL .nil pass0 (pa_cons (pv 0) pa_nil))) pa_nil)))))
      (pss_one (ps_ret (pe_callTy call_tuple_of (by rfl) T.tuple (by decide +kernel) (pa_cons (pv 2) pa_nil))))), ?_⟩
    refine ⟨ll20 (by decide), fun c nc => ?_⟩
    have b0 : But p H (upd H c (.lst [])) := (But.refl p H).new nc
    have hp0 := hp.upd (o := .lst []) (hp.ne nc)
    have hc0 := upd_same (H := H) (a := c) (o := .lst [])
    have apc := hp.ne nc
    generalize upd H c (.lst []) = H0 at b0 hp0 hc0
    refine ⟨_, rfl, _, rfl, _, _, rfl, rfl, p, m + 1, rfl, hp0, by omega, by omega, fun r H1 r0 r1 hp1 b1 => ?_⟩
    have hc1 := b1 _ _ hc0 apc.symm
    have bH1 := b0.trans b1
    have hz1 := (hz.step hp1 bH1).more hc1
    refine ⟨r, rfl, by omega, by omega, for_range (n := r.toNat) (fun i σ H' => PotAt H' p ∧ But p H H' ∧ PZ (c :: Z) p H' ∧ ∃ (xs : List V) (ds : List PyData) (x3 : Option V), σ = [some (V.ref p), some (V.int m), some (V.ref c), x3] ∧ H' c = some (.lst xs) ∧ DzAll K (c :: Z) H' xs ds ∧ (∀ d ∈ ds, GoodTok d) ∧ ds.length = i)
      ⟨hp1, bH1, hz1, [], [], _, rfl, hc1, .nil, (fun d h => nomatch h), rfl⟩ ?_ ?_⟩
    · rintro i σ Ha hi ⟨hp', hb', hz', xs, ds, x3, rfl, hc, hx, hg, hl⟩
      have key : ∀ (y : V) (d : PyData) (H3 : Hp), PotAt H3 p → But p Ha H3 → Dz K (c :: Z) H3 y d → GoodTok d →
          ∃ l zs v, V.ref c = V.ref l ∧ [y] = [v] ∧ H3 l = some (.lst zs) ∧ zs.length < sizeLine ∧ (PotAt (upd H3 l (.lst (zs ++ [v]))) p ∧ But p H (upd H3 l (.lst (zs ++ [v]))) ∧ PZ (c :: Z) p (upd H3 l (.lst (zs ++ [v]))) ∧
            ∃ (xs' : List V) (ds' : List PyData) (x3' : Option V), [some (V.ref p), some (V.int m), some (V.ref c), some (V.int (0 + (i : Int)))] = [some (V.ref p), some (V.int m), some (V.ref c), x3'] ∧ (upd H3 l (.lst (zs ++ [v]))) c = some (.lst xs') ∧ DzAll K (c :: Z) (upd H3 l (.lst (zs ++ [v]))) xs' ds' ∧ (∀ d ∈ ds', GoodTok d) ∧ ds'.length = i + 1) := by
        intro y d H3 hp3 b3 hd gd
        have hc3 := b3 _ _ hc apc.symm
        have hz3 := hz'.step hp3 b3
        have hxl := DqAll.length hx
        have hpu := hp3.upd (o := .lst (xs ++ [y])) apc
        have bu : But p H (upd H3 c (.lst (xs ++ [y]))) := fun b o hb hn => by
          have hb2 := b3 _ _ (hb' _ _ hb hn) hn
          rw [upd_ne (ne_of_none hb nc)]
          exact hb2
        refine ⟨c, xs, y, rfl, rfl, hc3, Nat.lt_of_le_of_lt (show xs.length ≤ 101 by omega) (by decide), hpu, bu, ⟨hpu, hz3.mem, fun u hu => ?_⟩, xs ++ [y], ds ++ [d], _, rfl, upd_same, ?_, fun e he => ?_, ?_⟩
        · by_cases q : u = c
          · exact ⟨_, by rw [q]; exact upd_same⟩
          · obtain ⟨o, ho⟩ := hz3.live u hu
            exact ⟨o, by rw [upd_ne q]; exact ho⟩
        · exact DzAll.upd (DqAll.snoc (hx.step hz' b3) hd) (List.mem_cons_self ..)
        · rcases List.mem_append.mp he with he | he
          · exact hg e he
          · rw [List.mem_singleton.mp he]; exact gd
        · rw [List.length_append, hl]; rfl
      refine ⟨_, rfl, .inl ⟨rfl, _, SqL.of hc⟩, _, rfl, p, 3, rfl, hp', by decide, by decide, fun q H2 q0 q1 hp2 b2 => ⟨_, _, rfl, rfl, _, rfl, ?_⟩⟩
      have hz2 := hz'.step hp2 b2
      refine ite2 (fun _ => ?_) (fun _ => ?_)
      · refine ⟨_, rfl, ll20 (by show 4 ≤ 20; decide), fun k nk => ?_⟩
        have sk := same_upd (o := .lst [V.str "a", V.str "b", V.str "", V.str "clash"]) nk
        refine ⟨p, k, wsT.map V.str, rfl, hp2.same sk, upd_same, hp2.ne nk, by decide, by decide, fun x H3 hx3 hp3 b3 => ?_⟩
        obtain ⟨s, hs, rfl⟩ := List.mem_map.mp hx3
        exact key (.str s) (.str s) H3 hp3 ((b2.trans ((But.refl p H2).new nk)).trans b3) (.str s) (.inl ⟨s, hs, rfl⟩)
      · exact ⟨_, rfl, p, c :: Z, rfl, hz2, fun t d H3 hp3 b3 hd gd _ => key t d H3 hp3 (b2.trans b3) hd gd⟩
    · rintro σ Ha ⟨hp', hb', hz', xs, ds, x3, rfl, hc, hx, hg, hl⟩
      refine ⟨_, rfl, c, _, rfl, .inl ⟨SqL.of hc, fun t nt => ?_⟩⟩
      have hzz := hz.step hp' hb'
      exact z t ds _ (hp'.same (same_upd nt)) (hb'.trans ((But.refl p Ha).new nt)) (Dz.new_tup (DzAll.less hx) hzz nt) hg (by omega)
end
end K65
namespace XR
open PySem L2
def fourV : List V := [V.str "one", V.str "two", V.str "both", V.str "none"]
def sideB : PyData → Bool
  | .str s => inV (.str s) fourV
  | .list fs => fs.all isLine
  | .tuple fs => fs.all isLine
  | _ => false
def spSideJ (K : PySem.W.Frag) : Sp := fun vs H Q _ => ∃ (x : V) (d : PyData), vs = [x] ∧ Dq K H x d ∧ (itemsOf d).length ≤ 1000 ∧ ∀ H', Same H H' → Q (.bl (sideB d)) H'
theorem kit_seq {K : PySem.W.Frag} (d : PyData) : PySem.W.kitAny K (.type (tyN d)) [.type "list", .type "tuple"] = some (isSeq d) := by
  cases d <;> kernel_rfl
/-- the lines that a side tells of a clash -/
def losD (o t : List PyData) : PyData → List PyData
  | .str s => if V.str s = V.str "none" then [] else if V.str s = V.str "one" then o else if V.str s = V.str "two" then t else o ++ t
  | d => itemsOf d
def spLos (K : PySem.W.Frag) : Sp := fun vs H Q _ => ∃ (q : Addr) (x0 x1 x2 x3 x4 x : V) (o t : List PyData) (d : PyData), vs = [.ref q, x] ∧ SqT K H q [x0, x1, x2, x3, x4] ∧ Dq K H x3 (.tuple o) ∧ Dq K H x4 (.tuple t) ∧ o.length + t.length ≤ 1000 ∧ Dq K H x d ∧ sideB d = true ∧ (itemsOf d).length ≤ 1000 ∧
  ∀ l ys H', Same H H' → H l = none → H' l = some (.lst ys) → DqAll K H' ys (losD o t d) → Q (.ref l) H'
end XR
namespace K65
open PySem L2 XR
abbrev sIsList : Stmt := top 6
abbrev sIsSide : Stmt := top 19
abbrev sLos : Stmt := top 20
section
variable {P : Program} {w : World} {K : PySem.W.Frag} {mg : Str → Option Value} {base : Heap}
theorem scIsList : FnScope ["value"] ["value"] (defScope sIsList) := ⟨rfl, rfl, rfl, by decide +kernel, rfl, by decide +kernel, by decide +kernel⟩
theorem ok_isList {f : Addr} {fd : FuncData} (F : Fun K "is_list" "is_list" sIsList f fd) (T : Blt mg) : FnOk P w K mg base CX0 1 f fd ["value"] (spJudge K isSeq) := by
  refine F.ok scIsList (fun vs H Q E h => ?_) (fun cdv A outer s H vs Q E hr h => ?_)
  · obtain ⟨x, d, rfl, _⟩ := h
    rfl
  · obtain ⟨x, d, rfl, hd, z⟩ := h
    refine ⟨_, pss_one (ps_ret (pe_callB call_isiT (by rfl) T.isin (by decide +kernel) (pa_cons (pv 0) (pa_cons (pe_tup (pa_cons (pe_bltn (v := .ty "list") (u := .type "list") (by rfl) (T.all "list" (by decide)) (by decide +kernel) rfl) (pa_cons (pe_bltn (v := .ty "tuple") (u := .type "tuple") (by rfl) (T.all "tuple" (by decide)) (by decide +kernel) rfl) pa_nil))) pa_nil)))), ?_⟩
    refine ⟨_, rfl, ll20 (by show 2 ≤ 20; decide), fun t nt => ?_⟩
    have s := same_upd (o := .tup [V.ty "list", V.ty "tuple"]) nt
    exact ⟨x, t, _, _, _, _, rfl, upd_same, .cons (.ty "list") (.cons (.ty "tuple") .nil), (hd.same s).ty, kit_seq d, z _ s⟩
theorem scIsSide : FnScope ["value", "line"] ["value"] (defScope sIsSide) := ⟨rfl, rfl, rfl, by decide +kernel, rfl, by decide +kernel, by decide +kernel⟩
theorem ok_isSide {f fL fI : Addr} {fd fdL fdI : FuncData} (F : Fun K "is_side" "is_side" sIsSide f fd) (T : Blt mg)
    (FL : Fun K "is_list" "is_list" sIsList fL fdL) (bL : Binds K fdL ["value"] []) (mL : mg "is_list" = some (.ref fL))
    (FI : Fun K "is_line" "is_line" sLine fI fdI) (bI : Binds K fdI ["value"] []) (mI : mg "is_line" = some (.ref fI)) : FnOk P w K mg base CX0 2 f fd ["value"] (spSideJ K) := by
  have GL := ok_isList (P := P) (w := w) (base := base) FL T
  have GI := ok_line (P := P) (w := w) (base := base) FI T
  refine F.ok scIsSide (fun vs H Q E h => ?_) (fun cdv A outer s H vs Q E hr h => ?_)
  · obtain ⟨x, d, rfl, _⟩ := h
    rfl
  · obtain ⟨x, d, rfl, hd, hn, z⟩ := h
    have hd0 := hd
    cases hd with
    | @lst a xs ds h1 h2 =>
      refine ⟨_, pss_cons (ps_if (pt_val (pe_callB call_isi (by rfl) T.isin (by decide +kernel) (pa_cons (pv 0) (pa_cons (pe_bltn (v := .ty "str") (u := .type "str") (by rfl) T.str (by decide +kernel) rfl) pa_nil)))) (pss_one (ps_ret (pe_cmpR op_in_seq (pv 0) (pe_tup (pa_cons pe_str (pa_cons pe_str (pa_cons pe_str (pa_cons pe_str pa_nil))))) (by rfl)))) pss_nil)
        (pss_one (ps_ret (pe_and (pe_call GL hr rfl mL FL.kp bL .nil pass0 (pa_cons (pv 0) pa_nil)) (pe_one (pe_callB (cr_all rfl) (by rfl) (T.all "all" (by decide)) (by decide +kernel) (pa_cons (pe_lc (own := [("line", 1)]) (g := gName 1) (tt := tYes) (te := tCall (spJudge K isLine) [] E0 (tCons (tVar 1) tNil)) rfl scIsSide.nd (pi_list (pv 0))
          (blkOk_by (own := [("line", 1)]) (N := ["value", "line"]) (sc := defScope sIsSide) (by decide +kernel)) (fun _ _ _ _ _ => pg_name (i := 1) scIsSide.nd rfl (Or.inl rfl)) (fun _ _ _ _ _ => pts_nil)
          (fun _ _ _ _ _ => pe_call GI hr rfl mI FI.kp bI .nil pass0 (pa_cons (pv 1) pa_nil))) pa_nil)))))), ?_⟩
      refine ⟨_, rfl, _, _, _, _, _, rfl, .ty "str", hd0.ty, kit_ty (kit_str _), _, rfl, ?_⟩
      refine iteF ⟨_, rfl, _, _, rfl, hd0, fun H1 s1 => ⟨_, rfl, iteT ?_⟩⟩
      have hlen := h2.length
      have hn' : ds.length ≤ 1000 := hn
      have h1' : SqL K H1 a xs := s1.seq h1
      refine ⟨_, rfl, a, rfl, ⟨_, h1'⟩, fun D nD => ?_⟩
      have sD := same_upd (o := .lst []) nD
      refine lc_list (K := K) (a := a) (xs := xs) (fun i H' => Same H1 H' ∧ H' D = some (.lst (((ds.take i).map isLine).map V.bl))) ⟨sD, upd_same⟩ (fun i H' _ hh => hh.1.seq h1') ?_ ?_
      · rintro i x H' hx ⟨sm, hD⟩
        obtain ⟨d, hd1, hd2⟩ := h2.get hx
        refine ⟨rfl, ?_⟩
        unfold tYes
        dsimp only
        rw [if_pos rfl]
        refine ⟨_, rfl, x, d, rfl, (hd2.same s1).same sm, fun H2 s2 => ⟨_, s2 _ _ hD, ?_, fun b o h => ?_, ?_⟩⟩
        · rw [List.length_map, List.length_map]
          have c3 : (ds.take i).length ≤ 1000 := by rw [List.length_take]; omega
          exact Nat.lt_of_le_of_lt c3 (by decide)
        · rw [upd_ne (ne_of_none h nD)]
          exact s2 _ _ (sm _ _ h)
        · rw [upd_same, List.take_add_one, hd1, List.map_append, List.map_append]
          rfl
      · rintro H' ⟨sm, hD⟩
        refine ⟨D, ds.map isLine, rfl, SqL.of (by rw [hD, hlen, List.take_length]), ?_⟩
        have e : (ds.map isLine).all id = sideB (.list ds) := by
          rw [List.all_map]
          rfl
        rw [e]
        exact z _ (s1.trans sm)
    | @tup a xs ds h1 h2 =>
      refine ⟨_, pss_cons (ps_if (pt_val (pe_callB call_isi (by rfl) T.isin (by decide +kernel) (pa_cons (pv 0) (pa_cons (pe_bltn (v := .ty "str") (u := .type "str") (by rfl) T.str (by decide +kernel) rfl) pa_nil)))) (pss_one (ps_ret (pe_cmpR op_in_seq (pv 0) (pe_tup (pa_cons pe_str (pa_cons pe_str (pa_cons pe_str (pa_cons pe_str pa_nil))))) (by rfl)))) pss_nil)
        (pss_one (ps_ret (pe_and (pe_call GL hr rfl mL FL.kp bL .nil pass0 (pa_cons (pv 0) pa_nil)) (pe_one (pe_callB (cr_all rfl) (by rfl) (T.all "all" (by decide)) (by decide +kernel) (pa_cons (pe_lc (own := [("line", 1)]) (g := gName 1) (tt := tYes) (te := tCall (spJudge K isLine) [] E0 (tCons (tVar 1) tNil)) rfl scIsSide.nd (pi_tup (pv 0))
          (blkOk_by (own := [("line", 1)]) (N := ["value", "line"]) (sc := defScope sIsSide) (by decide +kernel)) (fun _ _ _ _ _ => pg_name (i := 1) scIsSide.nd rfl (Or.inl rfl)) (fun _ _ _ _ _ => pts_nil)
          (fun _ _ _ _ _ => pe_call GI hr rfl mI FI.kp bI .nil pass0 (pa_cons (pv 1) pa_nil))) pa_nil)))))), ?_⟩
      refine ⟨_, rfl, _, _, _, _, _, rfl, .ty "str", hd0.ty, kit_ty (kit_str _), _, rfl, ?_⟩
      refine iteF ⟨_, rfl, _, _, rfl, hd0, fun H1 s1 => ⟨_, rfl, iteT ?_⟩⟩
      have hlen := h2.length
      have hn' : ds.length ≤ 1000 := hn
      have h1' : SqT K H1 a xs := XR.Same.tup s1 h1
      refine ⟨_, rfl, a, rfl, ⟨_, h1'⟩, fun D nD => ?_⟩
      have sD := same_upd (o := .lst []) nD
      refine lc_tup (K := K) (a := a) (xs := xs) (fun i H' => Same H1 H' ∧ H' D = some (.lst (((ds.take i).map isLine).map V.bl))) ⟨sD, upd_same⟩ (fun i H' _ hh => XR.Same.tup hh.1 h1') ?_ ?_
      · rintro i x H' hx ⟨sm, hD⟩
        obtain ⟨d, hd1, hd2⟩ := h2.get hx
        refine ⟨rfl, ?_⟩
        unfold tYes
        dsimp only
        rw [if_pos rfl]
        refine ⟨_, rfl, x, d, rfl, (hd2.same s1).same sm, fun H2 s2 => ⟨_, s2 _ _ hD, ?_, fun b o h => ?_, ?_⟩⟩
        · rw [List.length_map, List.length_map]
          have c3 : (ds.take i).length ≤ 1000 := by rw [List.length_take]; omega
          exact Nat.lt_of_le_of_lt c3 (by decide)
        · rw [upd_ne (ne_of_none h nD)]
          exact s2 _ _ (sm _ _ h)
        · rw [upd_same, List.take_add_one, hd1, List.map_append, List.map_append]
          rfl
      · rintro H' ⟨sm, hD⟩
        refine ⟨D, ds.map isLine, rfl, SqL.of (by rw [hD, hlen, List.take_length]), ?_⟩
        have e : (ds.map isLine).all id = sideB (.tuple ds) := by
          rw [List.all_map]
          rfl
        rw [e]
        exact z _ (s1.trans sm)
    | str s =>
      refine ⟨_, pss_cons (ps_if (pt_val (pe_callB call_isi (by rfl) T.isin (by decide +kernel) (pa_cons (pv 0) (pa_cons (pe_bltn (v := .ty "str") (u := .type "str") (by rfl) T.str (by decide +kernel) rfl) pa_nil)))) (pss_one (ps_ret (pe_cmpR op_in_seq (pv 0) (pe_tup (pa_cons pe_str (pa_cons pe_str (pa_cons pe_str (pa_cons pe_str pa_nil))))) (by rfl)))) pss_nil)
        (pss_one (ps_ret (pe_and (pe_call GL hr rfl mL FL.kp bL .nil pass0 (pa_cons (pv 0) pa_nil)) (pe_one (pe_callB (cr_all rfl) (by rfl) (T.all "all" (by decide)) (by decide +kernel) (pa_cons (pe_lc (own := [("line", 1)]) (g := gName 1) (tt := tYes) (te := tCall (spJudge K isLine) [] E0 (tCons (tVar 1) tNil)) rfl scIsSide.nd (pi_list (pv 0))
          (blkOk_by (own := [("line", 1)]) (N := ["value", "line"]) (sc := defScope sIsSide) (by decide +kernel)) (fun _ _ _ _ _ => pg_name (i := 1) scIsSide.nd rfl (Or.inl rfl)) (fun _ _ _ _ _ => pts_nil)
          (fun _ _ _ _ _ => pe_call GI hr rfl mI FI.kp bI .nil pass0 (pa_cons (pv 1) pa_nil))) pa_nil)))))), ?_⟩
      refine ⟨_, rfl, _, _, _, _, _, rfl, .ty "str", hd0.ty, kit_ty (kit_str _), _, rfl, ?_⟩
      refine iteT ⟨_, rfl, ll20 (by show 4 ≤ 20; decide), fun t nt => ⟨t, _, rfl, .inr (SqT.of upd_same), rfl, rfl, z _ (same_upd nt)⟩⟩
    | _ =>
      refine ⟨_, pss_cons (ps_if (pt_val (pe_callB call_isi (by rfl) T.isin (by decide +kernel) (pa_cons (pv 0) (pa_cons (pe_bltn (v := .ty "str") (u := .type "str") (by rfl) T.str (by decide +kernel) rfl) pa_nil)))) (pss_one (ps_ret (pe_cmpR op_in_seq (pv 0) (pe_tup (pa_cons pe_str (pa_cons pe_str (pa_cons pe_str (pa_cons pe_str pa_nil))))) (by rfl)))) pss_nil)
        (pss_one (ps_ret (pe_and (pe_call GL hr rfl mL FL.kp bL .nil pass0 (pa_cons (pv 0) pa_nil)) (pe_one (pe_callB (cr_all rfl) (by rfl) (T.all "all" (by decide)) (by decide +kernel) (pa_cons (pe_lc (own := [("line", 1)]) (g := gName 1) (tt := tYes) (te := tCall (spJudge K isLine) [] E0 (tCons (tVar 1) tNil)) rfl scIsSide.nd (pi_list (pv 0))
          (blkOk_by (own := [("line", 1)]) (N := ["value", "line"]) (sc := defScope sIsSide) (by decide +kernel)) (fun _ _ _ _ _ => pg_name (i := 1) scIsSide.nd rfl (Or.inl rfl)) (fun _ _ _ _ _ => pts_nil)
          (fun _ _ _ _ _ => pe_call GI hr rfl mI FI.kp bI .nil pass0 (pa_cons (pv 1) pa_nil))) pa_nil)))))), ?_⟩
      refine ⟨_, rfl, _, _, _, _, _, rfl, .ty "str", hd0.ty, kit_ty (kit_str _), _, rfl, ?_⟩
      exact iteF ⟨_, rfl, _, _, rfl, hd0, fun H1 s1 => ⟨_, rfl, iteF (z H1 s1)⟩⟩
theorem scLos : FnScope ["clash", "side", "_", "ones", "twos"] ["clash", "side"] (defScope sLos) := ⟨rfl, rfl, rfl, by decide +kernel, rfl, by decide +kernel, by decide +kernel⟩
theorem ok_los {f : Addr} {fd : FuncData} (F : Fun K "lines_of_side" "lines_of_side" sLos f fd) (T : Blt mg) : FnOk P w K mg base CX0 1 f fd ["clash", "side"] (spLos K) := by
  refine F.ok scLos (fun vs H Q E h => ?_) (fun cdv A outer s H vs Q E hr h => ?_)
  · obtain ⟨q, x0, x1, x2, x3, x4, x, o, t, d, rfl, _⟩ := h
    rfl
  · obtain ⟨q, x0, x1, x2, x3, x4, x, o, t, d, rfl, hq, h3, h4, hlen, hd, hs, hl, z⟩ := h
    refine ⟨_, pss_cons (ps_asg (pv 0) (pg_tup rfl (pgs_cons (pg_name (i := 2) scLos.nd rfl (.inl rfl)) (pgs_cons (pg_name (i := 2) scLos.nd rfl (.inl rfl)) (pgs_cons (pg_name (i := 2) scLos.nd rfl (.inl rfl)) (pgs_cons (pg_name (i := 3) scLos.nd rfl (.inl rfl)) (pgs_cons (pg_name (i := 4) scLos.nd rfl (.inl rfl)) pgs_nil)))))))
      (pss_cons (ps_if (pt_not (pt_val (pe_callB call_isi (by rfl) T.isin (by decide +kernel) (pa_cons (pv 1) (pa_cons (pe_bltn (v := .ty "str") (u := .type "str") (by rfl) T.str (by decide +kernel) rfl) pa_nil))))) (pss_one (ps_ret (pe_callTy call_list_of (by rfl) T.list (by decide +kernel) (pa_cons (pv 1) pa_nil)))) pss_nil)
      (pss_cons (ps_if (pt_cmpR op_eq (pv 1) pe_str (nomark _)) (pss_one (ps_ret (pe_lst pa_nil))) pss_nil)
      (pss_one (ps_ret (pe_callTy call_list_of (by rfl) T.list (by decide +kernel) (pa_cons (pe_ifExp (pt_cmpR op_eq (pv 1) pe_str (nomark _)) (pv 3) (pe_ifExp (pt_cmpR op_eq (pv 1) pe_str (nomark _)) (pv 4) (pe_op op_catA (pv 3) (pv 4)))) pa_nil)))))), ?_⟩
    refine ⟨_, rfl, q, _, rfl, hq, rfl, _, _, rfl, _, _, rfl, _, _, rfl, _, _, rfl, _, _, rfl, rfl, ?_⟩
    refine ⟨_, rfl, x, _, _, _, _, rfl, .ty "str", hd.ty, kit_ty (kit_str d), _, rfl, ?_⟩
    cases hd with
    | str s =>
      refine iteF ⟨_, rfl, rfl, _, rfl, ?_⟩
      have ez : losD o t (.str s) = if V.str s = V.str "none" then [] else if V.str s = V.str "one" then o else if V.str s = V.str "two" then t else o ++ t := rfl
      refine ite2 (fun c1 => ?_) (fun c1 => ?_)
      · rw [if_pos (of_decide_eq_true c1)] at ez
        refine ⟨ll20 (by show 0 ≤ 20; decide), fun l nl => ?_⟩
        exact z l [] _ (same_upd nl) nl upd_same (by rw [ez]; exact .nil)
      · have n1 : ¬ V.str s = V.str "none" := fun e => c1 (decide_eq_true e)
        rw [if_neg n1] at ez
        cases h3 with
        | @tup a3 ys3 _ k3 q3 =>
          cases h4 with
          | @tup a4 ys4 _ k4 q4 =>
            refine ⟨_, rfl, rfl, _, rfl, ?_⟩
            refine ite2 (fun c2 => ?_) (fun c2 => ?_)
            · rw [if_pos (of_decide_eq_true c2)] at ez
              refine ⟨_, rfl, a3, ys3, rfl, .inr k3, fun l nl => ?_⟩
              have sl := same_upd (o := .lst ys3) nl
              exact z l ys3 _ sl nl upd_same (by rw [ez]; exact q3.same sl)
            · have n2 : ¬ V.str s = V.str "one" := fun e => c2 (decide_eq_true e)
              rw [if_neg n2] at ez
              refine ⟨_, rfl, rfl, _, rfl, ?_⟩
              refine ite2 (fun c3 => ?_) (fun c3 => ?_)
              · rw [if_pos (of_decide_eq_true c3)] at ez
                refine ⟨_, rfl, a4, ys4, rfl, .inr k4, fun l nl => ?_⟩
                have sl := same_upd (o := .lst ys4) nl
                exact z l ys4 _ sl nl upd_same (by rw [ez]; exact q4.same sl)
              · have n3 : ¬ V.str s = V.str "two" := fun e => c3 (decide_eq_true e)
                rw [if_neg n3] at ez
                have l3 := q3.length
                have l4 := q4.length
                refine ⟨_, rfl, _, rfl, a3, a4, ys3, ys4, rfl, rfl, k3, k4, Nat.le_trans (show ys3.length + ys4.length ≤ 1000 by omega) (by decide), fun e => ?_, fun _ e => ?_, fun _ _ p np => ?_⟩
                · refine ⟨a4, ys4, rfl, .inr k4, fun l nl => ?_⟩
                  have sl := same_upd (o := .lst ys4) nl
                  have eo : o = [] := List.eq_nil_of_length_eq_zero (by rw [← l3, e]; rfl)
                  exact z l ys4 _ sl nl upd_same (by rw [ez, eo]; exact q4.same sl)
                · refine ⟨a3, ys3, rfl, .inr k3, fun l nl => ?_⟩
                  have sl := same_upd (o := .lst ys3) nl
                  have eo : t = [] := List.eq_nil_of_length_eq_zero (by rw [← l4, e]; rfl)
                  exact z l ys3 _ sl nl upd_same (by rw [ez, eo, List.append_nil]; exact q3.same sl)
                · have sp := same_upd (o := .tup (ys3 ++ ys4)) np
                  refine ⟨p, _, rfl, .inr (SqT.of upd_same), fun l nl => ?_⟩
                  have sl := same_upd (o := .lst (ys3 ++ ys4)) nl
                  exact z l _ _ (sp.trans sl) (none_back sp nl) upd_same (by rw [ez]; exact (DqAll.append q3 q4).same (sp.trans sl))
    | @lst a ys fs k1 k2 =>
      refine iteT ⟨_, rfl, a, ys, rfl, .inl k1, fun l nl => ?_⟩
      have sl := same_upd (o := .lst ys) nl
      exact z l ys _ sl nl upd_same (k2.same sl)
    | @tup a ys fs k1 k2 =>
      refine iteT ⟨_, rfl, a, ys, rfl, .inr k1, fun l nl => ?_⟩
      have sl := same_upd (o := .lst ys) nl
      exact z l ys _ sl nl upd_same (k2.same sl)
    | _ => exact Bool.noConfusion (show false = true from hs)
end
end K65
/-! zip of a list and a tuple of one length. -/
namespace XR
open PyProof.Rows hiding St
open PySem L2
def IzM (K : PySem.W.Frag) (a b : Addr) : It :=
  ⟨fun i H => ∃ (xs ys : List V) (x y : V), (SqL K H a xs ∧ SqT K H b ys) ∧ xs[i]? = some x ∧ ys[i]? = some y,
   fun i H v H' => ∃ T x y, v = .ref T ∧ H T = none ∧ H' = L2.upd H T (.tup [x, y]) ∧ (∀ xs ys, SqL K H a xs → SqT K H b ys → xs[i]? = some x ∧ ys[i]? = some y),
   fun i H => ∃ (xs ys : List V), (SqL K H a xs ∧ SqT K H b ys) ∧ xs.length = i ∧ ys.length = i⟩
theorem turn_zipM {P : Program} {w : World} {K : PySem.W.Frag} {elts : List Expr} {kk : Nat} {tpos : Pos} {a b z p q j1 j2 : Addr} (S : ZipSep2 z p q j1 j2 [j1, a] [j2, b]) (na : a ≠ j1) (nb : b ≠ j2) :
    Turn P w K (.Tuple elts kk tpos) (IzM K a b) [z, p, q, j1, j2] z (fun i h => IsZip h z p q .none ∧ IsTupOf2 h p (.ref j1) (.ref j2) ∧ (∃ u v, IsTupOf2 h q u v) ∧ h.IsListIter j1 a i ∧ h.IsTupleIter j2 b i) where
  mem := by simp
  obj := fun i h st c hc => by
    obtain ⟨m1, m2, ⟨u, v, m3⟩, ⟨o1, e1, _, d1⟩, ⟨o2, e2, _, d2⟩⟩ := st
    simp only [List.mem_cons, List.not_mem_nil, or_false] at hc
    rcases hc with rfl | rfl | rfl | rfl | rfl
    · exact ⟨_, m1, fun _ e => nomatch e⟩
    · exact ⟨_, m2, fun _ e => nomatch e⟩
    · exact ⟨_, m3, fun _ e => nomatch e⟩
    · exact ⟨o1, e1, fun _ e => by rw [d1] at e; cases e⟩
    · exact ⟨o2, e2, fun _ e => by rw [d2] at e; cases e⟩
  keep := fun i h h' st k => by
    obtain ⟨m1, m2, ⟨u, v, m3⟩, m4, m5⟩ := st
    exact ⟨k z (by simp) _ m1, k p (by simp) _ m2, ⟨u, v, k q (by simp) _ m3⟩, m4.at fun o e => k j1 (by simp) o e, m5.at fun o e => k j2 (by simp) o e⟩
  item := by
    intro X hP hw hK hc i pins s σ H E I hf st hg
    subst hP hw hK
    obtain ⟨m1, m2, ⟨u, v, m3⟩, m4, m5⟩ := st
    obtain ⟨xs, ys, x, y, ⟨hx, hy⟩, ex, ey⟩ := hg
    obtain ⟨us, ru, pu, _⟩ := I.list hx
    obtain ⟨ws, rw', pw, _⟩ := I.tuple hy
    have pw' : s.heap.IsTuple b ws.toArray := pw
    obtain ⟨g, hg1, rg⟩ := ru.get ex
    obtain ⟨k, hk1, rk⟩ := rw'.get ey
    have lu : i < us.toArray.size := by
      have := (List.getElem?_eq_some_iff.mp hg1).1
      simpa using this
    have lw : i < ws.toArray.size := by
      have := (List.getElem?_eq_some_iff.mp hk1).1
      simpa using this
    have lz : z < s.heap.objs.size := Heap.lt_size m1
    refine wpAny_pyNext_zipD2_item S (Draws.list (A := X.A.in1) (I.ok.hd hc) j1 a na us.toArray) (Draws.tuple (A := X.A.in1) (I.ok.hd hc) j2 b nb ws.toArray) m1 m2 m3 ⟨m4, pu.isList⟩ ⟨m5, pw'⟩ lu lw
      fun g' k' h' tk eg ek mz mq st1 st2 hT hsz keep => ?_
    obtain rfl : g' = g := by
      have h1 : us[i]? = some g' := by simpa using eg
      rw [hg1] at h1
      exact (Option.some.inj h1).symm
    obtain rfl : k' = k := by
      have h1 : ws[i]? = some k' := by simpa using ek
      rw [hk1] at h1
      exact (Option.some.inj h1).symm
    refine ⟨_, rfl, wpAny_letOwnedTupleGo_zip (s := { s with heap := h', toks := tk }) mz fun h'' mz' sb => ?_⟩
    have hT2 : h''.get? s.heap.objs.size = some { cls := .type "tuple", data := .seq #[g', k'] } := (sb.2 _ (Nat.ne_of_gt lz)).trans hT
    have fresh : ObjOk X.prog X.w (L2.upd H s.heap.objs.size (.tup [x, y])) h'' s.heap.objs.size (.tup [x, y]) :=
      ⟨by show 2 ≤ sizeLine; decide, [g', k'], .cons rg (.cons rk .nil), ⟨_, hT2, rfl, _, rfl⟩⟩
    have J : Inv X pins σ (L2.upd H s.heap.objs.size (.tup [x, y])) { s with heap := h'', toks := tk } :=
      I.turnedNew (ch := [z, p, q, j1, j2]) (fun c o nc e => (sb.2 c (fun w' => nc (by simp [w']))).trans (keep c o (fun w' => nc (by simp [w'])) (fun w' => nc (by simp [w'])) (fun w' => nc (by simp [w'])) (fun w' => nc (by simp [w'])) e)) hf (Nat.le_refl _) fresh
    refine ⟨.ref s.heap.objs.size, _, J, rfl, ⟨_, x, y, rfl, I.hok.fresh (Nat.le_refl _), rfl, fun xs' ys' h1 h2 => ?_⟩, ⟨mz', ?_, ⟨g', k', ?_⟩, ?_, ?_⟩, fun c hcm => ?_⟩
    · rw [I.list_inj h1 hx, I.tuple_inj h2 hy]
      exact ⟨ex, ey⟩
    · exact (sb.2 _ S.TIz).trans (keep _ _ S.TIz S.TITO S.TIi1 S.TIi2 m2)
    · exact (sb.2 _ S.TOz).trans mq
    · exact st1.1.at fun o e => (sb.2 _ (fun w' => S.zf1 (by rw [← w']; simp))).trans e
    · exact st2.1.at fun o e => (sb.2 _ (fun w' => S.zf2 (by rw [← w']; simp))).trans e
    · have small : c < s.heap.objs.size := by
        simp only [List.mem_cons, List.not_mem_nil, or_false] at hcm
        rcases hcm with rfl | rfl | rfl | rfl | rfl
        · exact lz
        · exact Heap.lt_size m2
        · exact Heap.lt_size m3
        · obtain ⟨_, e1, _⟩ := m4; exact Heap.lt_size e1
        · obtain ⟨_, e1, _⟩ := m5; exact Heap.lt_size e1
      rw [upd_ne (Nat.ne_of_lt small)]
      exact (hf c hcm).1
  done := by
    intro X hP hw hK hc i pins s σ H E I hf st hg
    subst hP hw hK
    obtain ⟨m1, m2, ⟨u, v, m3⟩, m4, m5⟩ := st
    obtain ⟨xs, ys, ⟨hx, hy⟩, lx, ly⟩ := hg
    obtain ⟨us, ru, pu, _⟩ := I.list hx
    obtain ⟨ws, rw', pw, _⟩ := I.tuple hy
    have pw' : s.heap.IsTuple b ws.toArray := pw
    have l1 := ru.length
    have l2 := rw'.length
    have e1 : us.toArray.size = i := by simp; omega
    have e2 : ws.toArray.size = i := by simp; omega
    refine wpAny_pyNext_zipD2_end S (Draws.list (A := X.A.in1) (I.ok.hd hc) j1 a na us.toArray) (Draws.tuple (A := X.A.in1) (I.ok.hd hc) j2 b nb ws.toArray) m1 m2 m3 ⟨m4, pu.isList⟩ ⟨m5, pw'⟩ (by omega) (by omega) (.inl e1.symm) fun h' tk keep => ?_
    exact ⟨rfl, I.turnedL (t' := tk) (ch := [z, p, q, j1, j2]) (fun c o nc e => keep c o (fun w' => nc (by simp [w'])) (fun w' => nc (by simp [w'])) (fun w' => nc (by simp [w'])) (fun w' => nc (by simp [w'])) e) hf⟩
  self := fun A i s Q E st h => wpAny_pyIter_zip st.1 h
theorem nin2 {x y z : Nat} (h1 : x ≠ y) (h2 : x ≠ z) : x ∉ [y, z] := by simp [h1, h2]
theorem five_apart (n a b : Nat) (la : a < n) (lb : b < n) : ZipSep2 (n + 4) (n + 2) (n + 3) n (n + 1) [n, a] [n + 1, b] :=
  ⟨show (n + 2 : Nat) ≠ n + 4 by omega, show (n + 3 : Nat) ≠ n + 4 by omega, show (n + 2 : Nat) ≠ n + 3 by omega, show (n + 2 : Nat) ≠ n by omega, List.mem_cons_self .., nin2 (by omega) (by omega), nin2 (by omega) (by omega),
   show (n + 2 : Nat) ≠ n + 1 by omega, List.mem_cons_self .., nin2 (by omega) (by omega), nin2 (by omega) (by omega), nin2 (by omega) (by omega), nin2 (by omega) (by omega)⟩
theorem five_le (n c : Nat) (h : c ∈ [n + 4, n + 2, n + 3, n, n + 1]) : n ≤ c := by
  simp only [List.mem_cons, List.not_mem_nil, or_false] at h
  omega
def iZipM (K : PySem.W.Frag) (ta : TA) : TI := fun σ H R => ta σ H fun vs H1 => ∃ a b xs ys, vs = [.ref a, .ref b] ∧ SqL K H1 a xs ∧ SqT K H1 b ys ∧ R (IzM K a b) H1
theorem pi_zipM {X : Cx} {e e2 : Expr} {ta : TA} {p pos tpos : Pos} {elts : List Expr} {kk : Nat} (hg : Gl X "zip") (hm : X.mg "zip" = none) (ha : PA X [e, e2] ta)
    (h1 : starEach [e, e2] X.env = (false, eval e X.env) :: starEach [e2] X.env := by rfl) (h2 : (backTo pos (starEach [e2] X.env)).any (·.1) = false := by rfl) :
    PI X (.Tuple elts kk tpos) (.Call (.Name "zip" p) [e, e2] [] pos) (iZipM X.K ta) := by
  refine ⟨fun pins s σ H R I h => ?_⟩
  refine Call_ (ld_blt I hg hm PyProof.Rows.boot_zip (PyProof.Rows.callWith_type1 (thn (ha.run pos pins s σ H _ I h) fun us s1 ⟨vs, H1, I1, r1, q1⟩ => ?_) h1 h2))
  obtain ⟨a, b, xs, ys, ev, hx, hy, q⟩ := q1
  subst ev
  cases r1 with
  | cons ra rr =>
    cases rr with
    | cons rb rr =>
      cases rr
      cases ra
      cases rb
      obtain ⟨us, ru, pu, _⟩ := I1.list hx
      obtain ⟨ws, rw', pw, _⟩ := I1.tuple hy
      have pw' : s1.heap.IsTuple b ws.toArray := pw
      have la : a < s1.heap.objs.size := pu.lt
      have lb : b < s1.heap.objs.size := by obtain ⟨_, e, _⟩ := id pw'; exact Heap.lt_size e
      refine zip_begins2 (begins_list a us.toArray) (begins_tuple b ws.toArray) pu.isList pw' fun h' mz mT mO b1 b2 hsz hk => wpAny_pyIter_zip mz ?_
      have I2 : Inv X pins σ H1 { s1 with heap := h' } := I1.kept (t' := s1.toks) hk
      refine ⟨s1.heap.objs.size + 4, [s1.heap.objs.size + 4, s1.heap.objs.size + 2, s1.heap.objs.size + 3, s1.heap.objs.size, s1.heap.objs.size + 1], _, _, H1, rfl, I2, turn_zipM (p := s1.heap.objs.size + 2) (q := s1.heap.objs.size + 3) (j1 := s1.heap.objs.size) (j2 := s1.heap.objs.size + 1) (five_apart _ _ _ la lb) (Nat.ne_of_lt la) (Nat.ne_of_lt (Nat.lt_succ_of_lt lb)), ⟨mz, mT, ⟨_, _, mO⟩, ⟨_, b1, rfl, rfl⟩, ⟨_, b2, rfl, rfl⟩⟩, fun c hcm => ?_, q⟩
      have hle : s1.heap.objs.size ≤ c := five_le _ _ hcm
      exact I1.fpOk hle (I1.hok.fresh hle)
theorem walk_zipM {K : PySem.W.Frag} {a b : Addr} {xs ys : List V} {n : Nat} (h1 : xs.length = n) (h2 : ys.length = n) : Walk (IzM K a b) n (fun H => SqL K H a xs ∧ SqT K H b ys) (YPair (fun i => xs[i]?) fun i => ys[i]?) := by
  refine ⟨fun i _ hi q => ?_, fun _ q => ⟨xs, ys, q, h1, h2⟩, fun i H v H' _ q y => ?_⟩
  · exact ⟨xs, ys, xs[i], ys[i], q, by simp [h1, hi], by simp [h2, hi]⟩
  · obtain ⟨T, x, y, e1, e2, e3, e4⟩ := y
    exact ⟨T, x, y, e1, e2, e3, (e4 xs ys q.1 q.2).1, (e4 xs ys q.1 q.2).2⟩
end XR
namespace XR
open PySem L2
/-- the reading of a dict's comprehension -/
theorem dc_it {J : It} {n : Nat} {G : Hp → Prop} {Y : Nat → Hp → V → Hp → Prop} (w : Walk J n G Y) {g : TG} {tt : TT} {tk tv : TE} {vs : List Nat} {σ : St} {H1 : Hp} {D : Addr} {Qd : Hp → Prop} (Pv : Nat → Hp → Prop)
    (h0 : Pv 0 (upd H1 D (.dK []))) (hG : ∀ i H, i ≤ n → Pv i H → G H)
    (hs : ∀ i x H H', i < n → Pv i H → Y i H x H' → g x (wipe σ vs) H' fun σ2 H2 => wipe σ2 vs = wipe σ vs ∧ tt σ2 H2 fun b H3 => if b = true then tk σ2 H3 fun y H4 => tv σ2 H4 fun z H5 => ∃ kvs k, y = kV k ∧ H5 D = some (.dK kvs) ∧ kvs.length < sizeLine ∧ Pv (i + 1) (upd H5 D (.dK (putK kvs k z))) else Pv (i + 1) H3)
    (hd : ∀ H, Pv n H → Qd H) :
    ∃ W : Nat → Nat → Hp → Prop, (∃ m, W 0 m (upd H1 D (.dK []))) ∧ ∀ i m H, W i m H → (J.stop i H ∧ Qd H) ∨ (J.go i H ∧ ∃ Nx : Hp → Prop, (∀ H', Nx H' → ∃ m', m' < m ∧ W (i + 1) m' H') ∧ ∀ x H', J.yld i H x H' → g x (wipe σ vs) H' fun σ2 H2 => wipe σ2 vs = wipe σ vs ∧ tt σ2 H2 fun b H3 => if b = true then tk σ2 H3 fun y H4 => tv σ2 H4 fun z H5 => ∃ kvs k, y = kV k ∧ H5 D = some (.dK kvs) ∧ kvs.length < sizeLine ∧ Nx (upd H5 D (.dK (putK kvs k z))) else Nx H3) := by
  refine ⟨fun i m H => m = n - i ∧ i ≤ n ∧ Pv i H, ⟨n, rfl, Nat.zero_le _, h0⟩, ?_⟩
  rintro i m H ⟨rfl, hi, hp⟩
  by_cases e : i = n
  · subst e
    exact .inl ⟨w.stops H (hG _ _ (Nat.le_refl _) hp), hd H hp⟩
  · have hlt : i < n := by omega
    exact .inr ⟨w.goes i H hlt (hG _ _ hi hp), Pv (i + 1), fun H' h => ⟨n - (i + 1), by omega, rfl, by omega, h⟩, fun x H' hy => hs i x H H' hlt hp (w.yields i H x H' hlt (hG _ _ hi hp) hy)⟩
end XR
namespace XR
open PySem PySem.Spec L2 PyProof.Rows
/-- name = {k: v for ..}, the name a local of the def -/
theorem ps_setDc {X : Cx} {i : Nat} {y : Str} {py : Pos} {kx vx tg iter : Expr} {ifs : List Expr} {scope : Scope} {own : List (Str × Nat)} {pos spos : Pos} {wi : TI} {g : TG} {tt : TT} {tk tv : TE}
    (c0 : X.calm = true) (n0 : X.N.Nodup) (yi : X.N[i]? = some y) (yl : X.env.scope.names.lookup y = some .local)
    (sw : swapsWith (.DictComp kx vx [⟨tg, iter, ifs, 0⟩] scope pos) (some (.Name y py)) spos.line X.env = pure true) (wk : PI X tg iter wi) (bl : BlkOk X.N X.env.scope scope own)
    (pg : ∀ (t : Shared) (J : Hp) (B : Addr) (l : List (Str × Addr)) (f : List Addr), PG (X.blk t J scope (compEnvC scope l B X.env) f) tg g)
    (pt : ∀ (t : Shared) (J : Hp) (B : Addr) (l : List (Str × Addr)) (f : List Addr), PTs (X.blk t J scope (compEnvC scope l B X.env) f) ifs tt)
    (pk : ∀ (t : Shared) (J : Hp) (B : Addr) (l : List (Str × Addr)) (f : List Addr), PE (X.blk t J scope (compEnvC scope l B X.env) f) kx tk)
    (pw : ∀ (t : Shared) (J : Hp) (B : Addr) (l : List (Str × Addr)) (f : List Addr), PE (X.blk t J scope (compEnvC scope l B X.env) f) vx tv)
    (fs : ∀ u, foldedSetIterable iter X.env u = pure u := by intro _; rfl) :
    PS X (.Assign [.Name y py] (.DictComp kx vx [⟨tg, iter, ifs, 0⟩] scope pos) spos) (tAsg (tDc wi g tt tk tv (own.map (·.2))) (gName i)) := by
  constructor
  intro pins t σ J D I r
  rw [exec_Assign_Name_used _ _ _ _ sw]
  apply wpAny_bind
  apply wpAny_standAt
  apply wpAny_bind
  have r2 : tDc wi g tt tk tv (own.map (·.2)) σ J (fun x J1 => gName i x σ J1 D.nx) := r
  show wpAny _ X.A (comprehension (.DictComp kx vx [⟨tg, iter, ifs, 0⟩] scope pos) scope X.env (firstIterPos [⟨tg, iter, ifs, 0⟩] pos) newDict false (eval iter X.env) (some (assign (.Name y py) X.env)) >>= fun _ => pure ()) _ _ t
  apply wpAny_bind
  refine thn (dc_core (Qf := fun _ t2 => SP X pins D .next t2) c0 n0 I wk bl pg pt pk pw fs r2 ?_) fun _ t2 e => wpAny_pure (wpAny_pure e)
  intro L B t2 m J2 I2 q nb fp
  obtain ⟨w0, w1, w2, w3, w4, w5⟩ := fp
  show wpAny _ _ (assign (.Name y py) X.env (.ref L)) _ _ _
  refine wpAny_assign_Name (store_ok2 (v := V.ref L) I2 n0 yi (.inl yl) rfl ?_ (.inr yl))
  intro t3 I3 hh
  obtain ⟨b0, sb, hb⟩ := hh
  have ne : B ≠ b0 := by
    cases hb with
    | inl z => rw [z]; exact w1
    | inr z => intro e; exact w4 y b0 z e.symm
  refine ⟨m, nb.sameBut sb ne, fun h4 sb4 => ⟨_, J2, I3.turned (t' := t3.toks) (fun b o hbn e => (sb4.2 b hbn).trans e) w0 w1 w3 w4 w5, q⟩⟩
theorem sw_dc {kx vx : Expr} {gs : List Comprehension} {scope : Scope} {pos py : Pos} {y : Str} {l : Nat} {env : Env} (k0 : env.scope.kind = .function) (k1 : env.scope.names.lookup y = some .local) (k2 : (py.line == pos.line) = true)
    (k3 : (scope.names.any fun (n, k) => n == y && (k == .local || k == .cell)) = false) : swapsWith (.DictComp kx vx gs scope pos) (some (.Name y py)) l env = pure true := by
  have e1 : env.blockKind = .function := by unfold Env.blockKind; rw [k0]; rfl
  have e2 : env.kindOf y = some .local := k1
  unfold swapsWith
  simp only [e1, e2, k3, Expr.pos, k2]
  rfl
end XR
namespace XR
open PySem L2
/-- the first side that is none, or for which there is no clash; else how many sides there are, if clashes are left -/
def badAt (ps : List Nat) (sd : List PyData) : Option Nat :=
  match (List.range sd.length).find? (fun i => decide (ps.length ≤ i) || !sideB (sd.getD i .none)) with
  | some i => some i
  | none => if sd.length < ps.length then some sd.length else none
/-- the lines of a token, with the sides that are left -/
def resD : List PyData → List PyData → List PyData
  | [], _ => []
  | .tuple [_, _, _, .tuple o, .tuple t] :: r, s :: ss => losD o t s ++ resD r ss
  | .tuple _ :: r, _ => resD r []
  | d :: r, ss => d :: resD r ss
def spResolved (K : PySem.W.Frag) (CR CI : Addr) : Sp := fun vs H Q E => ∃ (x : V) (d : PyData) (ys : List V) (sd : List PyData), vs = x :: ys ∧ Dq K H x d ∧ DqAll K H ys sd ∧ sd.length ≤ 20 ∧ (∀ s ∈ sd, (itemsOf s).length ≤ 1000) ∧
  (rowB d = false → ∀ (H' : Hp) (dd : Addr), Same H H' → H dd = none → H' dd = some (.xd [("value", x)]) → E (.ref CR) (some dd) H') ∧
  (∀ ds, d = .tuple ds → rowB d = true →
    (∀ i, badAt (places ds) sd = some i → ∀ (H' : Hp) (dd : Addr), Same H H' → H dd = none → H' dd = some (.xd [("index", .int (i : Nat))]) → E (.ref CI) (some dd) H') ∧
    (badAt (places ds) sd = none → ∀ l zs H', Same H H' → H l = none → H' l = some (.lst zs) → DqAll K H' zs (resD ds sd) → Q (.ref l) H'))
end XR
namespace K65
open PySem L2 XR
abbrev sResolved : Stmt := top 21
section
variable {P : Program} {w : World} {K : PySem.W.Frag} {mg : Str → Option Value} {base : Heap}
theorem scResolved : FnScope ["row", "sides", "positions", "at", "side", "chosen", "position", "lines", "token"] ["row", "sides"] (defScope sResolved) := ⟨rfl, rfl, rfl, by decide +kernel, rfl, by decide +kernel, by decide +kernel⟩
end
end K65
/-! list == []; xs.extend(t) of a tuple. -/
namespace PySem.AutoSeq1
theorem list_extend_tupleO (l : Addr) (items : Array Value) (n : Nat) (b : Addr) (items2 : Array Value) (n2 : Nat) (dd : Option Addr) (sl : Array (Option Value)) (hs0 : ¬(!items.isEmpty && Builtin.List.listTooLong (items.size + items2.size)) = true) (hs1 : items.size ≤ sizeLine) (hs2 : items.size + items2.size ≤ sizeLine + 1) :
    Meets (Builtin.«list.extend» ⟨[.ref l, .ref b], []⟩) (fun _ R s => s.heap.get? l = some { cls := .type "list", dict := none, data := .seq items n, slots := #[] } ∧ s.heap.get? b = some { cls := .type "tuple", dict := dd, data := .seq items2 n2, slots := sl } ∧ R (.ok (.ret Value.none)) { s with heap := s.heap.update l (Obj.mapSeq fun x => x ++ items2), toks := s.toks }) :=
  .of_wp fun prog w A R s h => by
    obtain ⟨hp, g, d, tk, os⟩ := s; obtain ⟨hl, hb, h⟩ := h; have f1 := idx_int; have f2 := sub_tuple_tuple; have f3 := sub_list_list; have f4 := sub_tuple_list; have f5 := sub_list_tuple;
    have hz' : (items ++ items2).size ≤ sizeLine + 1 := by rw [Array.size_append]; exact hs2
    wp_walk using (wpAny_updateSeq hl rfl (hz := hs1) (_hz' := hz')), wpAny_loadPart' hl, wpAny_loadPart' hb; exact ⟨_, rfl, h⟩
end PySem.AutoSeq1
namespace XR
open PyProof.Rows hiding St
open PySem L2 PySem.Spec
section
variable {X : Cx}
def rExtendT (K : PySem.W.Frag) : V → List V → Hp → VK → Prop := fun x vs H Q => ∃ l b xs zs, x = .ref l ∧ vs = [.ref b] ∧ H l = some (.lst xs) ∧ SqT K H b zs ∧ xs.length + zs.length ≤ sizeLine ∧ Q .non (upd H l (.lst (xs ++ zs)))
theorem notLong2 {a b : Nat} (h : a + b ≤ sizeLine) : Builtin.List.listTooLong (a + b) = false := by
  unfold Builtin.List.listTooLong
  exact decide_eq_false (by have := h; unfold sizeLine at this; omega)
theorem mt_extendT : MtM X "list.extend" (rExtendT X.K) := by
  intro pins s σ H x vs v us Q I rx rv h
  obtain ⟨l, b, xs, zs, rfl, rfl, hH, hB, hz, q⟩ := h
  cases rx
  obtain ⟨u, rfl, ru⟩ := rv.one
  cases ru
  obtain ⟨z, its, n, r, hl, e⟩ := I.lstM hH
  obtain ⟨its2, r2, ⟨⟨cls, dd, data, sl⟩, e2, hc2, n2, hd2⟩, hl2⟩ := I.tuple hB
  simp only at hc2 hd2
  subst hc2 hd2
  have l1 := r.length
  have l2 := r2.length
  have hsz : its.toArray.size + its2.toArray.size ≤ sizeLine := by rw [List.size_toArray, List.size_toArray]; omega
  have hlong : ¬ (!its.toArray.isEmpty && Builtin.List.listTooLong (its.toArray.size + its2.toArray.size)) = true := by
    rw [notLongL hsz, Bool.and_false]
    exact Bool.false_ne_true
  refine call_meets F.slot_list_extend ⟨_, e, rfl⟩ F.entry_list_extend (F.args_list_extend_2 _ _)
    (AutoSeq1.list_extend_tupleO l its.toArray n b its2.toArray n2 dd sl hlong (by rw [List.size_toArray]; omega) (by omega)) ⟨e, e2, ?_⟩
  refine ⟨.non, _, I.lset (its' := its ++ its2) hH e (by simp) (r.append r2) ?_, rfl, q⟩
  rw [List.length_append]
  omega
def rEqL0 (K : PySem.W.Frag) : R2 := fun x y H Q => ∃ a b xs, x = .ref a ∧ y = .ref b ∧ SqL K H a xs ∧ SqL K H b [] ∧ Q (.bl xs.isEmpty) H
theorem op_eqL0 {k : Nat} (hr : Room k X.A) : OpR X (compareOp .Eq) (rEqL0 X.K) := by
  intro pins s σ H x y v u Q I rx ry h
  obtain ⟨a, b, xs, rfl, rfl, h1, h2, q⟩ := h
  cases rx
  cases ry
  obtain ⟨its, rv, p, hz⟩ := I.list h1
  obtain ⟨its2, rv2, p2, hz2⟩ := I.list h2
  cases rv2
  cases xs with
  | nil =>
    cases rv
    refine PySem.SeqAt.RcAt.lists (e := fun _ => true) p.isList p2.isList rfl (Nat.lt_of_le_of_lt (Nat.le_add_right _ _) (hu_of hr)) (fun j j1 j2 => absurd j2 (Nat.not_lt_zero _)) _ _ _ _ ?_
    exact fin_bl I q rfl
  | cons y ys =>
    cases rv
    refine PySem.SeqAt.RcAt.lists_lengths p.isList p2.isList rfl (Nat.lt_of_le_of_lt (Nat.le_add_right _ _) (hu_of hr)) _ _ _ _ ?_
    exact fin_bl I q rfl
end
end XR
namespace XR
open PySem L2
def chV : List Nat → List V → List (Key × V)
  | p :: ps, y :: ys => (Sum.inl (p : Int), y) :: chV ps ys
  | _, _ => []
theorem chV_len : ∀ (ps : List Nat) (ys : List V), (chV ps ys).length ≤ ys.length
  | [], ys => Nat.zero_le _
  | p :: ps, [] => Nat.zero_le _
  | p :: ps, y :: ys => Nat.succ_le_succ (chV_len ps ys)
theorem key_ne {p q : Nat} (h : p ≠ q) : ¬ (Sum.inl (p : Int) : Key) = Sum.inl (q : Int) := fun e => by
  injection e with e
  exact h (by omega)
theorem chV_none {q : Nat} : ∀ (ps : List Nat) (ys : List V), q ∉ ps → valV (chV ps ys) (Sum.inl (q : Int)) = none
  | [], ys, _ => rfl
  | p :: ps, [], _ => rfl
  | p :: ps, y :: ys, h => by
    show valV ((Sum.inl (p : Int), y) :: chV ps ys) _ = none
    rw [valV_neg (key_ne fun e => h (by rw [e]; exact List.mem_cons_self ..))]
    exact chV_none ps ys fun e => h (List.mem_cons_of_mem _ e)
theorem chV_val {q : Nat} {y : V} : ∀ (ps : List Nat) (ys : List V) (k : Nat), ps.Nodup → ps[k]? = some q → ys[k]? = some y → valV (chV ps ys) (Sum.inl (q : Int)) = some y
  | [], ys, k, _, h, _ => by simp at h
  | p :: ps, [], k, _, _, h => by simp at h
  | p :: ps, z :: ys, 0, _, h1, h2 => by
    cases Option.some.inj h1
    cases Option.some.inj h2
    exact valV_pos rfl
  | p :: ps, z :: ys, k + 1, n, h1, h2 => by
    have n' := List.nodup_cons.mp n
    have h1' : ps[k]? = some q := h1
    show valV ((Sum.inl (p : Int), z) :: chV ps ys) _ = _
    rw [valV_neg (key_ne fun e => n'.1 (by rw [e]; exact List.mem_of_getElem? h1'))]
    exact chV_val ps ys k n'.2 h1' h2
theorem chV_put {q : Nat} {y : V} : ∀ (ps : List Nat) (ys : List V), ps.length = ys.length → q ∉ ps → putK (chV ps ys) (Sum.inl (q : Int)) y = chV (ps ++ [q]) (ys ++ [y])
  | ps, ys, hl, h => by
    have e : ((chV ps ys).any fun kv => decide (kv.1 = Sum.inl (q : Int))) = false := by
      rw [valV_any, chV_none ps ys h]; rfl
    unfold putK
    rw [e, if_neg (by decide)]
    have go : ∀ (ps : List Nat) (ys : List V), ps.length = ys.length → chV ps ys ++ [(Sum.inl (q : Int), y)] = chV (ps ++ [q]) (ys ++ [y]) := by
      intro ps
      induction ps with
      | nil => intro ys hl; cases ys with
        | nil => rfl
        | cons a b => cases hl
      | cons p ps ih => intro ys hl; cases ys with
        | nil => cases hl
        | cons a b =>
          show (Sum.inl (p : Int), a) :: (chV ps b ++ _) = _
          rw [ih b (by simpa using hl)]
          rfl
    exact go ps ys hl
/-- positions -/
theorem placesTo_nodup (ds : List PyData) (n : Nat) : (placesTo ds n).Nodup := List.Pairwise.filter _ List.nodup_range
theorem placesTo_lt {ds : List PyData} {n i : Nat} (h : i ∈ placesTo ds n) : i < n := by
  unfold placesTo at h
  exact List.mem_range.mp (List.mem_filter.mp h).1
theorem places_pre {ds : List PyData} {i : Nat} (h : i ≤ ds.length) : ∃ r, places ds = placesTo ds i ++ r := by
  unfold places placesTo
  rw [show ds.length = i + (ds.length - i) by omega, List.range_add, List.filter_append]
  exact ⟨_, rfl⟩
theorem places_at {ds : List PyData} {i : Nat} {d : PyData} (h : ds[i]? = some d) (e : tupB d = true) : (places ds)[(placesTo ds i).length]? = some i := by
  have hi := (List.getElem?_eq_some_iff.mp h).1
  obtain ⟨r, hr⟩ := places_pre (ds := ds) (i := i + 1) hi
  rw [hr, placesTo_succ h, if_pos e, List.append_assoc, List.getElem?_append_right (Nat.le_refl _), Nat.sub_self]
  rfl
theorem places_mem {ds : List PyData} {i : Nat} {d : PyData} (h : ds[i]? = some d) (e : tupB d = false) : i ∉ places ds := fun m => by
  unfold places placesTo at m
  have := (List.mem_filter.mp m).2
  rw [List.getD_eq_getElem?_getD, h] at this
  have this' : tupB d = true := this
  rw [e] at this'
  cases this'
/-- sides -/
def goodS (ps : List Nat) (sd : List PyData) (n : Nat) : Prop := ∀ j, j < n → j < ps.length ∧ sideB (sd.getD j .none) = true
theorem bad_some {ps : List Nat} {sd : List PyData} {i : Nat} {d : PyData} (h : sd[i]? = some d) (g : goodS ps sd i) (b : ps.length ≤ i ∨ sideB d = false) : badAt ps sd = some i := by
  have hi := (List.getElem?_eq_some_iff.mp h).1
  have e : (List.range sd.length).find? (fun i => decide (ps.length ≤ i) || !sideB (sd.getD i .none)) = some i := by
    rw [List.find?_range_eq_some]
    refine ⟨?_, List.mem_range.mpr hi, fun j hj => ?_⟩
    · have : sd.getD i .none = d := by rw [List.getD_eq_getElem?_getD, h]; rfl
      rw [this]
      rcases b with b | b
      · rw [decide_eq_true b]; rfl
      · rw [b]; simp
    · obtain ⟨g1, g2⟩ := g j hj
      rw [g2, decide_eq_false (by omega)]; rfl
  unfold badAt
  rw [e]
theorem bad_none {ps : List Nat} {sd : List PyData} (g : goodS ps sd sd.length) : badAt ps sd = if sd.length < ps.length then some sd.length else none := by
  have e : (List.range sd.length).find? (fun i => decide (ps.length ≤ i) || !sideB (sd.getD i .none)) = none := by
    rw [List.find?_range_eq_none]
    intro j hj
    obtain ⟨g1, g2⟩ := g j hj
    rw [g2, decide_eq_false (by omega)]; rfl
  unfold badAt
  rw [e]
theorem getD_at {sd : List PyData} {i : Nat} {d : PyData} (h : sd[i]? = some d) : sd.getD i .none = d := by rw [List.getD_eq_getElem?_getD, h]; rfl
theorem clash_two {d0 d1 d2 d3 d4 : PyData} (h : tokB (.tuple [d0, d1, d2, d3, d4]) = true) : ∃ o t, d3 = .tuple o ∧ d4 = .tuple t ∧ o.length ≤ 60 ∧ t.length ≤ 60 ∧ o.all isLine = true ∧ t.all isLine = true := by
  have h2 : (isClashWord d0 && (rngB d1 d2 && (linesB d3 && linesB d4))) = true := h
  simp only [Bool.and_eq_true] at h2
  obtain ⟨_, _, h3, h4⟩ := h2
  cases d3 with
  | tuple o => cases d4 with
    | tuple t =>
      rw [linesB_tup, Bool.and_eq_true] at h3 h4
      exact ⟨o, t, rfl, rfl, of_decide_eq_true h3.1, of_decide_eq_true h4.1, h3.2, h4.2⟩
    | _ => cases h4
  | _ => cases h3
theorem res_clash {d0 d1 d2 : PyData} {o t r : List PyData} {s : PyData} {ss : List PyData} : resD (.tuple [d0, d1, d2, .tuple o, .tuple t] :: r) (s :: ss) = losD o t s ++ resD r ss := rfl
theorem res_line {d : PyData} {r ss : List PyData} (e : tupB d = false) : resD (d :: r) ss = d :: resD r ss := by
  cases d with
  | tuple ds => cases e
  | _ => rfl
theorem los_len {o t : List PyData} {d : PyData} (ho : o.length ≤ 60) (ht : t.length ≤ 60) (hd : (itemsOf d).length ≤ 1000) : (losD o t d).length ≤ 1000 := by
  unfold losD
  split
  · split
    · exact Nat.zero_le _
    · split
      · omega
      · split
        · omega
        · rw [List.length_append]; omega
  · exact hd
theorem lines_any {K : PySem.W.Frag} {H H2 : Hp} : ∀ {ys : List V} {ds : List PyData}, DqAll K H ys ds → ds.all isLine = true → DqAll K H2 ys ds
  | _, _, .nil, _ => .nil
  | _, _, .cons (d := d) a b, e => by
    rw [List.all_cons, Bool.and_eq_true] at e
    refine .cons ?_ (lines_any b e.2)
    cases a with
    | str x => exact .str x
    | _ => exact Bool.noConfusion e.1
theorem los_lines {o t : List PyData} {d : PyData} (ho : o.all isLine = true) (ht : t.all isLine = true) (hd : sideB d = true) : (losD o t d).all isLine = true := by
  unfold losD
  split
  · split
    · rfl
    · split
      · exact ho
      · split
        · exact ht
        · rw [List.all_append, ho, ht]; rfl
  · cases d with
    | list fs => exact hd
    | tuple fs => exact hd
    | str s => rename_i h; exact absurd rfl (h s)
    | _ => cases hd
end XR
namespace K65
open PySem L2 XR
section
variable {P : Program} {w : World} {K : PySem.W.Frag} {mg : Str → Option Value} {base : Heap}
theorem ok_resolved {f fC fS fL CR CI : Addr} {fdC fdS fdL : FuncData} {oc kV doc pm cdv ct : Value} {an od : Option Addr} {osl : Array (Option Value)}
    (lk : List.lookup f K = some { cls := oc, dict := od, data := Data.func (PySem.W.fnOf "resolved" "resolved" (defArgs sResolved) (defBody sResolved) (defScope sResolved) .none kV doc pm an cdv ct), slots := osl }) (hc : PySem.W.codeIn K cdv "resolved" = true)
    (hsup : mg "super" = none) (mZ : mg "zip" = none) (T : Blt mg) (XI : XOk P K mg "InvalidResolution" CI 1 (fvOne "index"))
    (FC : Fun K "clashes" "clashes" sClashes fC fdC) (GC : FnOk P w K mg base (L2.CX P w) 6 fC fdC ["row"] (spClashes K CR)) (bC : Binds K fdC ["row"] []) (mC : mg "clashes" = some (.ref fC))
    (FS : Fun K "is_side" "is_side" sIsSide fS fdS) (GS : FnOk P w K mg base CX0 2 fS fdS ["value"] (spSideJ K)) (bS : Binds K fdS ["value"] []) (mS : mg "is_side" = some (.ref fS))
    (FL : Fun K "lines_of_side" "lines_of_side" sLos fL fdL) (GL : FnOk P w K mg base CX0 1 fL fdL ["clash", "side"] (spLos K)) (bL : Binds K fdL ["clash", "side"] []) (mL : mg "lines_of_side" = some (.ref fL)) :
    FnR P w K mg base (L2.CX P w) 7 f (spResolved K CR CI) := by
  have R := StX.fn_star (CX := L2.CX P w) (P := P) (w := w) (K := K) (mg := mg) (base := base) (k := 6) (ps := ["row"]) (pv := "sides") (N := ["row", "sides", "positions", "at", "side", "chosen", "position", "lines", "token"])
    (sp := fun vs H Q E => ∃ (x : V) (p : Addr) (d : PyData) (ys : List V) (sd : List PyData), vs = [x, .ref p] ∧ H p = some (.tup ys) ∧ Dq K H x d ∧ DqAll K H ys sd ∧ sd.length ≤ 20 ∧ (∀ s ∈ sd, (itemsOf s).length ≤ 1000) ∧
      (rowB d = false → ∀ (H' : Hp) (dd : Addr), Same H H' → H dd = none → H' dd = some (.xd [("value", x)]) → E (.ref CR) (some dd) H') ∧
      (∀ ds, d = .tuple ds → rowB d = true →
        (∀ i, badAt (places ds) sd = some i → ∀ (H' : Hp) (dd : Addr), Same H H' → H dd = none → H' dd = some (.xd [("index", .int (i : Nat))]) → E (.ref CI) (some dd) H') ∧
        (badAt (places ds) sd = none → ∀ l zs H', Same H H' → H l = none → H' l = some (.lst zs) → DqAll K H' zs (resD ds sd) → Q (.ref l) H')))
    lk hc scResolved StX.cxUp (fun us rest hl => by
      cases us with
      | nil => cases hl
      | cons a b => cases b with
        | nil => cases rest with
          | nil => rfl
          | cons r rs => rfl
        | cons c d => cases hl) (fun A outer s H vs Q E hr h => ?_)
  · intro A outer s H us vs Q E hr he r h
    refine R A outer s H us vs Q E hr he r ?_
    obtain ⟨x, d, ys, sd, rfl, hd, hs, hl, hi, zx, z⟩ := h
    have hlen := hs.length
    refine ⟨[x], ys, rfl, rfl, Nat.le_trans (show ys.length ≤ 20 by omega) (by decide), fun p hp => ⟨x, p, d, ys, sd, rfl, upd_same, hd.same (same_upd hp), hs.same (same_upd hp), hl, hi, fun e H' dd s' n k => zx e H' dd ((same_upd hp).trans s') (none_back (same_upd hp) n) k,
      fun ds ed er => ⟨fun i e H' dd s' n k => (z ds ed er).1 i e H' dd ((same_upd hp).trans s') (none_back (same_upd hp) n) k, fun e l zs H' s' n k1 k2 => (z ds ed er).2 e l zs H' ((same_upd hp).trans s') (none_back (same_upd hp) n) k1 k2⟩⟩⟩
  · obtain ⟨x, p, d, ys, sd, rfl, hp, hd, hs, hl, hi, zx, z⟩ := h
    have hlen := hs.length
    have hr2 := hr.mono (show 2 ≤ 6 by decide)
    have hr1 := hr.mono (show 1 ≤ 6 by decide)
    refine ⟨_, pss_cons (ps_set (i := 2) scResolved.nd rfl (.inl rfl) (pe_callS GC hr rfl mC FC.kp bC (fun σ => passAt (takes_of rfl rfl rfl rfl) σ) (pa_cons (pv 0) pa_nil)))
      (pss_cons (ps_for PySem.PassesOwn.leaving rfl (pi_enumT (by rfl) (T.all "enumerate" (by decide)) (pa_cons (pv 1) pa_nil)) (pg_tup rfl (pgs_cons (pg_name (i := 3) scResolved.nd rfl (.inl rfl)) (pgs_cons (pg_name (i := 4) scResolved.nd rfl (.inl rfl)) pgs_nil)))
        (pss_one (ps_if (PW.pt (pw_or (pt_cmpR op_ge (pv 3) (pe_callB call_len_seq (by rfl) T.len PySem.boot_len (pa_cons (pv 2) pa_nil)) (nomark _)) (pw_or1 (pt_not (pt_val (pe_call GS hr2 rfl mS FS.kp bS .nil pass0 (pa_cons (pv 4) pa_nil)))))))
          (pss_one (ps_raiseX rfl (takes_of rfl rfl rfl rfl) XI.mx XI.ne XI.kp hr2 hsup XI.bP XI.tP rfl XI.g (pa_cons (pv 3) pa_nil))) pss_nil)))
      (pss_cons (ps_if (pt_cmpR op_lt (pe_callB call_len_seq (by rfl) T.len PySem.boot_len (pa_cons (pv 1) pa_nil)) (pe_callB call_len_seq (by rfl) T.len PySem.boot_len (pa_cons (pv 2) pa_nil)) (nomark _))
        (pss_one (ps_raiseX rfl (takes_of rfl rfl rfl rfl) XI.mx XI.ne XI.kp hr2 hsup XI.bP XI.tP rfl XI.g (pa_cons (pe_callB call_len_seq (by rfl) T.len PySem.boot_len (pa_cons (pv 1) pa_nil)) pa_nil))) pss_nil)
      (pss_cons (ps_setDc (i := 5) (own := [("position", 6), ("side", 4)]) (g := gTup K 2 (gCons (gName 6) (gCons (gName 4) gNil))) (tt := tYes) (tk := tVar 6) (tv := tVar 4) rfl scResolved.nd rfl rfl (sw_dc rfl rfl rfl (by decide +kernel)) (pi_zipM (by rfl) mZ (pa_cons (pv 2) (pa_cons (pv 1) pa_nil)))
          (blkOk_by (own := [("position", 6), ("side", 4)]) (N := ["row", "sides", "positions", "at", "side", "chosen", "position", "lines", "token"]) (sc := defScope sResolved) (by decide +kernel))
          (fun _ _ _ _ _ => pg_tup rfl (pgs_cons (pg_name (i := 6) scResolved.nd rfl (.inl rfl)) (pgs_cons (pg_name (i := 4) scResolved.nd rfl (.inl rfl)) pgs_nil))) (fun _ _ _ _ _ => pts_nil) (fun _ _ _ _ _ => pv 6) (fun _ _ _ _ _ => pv 4))
      (pss_cons (ps_set (i := 7) scResolved.nd rfl (.inl rfl) (pe_lst pa_nil))
      (pss_cons (ps_for PySem.PassesOwn.leaving rfl (pi_enumT (by rfl) (T.all "enumerate" (by decide)) (pa_cons (pv 0) pa_nil)) (pg_tup rfl (pgs_cons (pg_name (i := 3) scResolved.nd rfl (.inl rfl)) (pgs_cons (pg_name (i := 8) scResolved.nd rfl (.inl rfl)) pgs_nil)))
        (pss_one (ps_expr (pe_bm PySem.F.plainAttrs_list PySem.F.slot_list_extend PySem.F.type_list_extend mt_extend (pv 7) (pa_cons (pe_ifExp (pt_cmp (pc_din (hu_of hr) (pv 3) (pv 5)))
          (pe_call GL hr1 rfl mL FL.kp bL .nil pass0 (pa_cons (pv 8) (pa_cons (pe_dget (hu_of hr) (pv 5) (pv 3) (fun _ _ => rfl)) pa_nil))) (pe_lst (pa_cons (pv 8) pa_nil))) pa_nil)))))
      (pss_one (ps_ret (pv 7)))))))), ?_⟩
    refine ⟨_, rfl, x, d, rfl, hd, fun ds ed er l H1 s1 nl hpl => ?_, zx⟩
    obtain ⟨a, xs, ds', rfl, rfl, h1, h2, hdl, hall⟩ := row_of hd er
    cases ed
    obtain ⟨z1, z2⟩ := z ds rfl er
    have hp1 := s1 _ _ hp
    refine ⟨_, rfl, p, ys, rfl, .inl (.inl hp1), ?_⟩
    refine for_it (walk_enumT (xs := ys)) (fun i σ H' => Same H1 H' ∧ (∃ y3 y4, σ = [some (V.ref a), some (V.ref p), some (V.ref l), y3, y4, none, none, none, none]) ∧ goodS (places ds) sd i) ⟨fun _ _ e => e, ⟨_, _, rfl⟩, fun j h => absurd h (Nat.not_lt_zero _)⟩ (fun i σ H' _ hh => .inl (.inl (hh.1 _ _ hp1))) ?_ ?_
    · rintro i v σ Ha Hb hi' ⟨sm, ⟨y3, y4, rfl⟩, hg⟩ ⟨t, a1, b1, rfl, nt, rfl, ea, eb⟩
      cases ea
      obtain ⟨e, he1, he2⟩ := hs.get eb
      have st := same_upd (o := .tup [V.int (i : Nat), b1]) nt
      have sb := sm.trans st
      refine ⟨t, _, rfl, SqT.of upd_same, rfl, _, _, rfl, _, _, rfl, rfl, ?_⟩
      refine ⟨_, rfl, _, rfl, l, _, rfl, .inl (SqL.of (sb _ _ hpl)), _, _, rfl, rfl, _, rfl, ?_⟩
      have lpl : (plV (places ds)).length = (places ds).length := by unfold plV; rw [List.length_map]
      have fin : ∀ (H3 : Hp), Same H1 H3 → (((places ds).length ≤ i) ∨ sideB e = false) → ∀ dd, H3 dd = none → L2.CX P w = L2.CX P w → E (.ref CI) (some dd) (upd H3 dd (.xd (fvOne "index" [V.int (i : Nat)]))) := by
        intro H3 s3 hb dd ndd _
        exact z1 i (bad_some he1 hg hb) _ dd ((s1.trans s3).trans (same_upd ndd)) (none_back (s1.trans s3) ndd) upd_same
      by_cases c : (places ds).length ≤ i
      · rw [decide_eq_true (show ((plV (places ds)).length : Int) ≤ (i : Nat) by rw [lpl]; omega)]
        refine iteT (iteT ⟨_, rfl, rfl, fun dd ndd => ?_⟩)
        exact fin _ sb (.inl c) dd ndd rfl
      · rw [decide_eq_false (show ¬ ((plV (places ds)).length : Int) ≤ (i : Nat) by rw [lpl]; omega)]
        refine iteF ⟨_, rfl, b1, e, rfl, (he2.same s1).same sb, hi e (List.mem_of_getElem? he1), fun H2 s2 => ⟨_, rfl, ?_⟩⟩
        cases q : sideB e with
        | true =>
          refine iteF ⟨sb.trans s2, ⟨_, _, rfl⟩, fun j hj => ?_⟩
          by_cases ej : j = i
          · rw [ej, getD_at he1]
            exact ⟨by omega, q⟩
          · exact hg j (by omega)
        | false =>
          refine iteT ⟨_, rfl, rfl, fun dd ndd => ?_⟩
          exact fin _ (sb.trans s2) (.inr q) dd ndd rfl
    rintro σ H2 ⟨s2, ⟨y3, y4, rfl⟩, hg⟩
    have s12 := s1.trans s2
    have hp2 := s2 _ _ hp1
    have hl2 := s2 _ _ hpl
    have lpl : (plV (places ds)).length = (places ds).length := by unfold plV; rw [List.length_map]
    rw [hlen] at hg
    have bn := bad_none hg
    refine ⟨_, rfl, p, ys, rfl, .inr (.inl (.inl hp2)), _, rfl, l, _, rfl, .inl (SqL.of hl2), _, _, rfl, rfl, _, rfl, ?_⟩
    by_cases c : sd.length < (places ds).length
    · rw [if_pos c] at bn
      rw [decide_eq_true (show (ys.length : Int) < ((plV (places ds)).length : Int) by rw [lpl]; omega)]
      refine iteT ⟨_, rfl, p, ys, rfl, .inr (.inl (.inl hp2)), rfl, fun dd ndd => ?_⟩
      refine z1 _ bn _ dd (s12.trans (same_upd ndd)) (none_back s12 ndd) ?_
      rw [← hlen]
      exact upd_same
    rw [if_neg c] at bn
    rw [decide_eq_false (show ¬ (ys.length : Int) < ((plV (places ds)).length : Int) by rw [lpl]; omega)]
    have epl : (places ds).length = ys.length := by
      by_cases q : sd.length = 0
      · omega
      · have := (hg (sd.length - 1) (by omega)).1
        omega
    refine iteF ⟨_, rfl, _, rfl, l, p, _, _, rfl, SqL.of hl2, .inl (.inl hp2), fun Dd nD => ?_⟩
    have sD := same_upd (o := .dK []) nD
    refine dc_it (walk_zipM (xs := plV (places ds)) (ys := ys) (n := ys.length) (by rw [lpl, epl]) rfl) (fun k H' => Same H2 H' ∧ H' Dd = some (.dK (chV ((places ds).take k) (ys.take k)))) ⟨sD, upd_same⟩ (fun k H' _ hh => ⟨SqL.of (hh.1 _ _ hl2), .inl (.inl (hh.1 _ _ hp2))⟩) ?_ ?_
    · rintro k v Ha Hb hk ⟨sm, hD⟩ ⟨t, a1, b1, rfl, nt, rfl, ea, eb⟩
      have st := same_upd (o := .tup [a1, b1]) nt
      have ea : (plV (places ds))[k]? = some a1 := ea
      unfold plV at ea
      rw [List.getElem?_map] at ea
      obtain ⟨q, hq, rfl⟩ := Option.map_eq_some_iff.mp ea
      refine ⟨t, _, rfl, SqT.of upd_same, rfl, _, _, rfl, _, _, rfl, rfl, rfl, ?_⟩
      unfold tYes
      dsimp only
      rw [if_pos rfl]
      refine ⟨_, rfl, _, rfl, _, Sum.inl (q : Int), rfl, st _ _ hD, ?_, fun b o h => ?_, ?_⟩
      · have := chV_len ((places ds).take k) (ys.take k)
        rw [List.length_take] at this
        exact Nat.lt_of_le_of_lt (show _ ≤ 20 by omega) (by decide)
      · rw [upd_ne (ne_of_none h nD)]
        exact st _ _ (sm _ _ h)
      · rw [upd_same, chV_put _ _ (by rw [List.length_take, List.length_take, epl]) (fun hm => ?_), List.take_add_one, List.take_add_one, hq, (show ys[k]? = some b1 from eb)]
        · rfl
        · obtain ⟨j, hj⟩ := List.getElem?_of_mem hm
          rw [List.getElem?_take] at hj
          by_cases cj : j < k
          · rw [if_pos cj] at hj
            have nd := placesTo_nodup ds ds.length
            have := (List.getElem?_inj (List.getElem?_eq_some_iff.mp hj).1 nd).mp (hj.trans hq.symm)
            omega
          · rw [if_neg cj] at hj; cases hj
    rintro H3 ⟨s23, hD⟩
    rw [← epl, List.take_length, epl, List.take_length] at hD
    have s13 := s12.trans s23
    refine ⟨ll20 (by show 0 ≤ 20; decide), fun L nL => ?_⟩
    have sL := same_upd (o := .lst []) nL
    have h13 := XR.Same.tup s13 h1
    refine ⟨_, rfl, a, xs, rfl, XR.Same.tup sL h13, ?_⟩
    have hxl := h2.length
    refine for_it (walk_enumT (xs := xs)) (fun i σ H' => Same H3 H' ∧ (∃ y3 y4 y6 y8, σ = [some (V.ref a), some (V.ref p), some (V.ref l), y3, y4, some (V.ref Dd), y6, some (V.ref L), y8]) ∧
      ∃ zs es, H' L = some (.lst zs) ∧ DqAll K (L2.del H' L) zs es ∧ es ++ resD (ds.drop i) (sd.drop (placesTo ds i).length) = resD ds sd ∧ es.length ≤ 1000 * i) ⟨sL, ⟨_, _, _, _, rfl⟩, [], [], upd_same, .nil, rfl, Nat.zero_le _⟩ (fun i σ H' _ hh => XR.Same.tup hh.1 h13) ?_ ?_
    · rintro i v σ Ha Hb hi' ⟨sm, ⟨y3, y4, y6, y8, rfl⟩, zs, es, hL, hz, he, hel⟩ ⟨t, a1, b1, rfl, nt, rfl, ea, eb⟩
      cases ea
      obtain ⟨e, he1, he2⟩ := h2.get eb
      have st := same_upd (o := .tup [V.int (i : Nat), b1]) nt
      have sb := sm.trans st
      have he3 := he2.same (s13.trans sb)
      have etok : tokB e = true := List.all_eq_true.mp hall e (List.mem_of_getElem? he1)
      have edrop : ds.drop i = e :: ds.drop (i + 1) := by
        have hh := List.getElem?_eq_some_iff.mp he1
        rw [List.drop_eq_getElem_cons hh.1, hh.2]
      have hzl := hz.length
      have hiL : i < 180 := by omega
      refine ⟨t, _, rfl, SqT.of upd_same, rfl, _, _, rfl, _, _, rfl, rfl, ?_⟩
      refine ⟨_, rfl, .inl ⟨rfl, _, SqL.of (st _ _ hL)⟩, _, rfl, _, rfl, Dd, _, rfl, DGet.k (k := Sum.inl (i : Int)) (sb _ _ hD), _, rfl, ?_⟩
      have key : ∀ (l' : Addr) (ys' : List V) (fs : List PyData) (H5 : Hp), Same (upd Ha t (.tup [V.int (i : Nat), b1])) H5 → H5 l' = some (.lst ys') → DqAll K (L2.del H5 L) ys' fs → fs.length ≤ 1000 → (es ++ fs) ++ resD (ds.drop (i + 1)) (sd.drop (placesTo ds (i + 1)).length) = resD ds sd →
          ∃ l1 l2 zs1 zs2, V.ref L = .ref l1 ∧ [V.ref l'] = [.ref l2] ∧ H5 l1 = some (.lst zs1) ∧ H5 l2 = some (.lst zs2) ∧ zs1.length + zs2.length ≤ sizeLine ∧
            (Same H3 (upd H5 l1 (.lst (zs1 ++ zs2))) ∧ (∃ z3 z4 z6 z8, [some (V.ref a), some (V.ref p), some (V.ref l), some (V.int (i : Nat)), y4, some (V.ref Dd), y6, some (V.ref L), some b1] = [some (V.ref a), some (V.ref p), some (V.ref l), z3, z4, some (V.ref Dd), z6, some (V.ref L), z8]) ∧
              ∃ zs' es', (upd H5 l1 (.lst (zs1 ++ zs2))) L = some (.lst zs') ∧ DqAll K (L2.del (upd H5 l1 (.lst (zs1 ++ zs2))) L) zs' es' ∧ es' ++ resD (ds.drop (i + 1)) (sd.drop (placesTo ds (i + 1)).length) = resD ds sd ∧ es'.length ≤ 1000 * (i + 1)) := by
        intro l' ys' fs H5 s5 hl' hy' hf hq
        have hL5 := s5 _ _ (st _ _ hL)
        have hyl := hy'.length
        refine ⟨L, l', zs, ys', rfl, rfl, hL5, hl', ?_, ⟨fun b o h => ?_, ⟨_, _, _, _, rfl⟩, zs ++ ys', es ++ fs, upd_same, ?_, hq, ?_⟩⟩
        · exact Nat.le_trans (show zs.length + ys'.length ≤ 181000 by omega) (by decide)
        · rw [upd_ne (ne_of_none h nL)]
          exact s5 _ _ (sb _ _ h)
        · rw [del_upd]
          exact DqAll.append (hz.same (Same.but (a := L) (st.trans s5)).del) hy'
        · rw [List.length_append]; omega
      have hdel : ∀ {H5 : Hp}, Same (upd Ha t (.tup [V.int (i : Nat), b1])) H5 → Same H3 (L2.del H5 L) := fun s5 => same_to_del (sb.trans s5) nL
      cases q : tupB e with
      | true =>
        obtain ⟨cq, d0, d1, d2, d3, d4, x0, x1, x2, x3, x4, rfl, rfl, hcq, _, _, _, a3, a4⟩ := tok_clash he3 q etok
        obtain ⟨o, t2, rfl, rfl, ho, ht, lo, lt⟩ := clash_two etok
        have pa := places_at he1 q
        have kl := (List.getElem?_eq_some_iff.mp pa).1
        obtain ⟨sk, hsk⟩ : ∃ sk, sd[(placesTo ds i).length]? = some sk := ⟨_, List.getElem?_eq_getElem (by omega)⟩
        obtain ⟨yk, hyk⟩ : ∃ yk, ys[(placesTo ds i).length]? = some yk := ⟨_, List.getElem?_eq_getElem (by omega)⟩
        obtain ⟨sk', hsk', hde⟩ := hs.get hyk
        cases Option.some.inj (hsk.symm.trans hsk')
        have hv : valV (chV (places ds) ys) (Sum.inl (i : Int)) = some yk := chV_val _ _ _ (placesTo_nodup ds ds.length) pa hyk
        have hsb := (hg _ (by omega : (placesTo ds i).length < sd.length)).2
        rw [getD_at hsk] at hsb
        have hio := hi sk (List.mem_of_getElem? hsk)
        rw [hv]
        refine iteT ⟨_, rfl, _, rfl, _, rfl, Dd, yk, rfl, ?_, ?_⟩
        · rw [← hv]
          exact DGet.k (k := Sum.inl (i : Int)) (sb _ _ hD)
        refine ⟨cq, x0, x1, x2, x3, x4, yk, o, t2, sk, rfl, hcq, a3, a4, by omega, hde.same (s13.trans sb), hsb, hio, fun l' ys' H5 s5 nl' hl' hy' => ?_⟩
        have sdrop : sd.drop (placesTo ds i).length = sk :: sd.drop ((placesTo ds i).length + 1) := by
          have hh := List.getElem?_eq_some_iff.mp hsk
          rw [List.drop_eq_getElem_cons hh.1, hh.2]
        have hL1 : (upd Ha t (.tup [V.int (i : Nat), .ref cq])) L = some (.lst zs) := st _ _ hL
        have ne : L ≠ l' := ne_of_none hL1 nl'
        refine key l' ys' (losD o t2 sk) H5 s5 hl' ?_ (los_len ho ht hio) ?_
        · exact lines_any hy' (los_lines lo lt hsb)
        · rw [placesTo_succ he1, if_pos q, List.length_append, List.append_assoc, ← he, edrop, sdrop, res_clash]
          rfl
      | false =>
        rw [chV_none _ _ (places_mem he1 q)]
        refine iteF ⟨_, rfl, ll20 (by show 1 ≤ 20; decide), fun l' nl' => ?_⟩
        have sl' := same_upd (o := .lst [b1]) nl'
        refine key l' [b1] [e] _ sl' upd_same ?_ (by show 1 ≤ 1000; decide) ?_
        · exact .cons (he2.same (s13.trans (hdel sl'))) .nil
        · rw [placesTo_succ he1, if_neg (by rw [q]; decide), List.append_assoc, ← he, edrop, res_line q]
          rfl
    · rintro σ H' ⟨sm, ⟨y3, y4, y6, y8, rfl⟩, zs, es, hL, hz, he, hel⟩
      refine ⟨_, rfl, z2 bn L zs H' (s13.trans sm) (none_back s13 nL) hL ?_⟩
      have e1 : es = resD ds sd := by
        rw [← he, hxl, List.drop_length]
        show es = es ++ resD [] _
        unfold resD
        rw [List.append_nil]
      rw [← e1]
      exact hz.same del_sub
end
end K65
namespace XR
open PySem L2
def sideL : List PyData := [(PyData.list [PyData.str "z"]), (PyData.tuple [PyData.str "y", PyData.str ""]), (PyData.list []), (PyData.list [PyData.str "one", PyData.str "two"]), (PyData.tuple []), (PyData.list (List.replicate 70 (PyData.str "z"))), PyData.str "three", PyData.str "", PyData.none, PyData.int 1, PyData.bool true, (PyData.dict []), (PyData.list [PyData.str "a\n"]), (PyData.list [PyData.int 1]), (PyData.list [(PyData.list [PyData.str "a"])]), PyData.str "One", (PyData.tuple [PyData.str "a", PyData.none]), (PyData.tuple (List.replicate 2 (PyData.str "clash"))), PyData.str "one", PyData.str "two", PyData.str "both", PyData.str "none"]
def spSideP (K : PySem.W.Frag) : Sp := fun vs H Q _ => ∃ p Z, vs = [.ref p] ∧ PZ Z p H ∧ ∀ x d H', PotAt H' p → But p H H' → Dz K Z H' x d → d ∈ sideL → Q x H'
end XR
namespace K65
open PySem L2 XR
abbrev sSideP : Stmt := top 29
section
variable {P : Program} {w : World} {K : PySem.W.Frag} {mg : Str → Option Value} {base : Heap}
theorem scSideP : FnScope ["_law_pot_here", "_law_some"] ["_law_pot_here"] (defScope sSideP) := ⟨rfl, rfl, rfl, by decide +kernel, rfl, by decide +kernel, by decide +kernel⟩
theorem ok_sideP {f fD fP : Addr} {fd fdD fdP : FuncData} (F : Fun K "_law_side" "_law_side" sSideP f fd) (D : Draws P w K mg base fD fP fdD fdP) : FnOk P w K mg base CX0 3 f fd ["_law_pot_here"] (spSideP K) := by
  refine F.ok scSideP (fun vs H Q E h => ?_) (fun cdv A outer s H vs Q E hr h => ?_)
  · obtain ⟨p, Z, rfl, _⟩ := h
    rfl
  · obtain ⟨p, Z, rfl, hz, z⟩ := h
    have hp := hz.pot
    have hr1 := hr.mono (show 1 ≤ 2 by decide)
    refine ⟨_, pss_cons (ps_if (pt_cmpR op_eq (pe_call D.GD hr1 rfl D.mD D.FD.kp D.bD .nil pass0 (pa_cons (pv 0) (pa_cons pe_int pa_nil))) pe_int (nomark _)) (pss_one (ps_ret (pe_call D.GP hr rfl D.mP D.FP.kp D.bP .nil pass0 (pa_cons (pv 0) (pa_cons (pe_lst (pa_cons (pe_lst (pa_cons pe_str pa_nil)) (pa_cons (pe_tup (pa_cons pe_str (pa_cons pe_str pa_nil))) (pa_cons (pe_lst pa_nil) (pa_cons (pe_lst (pa_cons pe_str (pa_cons pe_str pa_nil))) (pa_cons (pe_tup pa_nil) (pa_cons (pe_op op_rep (pe_lst (pa_cons pe_str pa_nil)) pe_int) pa_nil))))))) pa_nil))))) pss_nil)
      (pss_cons (ps_if (pt_cmpR op_eq (pe_call D.GD hr1 rfl D.mD D.FD.kp D.bD .nil pass0 (pa_cons (pv 0) (pa_cons pe_int pa_nil))) pe_int (nomark _)) (pss_cons (ps_set (i := 1) scSideP.nd rfl (.inl rfl) (pe_lst (pa_cons pe_str (pa_cons pe_str (pa_cons pe_non (pa_cons pe_int (pa_cons pe_bl (pa_cons pe_dnewK (pa_cons (pe_lst (pa_cons pe_str pa_nil)) (pa_cons (pe_lst (pa_cons pe_int pa_nil)) (pa_cons (pe_lst (pa_cons (pe_lst (pa_cons pe_str pa_nil)) pa_nil)) (pa_cons pe_str (pa_cons (pe_tup (pa_cons pe_str (pa_cons pe_non pa_nil))) pa_nil))))))))))))) (pss_one (ps_ret (pe_call D.GP hr rfl D.mP D.FP.kp D.bP .nil pass0 (pa_cons (pv 0) (pa_cons (pe_op op_cat (pv 1) (pe_lst (pa_cons (pe_op op_repT (pe_tup (pa_cons pe_str pa_nil)) pe_int) pa_nil))) pa_nil)))))) pss_nil)
      (pss_one (ps_ret (pe_call D.GP hr rfl D.mP D.FP.kp D.bP .nil pass0 (pa_cons (pv 0) (pa_cons (pe_lst (pa_cons pe_str (pa_cons pe_str (pa_cons pe_str (pa_cons pe_str pa_nil))))) pa_nil)))))), ?_⟩
    refine ⟨_, rfl, p, 4, rfl, hp, by decide, by decide, fun r Ha _ _ hpa ba => ⟨rfl, _, rfl, ?_⟩⟩
    replace hz := hz.step hpa ba
    refine ite2 (fun _ => ?_) (fun _ => ?_)
    · have sm : Same Ha Ha := fun _ _ e => e
      refine ⟨_, rfl, ll20 (by show 1 ≤ 20; decide), fun a1 n_a1 => ?_⟩
      obtain ⟨G1, hG1⟩ : ∃ G, G = upd Ha a1 (.lst [V.str "z"]) := ⟨_, rfl⟩
      rw [← hG1]
      have sG1 : Same Ha G1 := by rw [hG1]; exact same_upd n_a1
      have e_a1 : Dz K Z G1 (.ref a1) (PyData.list [PyData.str "z"]) := by rw [hG1]; exact Dz.new_lst (.cons (.str _) .nil) hz n_a1
      have g_a1 : G1 a1 = some (.lst [V.str "z"]) := by rw [hG1]; exact upd_same
      replace hz := hz.same sG1
      replace sm := sm.trans sG1
      clear hG1 sG1 n_a1
      refine ⟨ll20 (by show 2 ≤ 20; decide), fun a2 n_a2 => ?_⟩
      obtain ⟨G2, hG2⟩ : ∃ G, G = upd G1 a2 (.tup [V.str "y", V.str ""]) := ⟨_, rfl⟩
      rw [← hG2]
      have sG2 : Same G1 G2 := by rw [hG2]; exact same_upd n_a2
      have e_a2 : Dz K Z G2 (.ref a2) (PyData.tuple [PyData.str "y", PyData.str ""]) := by rw [hG2]; exact Dz.new_tup (.cons (.str _) (.cons (.str _) .nil)) hz n_a2
      have g_a2 : G2 a2 = some (.tup [V.str "y", V.str ""]) := by rw [hG2]; exact upd_same
      replace hz := hz.same sG2
      replace sm := sm.trans sG2
      replace e_a1 := e_a1.same sG2
      replace g_a1 := sG2 _ _ g_a1
      clear hG2 sG2 n_a2
      refine ⟨ll20 (by show 0 ≤ 20; decide), fun a3 n_a3 => ?_⟩
      obtain ⟨G3, hG3⟩ : ∃ G, G = upd G2 a3 (.lst []) := ⟨_, rfl⟩
      rw [← hG3]
      have sG3 : Same G2 G3 := by rw [hG3]; exact same_upd n_a3
      have e_a3 : Dz K Z G3 (.ref a3) (PyData.list []) := by rw [hG3]; exact Dz.new_lst .nil hz n_a3
      have g_a3 : G3 a3 = some (.lst []) := by rw [hG3]; exact upd_same
      replace hz := hz.same sG3
      replace sm := sm.trans sG3
      replace e_a1 := e_a1.same sG3
      replace e_a2 := e_a2.same sG3
      replace g_a1 := sG3 _ _ g_a1
      replace g_a2 := sG3 _ _ g_a2
      clear hG3 sG3 n_a3
      refine ⟨ll20 (by show 2 ≤ 20; decide), fun a4 n_a4 => ?_⟩
      obtain ⟨G4, hG4⟩ : ∃ G, G = upd G3 a4 (.lst [V.str "one", V.str "two"]) := ⟨_, rfl⟩
      rw [← hG4]
      have sG4 : Same G3 G4 := by rw [hG4]; exact same_upd n_a4
      have e_a4 : Dz K Z G4 (.ref a4) (PyData.list [PyData.str "one", PyData.str "two"]) := by rw [hG4]; exact Dz.new_lst (.cons (.str _) (.cons (.str _) .nil)) hz n_a4
      have g_a4 : G4 a4 = some (.lst [V.str "one", V.str "two"]) := by rw [hG4]; exact upd_same
      replace hz := hz.same sG4
      replace sm := sm.trans sG4
      replace e_a1 := e_a1.same sG4
      replace e_a2 := e_a2.same sG4
      replace e_a3 := e_a3.same sG4
      replace g_a1 := sG4 _ _ g_a1
      replace g_a2 := sG4 _ _ g_a2
      replace g_a3 := sG4 _ _ g_a3
      clear hG4 sG4 n_a4
      refine ⟨ll20 (by show 0 ≤ 20; decide), fun a5 n_a5 => ?_⟩
      obtain ⟨G5, hG5⟩ : ∃ G, G = upd G4 a5 (.tup []) := ⟨_, rfl⟩
      rw [← hG5]
      have sG5 : Same G4 G5 := by rw [hG5]; exact same_upd n_a5
      have e_a5 : Dz K Z G5 (.ref a5) (PyData.tuple []) := by rw [hG5]; exact Dz.new_tup .nil hz n_a5
      have g_a5 : G5 a5 = some (.tup []) := by rw [hG5]; exact upd_same
      replace hz := hz.same sG5
      replace sm := sm.trans sG5
      replace e_a1 := e_a1.same sG5
      replace e_a2 := e_a2.same sG5
      replace e_a3 := e_a3.same sG5
      replace e_a4 := e_a4.same sG5
      replace g_a1 := sG5 _ _ g_a1
      replace g_a2 := sG5 _ _ g_a2
      replace g_a3 := sG5 _ _ g_a3
      replace g_a4 := sG5 _ _ g_a4
      clear hG5 sG5 n_a5
      refine ⟨ll20 (by show 1 ≤ 20; decide), fun a6 n_a6 => ?_⟩
      obtain ⟨G6, hG6⟩ : ∃ G, G = upd G5 a6 (.lst [V.str "z"]) := ⟨_, rfl⟩
      rw [← hG6]
      have sG6 : Same G5 G6 := by rw [hG6]; exact same_upd n_a6
      have e_a6 : Dz K Z G6 (.ref a6) (PyData.list [PyData.str "z"]) := by rw [hG6]; exact Dz.new_lst (.cons (.str _) .nil) hz n_a6
      have g_a6 : G6 a6 = some (.lst [V.str "z"]) := by rw [hG6]; exact upd_same
      replace hz := hz.same sG6
      replace sm := sm.trans sG6
      replace e_a1 := e_a1.same sG6
      replace e_a2 := e_a2.same sG6
      replace e_a3 := e_a3.same sG6
      replace e_a4 := e_a4.same sG6
      replace e_a5 := e_a5.same sG6
      replace g_a1 := sG6 _ _ g_a1
      replace g_a2 := sG6 _ _ g_a2
      replace g_a3 := sG6 _ _ g_a3
      replace g_a4 := sG6 _ _ g_a4
      replace g_a5 := sG6 _ _ g_a5
      clear hG6 sG6 n_a6
      refine ⟨_, _, _, rfl, rfl, g_a6, by decide, by decide, by decide, fun a7 n_a7 => ?_⟩
      rw [show (List.replicate (70 : Int).toNat [V.str "z"]).flatten = List.replicate 70 (V.str "z") from rfl]
      obtain ⟨G7, hG7⟩ : ∃ G, G = upd G6 a7 (.lst (List.replicate 70 (V.str "z"))) := ⟨_, rfl⟩
      rw [← hG7]
      have sG7 : Same G6 G7 := by rw [hG7]; exact same_upd n_a7
      have e_a7 : Dz K Z G7 (.ref a7) (PyData.list (List.replicate 70 (PyData.str "z"))) := by rw [hG7]; exact Dz.new_lst (DqAll.rep (.str _) _) hz n_a7
      have g_a7 : G7 a7 = some (.lst (List.replicate 70 (V.str "z"))) := by rw [hG7]; exact upd_same
      replace hz := hz.same sG7
      replace sm := sm.trans sG7
      replace e_a1 := e_a1.same sG7
      replace e_a2 := e_a2.same sG7
      replace e_a3 := e_a3.same sG7
      replace e_a4 := e_a4.same sG7
      replace e_a5 := e_a5.same sG7
      replace e_a6 := e_a6.same sG7
      replace g_a1 := sG7 _ _ g_a1
      replace g_a2 := sG7 _ _ g_a2
      replace g_a3 := sG7 _ _ g_a3
      replace g_a4 := sG7 _ _ g_a4
      replace g_a5 := sG7 _ _ g_a5
      replace g_a6 := sG7 _ _ g_a6
      clear hG7 sG7 n_a7
      refine ⟨ll20 (by show 6 ≤ 20; decide), fun a8 n_a8 => ?_⟩
      have np_a8 := hz.pot.ne n_a8
      obtain ⟨G8, hG8⟩ : ∃ G, G = upd G7 a8 (.lst [V.ref a1, V.ref a2, V.ref a3, V.ref a4, V.ref a5, V.ref a7]) := ⟨_, rfl⟩
      rw [← hG8]
      have sG8 : Same G7 G8 := by rw [hG8]; exact same_upd n_a8
      have e_a8 : Dz K Z G8 (.ref a8) (PyData.list [(PyData.list [PyData.str "z"]), (PyData.tuple [PyData.str "y", PyData.str ""]), (PyData.list []), (PyData.list [PyData.str "one", PyData.str "two"]), (PyData.tuple []), (PyData.list (List.replicate 70 (PyData.str "z")))]) := by rw [hG8]; exact Dz.new_lst (.cons e_a1 (.cons e_a2 (.cons e_a3 (.cons e_a4 (.cons e_a5 (.cons e_a7 .nil)))))) hz n_a8
      have g_a8 : G8 a8 = some (.lst [V.ref a1, V.ref a2, V.ref a3, V.ref a4, V.ref a5, V.ref a7]) := by rw [hG8]; exact upd_same
      replace hz := hz.same sG8
      replace sm := sm.trans sG8
      replace e_a1 := e_a1.same sG8
      replace e_a2 := e_a2.same sG8
      replace e_a3 := e_a3.same sG8
      replace e_a4 := e_a4.same sG8
      replace e_a5 := e_a5.same sG8
      replace e_a6 := e_a6.same sG8
      replace e_a7 := e_a7.same sG8
      replace g_a1 := sG8 _ _ g_a1
      replace g_a2 := sG8 _ _ g_a2
      replace g_a3 := sG8 _ _ g_a3
      replace g_a4 := sG8 _ _ g_a4
      replace g_a5 := sG8 _ _ g_a5
      replace g_a6 := sG8 _ _ g_a6
      replace g_a7 := sG8 _ _ g_a7
      clear hG8 sG8 n_a8
      refine ⟨p, a8, _, rfl, hz.pot, g_a8, np_a8, by show 0 < 6; decide, by show 6 ≤ 1000; decide, fun x H1 hx hp1 b1 => ?_⟩
      have bb := (ba.trans (Same.but sm)).trans b1
      have hzl := hz
      simp only [List.cons_append, List.nil_append, List.mem_cons, List.not_mem_nil, or_false] at hx
      rcases hx with rfl | rfl | rfl | rfl | rfl | rfl
      · exact z _ (PyData.list [PyData.str "z"]) H1 hp1 bb (Dz.step (e_a1) hzl b1) (by simp [sideL])
      · exact z _ (PyData.tuple [PyData.str "y", PyData.str ""]) H1 hp1 bb (Dz.step (e_a2) hzl b1) (by simp [sideL])
      · exact z _ (PyData.list []) H1 hp1 bb (Dz.step (e_a3) hzl b1) (by simp [sideL])
      · exact z _ (PyData.list [PyData.str "one", PyData.str "two"]) H1 hp1 bb (Dz.step (e_a4) hzl b1) (by simp [sideL])
      · exact z _ (PyData.tuple []) H1 hp1 bb (Dz.step (e_a5) hzl b1) (by simp [sideL])
      · exact z _ (PyData.list (List.replicate 70 (PyData.str "z"))) H1 hp1 bb (Dz.step (e_a7) hzl b1) (by simp [sideL])
    refine ⟨_, rfl, p, 6, rfl, hpa, by decide, by decide, fun r2 Hb _ _ hpb bb0 => ⟨rfl, _, rfl, ?_⟩⟩
    replace hz := hz.step hpb bb0
    refine ite2 (fun _ => ?_) (fun _ => ?_)
    · have sm : Same Hb Hb := fun _ _ e => e
      intro a1 n_a1
      obtain ⟨G1, hG1⟩ : ∃ G, G = upd Hb a1 (.dK []) := ⟨_, rfl⟩
      rw [← hG1]
      have sG1 : Same Hb G1 := by rw [hG1]; exact same_upd n_a1
      have e_a1 : Dz K Z G1 (.ref a1) (PyData.dict []) := by rw [hG1]; exact Dq.dct (by rw [cut_out (hz.notin n_a1)]; exact upd_same) .nil .nil
      have g_a1 : G1 a1 = some (.dK []) := by rw [hG1]; exact upd_same
      replace hz := hz.same sG1
      replace sm := sm.trans sG1
      clear hG1 sG1 n_a1
      refine ⟨ll20 (by show 1 ≤ 20; decide), fun a2 n_a2 => ?_⟩
      obtain ⟨G2, hG2⟩ : ∃ G, G = upd G1 a2 (.lst [V.str "a\n"]) := ⟨_, rfl⟩
      rw [← hG2]
      have sG2 : Same G1 G2 := by rw [hG2]; exact same_upd n_a2
      have e_a2 : Dz K Z G2 (.ref a2) (PyData.list [PyData.str "a\n"]) := by rw [hG2]; exact Dz.new_lst (.cons (.str _) .nil) hz n_a2
      have g_a2 : G2 a2 = some (.lst [V.str "a\n"]) := by rw [hG2]; exact upd_same
      replace hz := hz.same sG2
      replace sm := sm.trans sG2
      replace e_a1 := e_a1.same sG2
      replace g_a1 := sG2 _ _ g_a1
      clear hG2 sG2 n_a2
      refine ⟨ll20 (by show 1 ≤ 20; decide), fun a3 n_a3 => ?_⟩
      obtain ⟨G3, hG3⟩ : ∃ G, G = upd G2 a3 (.lst [V.int 1]) := ⟨_, rfl⟩
      rw [← hG3]
      have sG3 : Same G2 G3 := by rw [hG3]; exact same_upd n_a3
      have e_a3 : Dz K Z G3 (.ref a3) (PyData.list [PyData.int 1]) := by rw [hG3]; exact Dz.new_lst (.cons (.int _) .nil) hz n_a3
      have g_a3 : G3 a3 = some (.lst [V.int 1]) := by rw [hG3]; exact upd_same
      replace hz := hz.same sG3
      replace sm := sm.trans sG3
      replace e_a1 := e_a1.same sG3
      replace e_a2 := e_a2.same sG3
      replace g_a1 := sG3 _ _ g_a1
      replace g_a2 := sG3 _ _ g_a2
      clear hG3 sG3 n_a3
      refine ⟨ll20 (by show 1 ≤ 20; decide), fun a4 n_a4 => ?_⟩
      obtain ⟨G4, hG4⟩ : ∃ G, G = upd G3 a4 (.lst [V.str "a"]) := ⟨_, rfl⟩
      rw [← hG4]
      have sG4 : Same G3 G4 := by rw [hG4]; exact same_upd n_a4
      have e_a4 : Dz K Z G4 (.ref a4) (PyData.list [PyData.str "a"]) := by rw [hG4]; exact Dz.new_lst (.cons (.str _) .nil) hz n_a4
      have g_a4 : G4 a4 = some (.lst [V.str "a"]) := by rw [hG4]; exact upd_same
      replace hz := hz.same sG4
      replace sm := sm.trans sG4
      replace e_a1 := e_a1.same sG4
      replace e_a2 := e_a2.same sG4
      replace e_a3 := e_a3.same sG4
      replace g_a1 := sG4 _ _ g_a1
      replace g_a2 := sG4 _ _ g_a2
      replace g_a3 := sG4 _ _ g_a3
      clear hG4 sG4 n_a4
      refine ⟨ll20 (by show 1 ≤ 20; decide), fun a5 n_a5 => ?_⟩
      obtain ⟨G5, hG5⟩ : ∃ G, G = upd G4 a5 (.lst [V.ref a4]) := ⟨_, rfl⟩
      rw [← hG5]
      have sG5 : Same G4 G5 := by rw [hG5]; exact same_upd n_a5
      have e_a5 : Dz K Z G5 (.ref a5) (PyData.list [(PyData.list [PyData.str "a"])]) := by rw [hG5]; exact Dz.new_lst (.cons e_a4 .nil) hz n_a5
      have g_a5 : G5 a5 = some (.lst [V.ref a4]) := by rw [hG5]; exact upd_same
      replace hz := hz.same sG5
      replace sm := sm.trans sG5
      replace e_a1 := e_a1.same sG5
      replace e_a2 := e_a2.same sG5
      replace e_a3 := e_a3.same sG5
      replace e_a4 := e_a4.same sG5
      replace g_a1 := sG5 _ _ g_a1
      replace g_a2 := sG5 _ _ g_a2
      replace g_a3 := sG5 _ _ g_a3
      replace g_a4 := sG5 _ _ g_a4
      clear hG5 sG5 n_a5
      refine ⟨ll20 (by show 2 ≤ 20; decide), fun a6 n_a6 => ?_⟩
      obtain ⟨G6, hG6⟩ : ∃ G, G = upd G5 a6 (.tup [V.str "a", V.non]) := ⟨_, rfl⟩
      rw [← hG6]
      have sG6 : Same G5 G6 := by rw [hG6]; exact same_upd n_a6
      have e_a6 : Dz K Z G6 (.ref a6) (PyData.tuple [PyData.str "a", PyData.none]) := by rw [hG6]; exact Dz.new_tup (.cons (.str _) (.cons .non .nil)) hz n_a6
      have g_a6 : G6 a6 = some (.tup [V.str "a", V.non]) := by rw [hG6]; exact upd_same
      replace hz := hz.same sG6
      replace sm := sm.trans sG6
      replace e_a1 := e_a1.same sG6
      replace e_a2 := e_a2.same sG6
      replace e_a3 := e_a3.same sG6
      replace e_a4 := e_a4.same sG6
      replace e_a5 := e_a5.same sG6
      replace g_a1 := sG6 _ _ g_a1
      replace g_a2 := sG6 _ _ g_a2
      replace g_a3 := sG6 _ _ g_a3
      replace g_a4 := sG6 _ _ g_a4
      replace g_a5 := sG6 _ _ g_a5
      clear hG6 sG6 n_a6
      refine ⟨ll20 (by show 11 ≤ 20; decide), fun a7 n_a7 => ?_⟩
      obtain ⟨G7, hG7⟩ : ∃ G, G = upd G6 a7 (.lst [V.str "three", V.str "", V.non, V.int 1, V.bl true, V.ref a1, V.ref a2, V.ref a3, V.ref a5, V.str "One", V.ref a6]) := ⟨_, rfl⟩
      rw [← hG7]
      have sG7 : Same G6 G7 := by rw [hG7]; exact same_upd n_a7
      have e_a7 : Dz K Z G7 (.ref a7) (PyData.list [PyData.str "three", PyData.str "", PyData.none, PyData.int 1, PyData.bool true, (PyData.dict []), (PyData.list [PyData.str "a\n"]), (PyData.list [PyData.int 1]), (PyData.list [(PyData.list [PyData.str "a"])]), PyData.str "One", (PyData.tuple [PyData.str "a", PyData.none])]) := by rw [hG7]; exact Dz.new_lst (.cons (.str _) (.cons (.str _) (.cons .non (.cons (.int _) (.cons (.bl _) (.cons e_a1 (.cons e_a2 (.cons e_a3 (.cons e_a5 (.cons (.str _) (.cons e_a6 .nil))))))))))) hz n_a7
      have g_a7 : G7 a7 = some (.lst [V.str "three", V.str "", V.non, V.int 1, V.bl true, V.ref a1, V.ref a2, V.ref a3, V.ref a5, V.str "One", V.ref a6]) := by rw [hG7]; exact upd_same
      replace hz := hz.same sG7
      replace sm := sm.trans sG7
      replace e_a1 := e_a1.same sG7
      replace e_a2 := e_a2.same sG7
      replace e_a3 := e_a3.same sG7
      replace e_a4 := e_a4.same sG7
      replace e_a5 := e_a5.same sG7
      replace e_a6 := e_a6.same sG7
      replace g_a1 := sG7 _ _ g_a1
      replace g_a2 := sG7 _ _ g_a2
      replace g_a3 := sG7 _ _ g_a3
      replace g_a4 := sG7 _ _ g_a4
      replace g_a5 := sG7 _ _ g_a5
      replace g_a6 := sG7 _ _ g_a6
      clear hG7 sG7 n_a7
      refine ⟨_, rfl, _, rfl, ll20 (by show 1 ≤ 20; decide), fun a8 n_a8 => ?_⟩
      obtain ⟨G8, hG8⟩ : ∃ G, G = upd G7 a8 (.tup [V.str "clash"]) := ⟨_, rfl⟩
      rw [← hG8]
      have sG8 : Same G7 G8 := by rw [hG8]; exact same_upd n_a8
      have e_a8 : Dz K Z G8 (.ref a8) (PyData.tuple [PyData.str "clash"]) := by rw [hG8]; exact Dz.new_tup (.cons (.str _) .nil) hz n_a8
      have g_a8 : G8 a8 = some (.tup [V.str "clash"]) := by rw [hG8]; exact upd_same
      replace hz := hz.same sG8
      replace sm := sm.trans sG8
      replace e_a1 := e_a1.same sG8
      replace e_a2 := e_a2.same sG8
      replace e_a3 := e_a3.same sG8
      replace e_a4 := e_a4.same sG8
      replace e_a5 := e_a5.same sG8
      replace e_a6 := e_a6.same sG8
      replace e_a7 := e_a7.same sG8
      replace g_a1 := sG8 _ _ g_a1
      replace g_a2 := sG8 _ _ g_a2
      replace g_a3 := sG8 _ _ g_a3
      replace g_a4 := sG8 _ _ g_a4
      replace g_a5 := sG8 _ _ g_a5
      replace g_a6 := sG8 _ _ g_a6
      replace g_a7 := sG8 _ _ g_a7
      clear hG8 sG8 n_a8
      refine ⟨_, _, _, rfl, rfl, SqT.of g_a8, by decide, by decide, by decide, by decide, fun a9 n_a9 => ?_⟩
      rw [show (List.replicate (2 : Int).toNat [V.str "clash"]).flatten = List.replicate 2 (V.str "clash") from rfl]
      obtain ⟨G9, hG9⟩ : ∃ G, G = upd G8 a9 (.tup (List.replicate 2 (V.str "clash"))) := ⟨_, rfl⟩
      rw [← hG9]
      have sG9 : Same G8 G9 := by rw [hG9]; exact same_upd n_a9
      have e_a9 : Dz K Z G9 (.ref a9) (PyData.tuple (List.replicate 2 (PyData.str "clash"))) := by rw [hG9]; exact Dz.new_tup (DqAll.rep (.str _) _) hz n_a9
      have g_a9 : G9 a9 = some (.tup (List.replicate 2 (V.str "clash"))) := by rw [hG9]; exact upd_same
      replace hz := hz.same sG9
      replace sm := sm.trans sG9
      replace e_a1 := e_a1.same sG9
      replace e_a2 := e_a2.same sG9
      replace e_a3 := e_a3.same sG9
      replace e_a4 := e_a4.same sG9
      replace e_a5 := e_a5.same sG9
      replace e_a6 := e_a6.same sG9
      replace e_a7 := e_a7.same sG9
      replace e_a8 := e_a8.same sG9
      replace g_a1 := sG9 _ _ g_a1
      replace g_a2 := sG9 _ _ g_a2
      replace g_a3 := sG9 _ _ g_a3
      replace g_a4 := sG9 _ _ g_a4
      replace g_a5 := sG9 _ _ g_a5
      replace g_a6 := sG9 _ _ g_a6
      replace g_a7 := sG9 _ _ g_a7
      replace g_a8 := sG9 _ _ g_a8
      clear hG9 sG9 n_a9
      refine ⟨ll20 (by show 1 ≤ 20; decide), fun a10 n_a10 => ?_⟩
      obtain ⟨G10, hG10⟩ : ∃ G, G = upd G9 a10 (.lst [V.ref a9]) := ⟨_, rfl⟩
      rw [← hG10]
      have sG10 : Same G9 G10 := by rw [hG10]; exact same_upd n_a10
      have e_a10 : Dz K Z G10 (.ref a10) (PyData.list [(PyData.tuple (List.replicate 2 (PyData.str "clash")))]) := by rw [hG10]; exact Dz.new_lst (.cons e_a9 .nil) hz n_a10
      have g_a10 : G10 a10 = some (.lst [V.ref a9]) := by rw [hG10]; exact upd_same
      replace hz := hz.same sG10
      replace sm := sm.trans sG10
      replace e_a1 := e_a1.same sG10
      replace e_a2 := e_a2.same sG10
      replace e_a3 := e_a3.same sG10
      replace e_a4 := e_a4.same sG10
      replace e_a5 := e_a5.same sG10
      replace e_a6 := e_a6.same sG10
      replace e_a7 := e_a7.same sG10
      replace e_a8 := e_a8.same sG10
      replace e_a9 := e_a9.same sG10
      replace g_a1 := sG10 _ _ g_a1
      replace g_a2 := sG10 _ _ g_a2
      replace g_a3 := sG10 _ _ g_a3
      replace g_a4 := sG10 _ _ g_a4
      replace g_a5 := sG10 _ _ g_a5
      replace g_a6 := sG10 _ _ g_a6
      replace g_a7 := sG10 _ _ g_a7
      replace g_a8 := sG10 _ _ g_a8
      replace g_a9 := sG10 _ _ g_a9
      clear hG10 sG10 n_a10
      refine ⟨_, _, _, _, rfl, rfl, g_a7, g_a10, by show 11 + 1 ≤ sizeLine; decide, fun ll n_ll => ?_⟩
      have sll := same_upd (o := .lst ([V.str "three", V.str "", V.non, V.int 1, V.bl true, V.ref a1, V.ref a2, V.ref a3, V.ref a5, V.str "One", V.ref a6] ++ [V.ref a9])) n_ll
      refine ⟨p, ll, _, rfl, hz.pot.same sll, upd_same, hz.pot.ne n_ll, by show 0 < 12; decide, by show 12 ≤ 1000; decide, fun x H1 hx hp1 b1 => ?_⟩
      have bb := ((ba.trans bb0).trans (Same.but (sm.trans sll))).trans b1
      have hzl := hz.same sll
      simp only [List.cons_append, List.nil_append, List.mem_cons, List.not_mem_nil, or_false] at hx
      rcases hx with rfl | rfl | rfl | rfl | rfl | rfl | rfl | rfl | rfl | rfl | rfl | rfl
      · exact z _ (PyData.str "three") H1 hp1 bb (.str _) (by simp [sideL])
      · exact z _ (PyData.str "") H1 hp1 bb (.str _) (by simp [sideL])
      · exact z _ PyData.none H1 hp1 bb .non (by simp [sideL])
      · exact z _ (PyData.int 1) H1 hp1 bb (.int _) (by simp [sideL])
      · exact z _ (PyData.bool true) H1 hp1 bb (.bl _) (by simp [sideL])
      · exact z _ (PyData.dict []) H1 hp1 bb (Dz.step (e_a1.same sll) hzl b1) (by simp [sideL])
      · exact z _ (PyData.list [PyData.str "a\n"]) H1 hp1 bb (Dz.step (e_a2.same sll) hzl b1) (by simp [sideL])
      · exact z _ (PyData.list [PyData.int 1]) H1 hp1 bb (Dz.step (e_a3.same sll) hzl b1) (by simp [sideL])
      · exact z _ (PyData.list [(PyData.list [PyData.str "a"])]) H1 hp1 bb (Dz.step (e_a5.same sll) hzl b1) (by simp [sideL])
      · exact z _ (PyData.str "One") H1 hp1 bb (.str _) (by simp [sideL])
      · exact z _ (PyData.tuple [PyData.str "a", PyData.none]) H1 hp1 bb (Dz.step (e_a6.same sll) hzl b1) (by simp [sideL])
      · exact z _ (PyData.tuple (List.replicate 2 (PyData.str "clash"))) H1 hp1 bb (Dz.step (e_a9.same sll) hzl b1) (by simp [sideL])
    · have sm : Same Hb Hb := fun _ _ e => e
      refine ⟨_, rfl, ll20 (by show 4 ≤ 20; decide), fun a1 n_a1 => ?_⟩
      have np_a1 := hz.pot.ne n_a1
      obtain ⟨G1, hG1⟩ : ∃ G, G = upd Hb a1 (.lst [V.str "one", V.str "two", V.str "both", V.str "none"]) := ⟨_, rfl⟩
      rw [← hG1]
      have sG1 : Same Hb G1 := by rw [hG1]; exact same_upd n_a1
      have e_a1 : Dz K Z G1 (.ref a1) (PyData.list [PyData.str "one", PyData.str "two", PyData.str "both", PyData.str "none"]) := by rw [hG1]; exact Dz.new_lst (.cons (.str _) (.cons (.str _) (.cons (.str _) (.cons (.str _) .nil)))) hz n_a1
      have g_a1 : G1 a1 = some (.lst [V.str "one", V.str "two", V.str "both", V.str "none"]) := by rw [hG1]; exact upd_same
      replace hz := hz.same sG1
      replace sm := sm.trans sG1
      clear hG1 sG1 n_a1
      refine ⟨p, a1, _, rfl, hz.pot, g_a1, np_a1, by show 0 < 4; decide, by show 4 ≤ 1000; decide, fun x H1 hx hp1 b1 => ?_⟩
      have bb := ((ba.trans bb0).trans (Same.but sm)).trans b1
      have hzl := hz
      simp only [List.cons_append, List.nil_append, List.mem_cons, List.not_mem_nil, or_false] at hx
      rcases hx with rfl | rfl | rfl | rfl
      · exact z _ (PyData.str "one") H1 hp1 bb (.str _) (by simp [sideL])
      · exact z _ (PyData.str "two") H1 hp1 bb (.str _) (by simp [sideL])
      · exact z _ (PyData.str "both") H1 hp1 bb (.str _) (by simp [sideL])
      · exact z _ (PyData.str "none") H1 hp1 bb (.str _) (by simp [sideL])
end
end K65
namespace XR
open PySem L2
theorem pi_or {X : Cx} {tg e : Expr} {w1 w2 : TI} (h1 : PI X tg e w1) (h2 : PI X tg e w2) : PI X tg e (fun σ H R => w1 σ H R ∨ w2 σ H R) := ⟨fun pins s σ H R I h => by
  rcases h with h | h
  · exact h1.run pins s σ H R I h
  · exact h2.run pins s σ H R I h⟩
/-- isinstance(x, str) and '\n' not in x -/
def tLineB (K : PySem.W.Frag) (i : Nat) : TE := tAndV (tCB (rIsi K) (tCons (tVar i) (tCons (tC (.ty "str")) tNil))) (tOp (fun x y H Q => ∃ (c : Nat) (z : Str), x = .str ⟨#[c]⟩ ∧ y = .str z ∧ Q (.bl (!decide (c ∈ z.cps.toList))) H) (tC (.str "\n")) (tVar i))
theorem line_te {K : PySem.W.Frag} {i : Nat} {σ : St} {H : Hp} {Q : VK} {x : V} {d : PyData} (e : σ[i]? = some (some x)) (hd : Dq K H x d) (z : Q (.bl (isLine d)) H) : tLineB K i σ H Q := by
  unfold tLineB
  refine ⟨_, e, x, _, _, _, _, rfl, .ty "str", hd.ty, kit_ty (kit_str d), _, rfl, ?_⟩
  cases d <;> first
    | exact iteF z
    | skip
  cases hd
  exact iteT ⟨_, e, _, _, rfl, rfl, z⟩
theorem cat_dq {K : PySem.W.Frag} {H : Hp} {Q : VK} {x y : V} {ds es : List PyData} (h : Dq K H x (.tuple ds)) (k : Dq K H y (.tuple es)) (n : ds.length + es.length ≤ sizeLine) (z : ∀ t ys H', Same H H' → SqT K H' t ys → DqAll K H' ys (ds ++ es) → Q (.ref t) H') : rCatA K x y H Q := by
  cases h with
  | @tup a xs ds h1 h2 =>
    cases k with
    | @tup b ys es k1 k2 =>
      have hl := h2.length
      have kl := k2.length
      refine ⟨a, b, xs, ys, rfl, rfl, h1, k1, by omega, fun e => ?_, fun _ e => ?_, fun _ _ t nt => ?_⟩
      · subst e
        cases h2
        exact z b ys H (fun _ _ e => e) k1 k2
      · subst e
        cases k2
        exact z a xs H (fun _ _ e => e) h1 (by rw [List.append_nil]; exact h2)
      · exact z t _ _ (same_upd nt) (SqT.of upd_same) ((DqAll.append h2 k2).same (same_upd nt))
/-- the lines that a side tells of a clash, by the law; none for what is no side -/
def spLlo (K : PySem.W.Frag) : Sp := fun vs H Q _ => ∃ (x : V) (q : Addr) (x0 x1 x2 x3 x4 : V) (o t : List PyData) (d : PyData), vs = [x, .ref q] ∧ SqT K H q [x0, x1, x2, x3, x4] ∧ Dq K H x3 (.tuple o) ∧ Dq K H x4 (.tuple t) ∧ o.length + t.length ≤ 1000 ∧ o.all isLine = true ∧ t.all isLine = true ∧ Dq K H x d ∧ (itemsOf d).length ≤ 1000 ∧
  (sideB d = false → ∀ H', Same H H' → Q .non H') ∧ (sideB d = true → ∀ u ys H', Same H H' → SqT K H' u ys → DqAll K H' ys (losD o t d) → Q (.ref u) H')
theorem four_of (s : Str) : sideB (.str s) = true → s = ("one" : Str) ∨ s = ("two" : Str) ∨ s = ("both" : Str) ∨ s = ("none" : Str) := fun h => by
  have h' : inV (.str s) fourV = true := h
  unfold inV fourV at h'
  simp only [List.any_cons, List.any_nil, eqV, Bool.or_false, Bool.or_eq_true, beq_iff_eq] at h'
  rcases h' with h | h | h | h
  · exact .inl h.symm
  · exact .inr (.inl h.symm)
  · exact .inr (.inr (.inl h.symm))
  · exact .inr (.inr (.inr h.symm))
theorem not_four {s : Str} (h1 : s ≠ ("one" : Str)) (h2 : s ≠ ("two" : Str)) (h3 : s ≠ ("both" : Str)) (h4 : s ≠ ("none" : Str)) : sideB (.str s) = false := by
  cases e : sideB (.str s) with
  | false => rfl
  | true =>
    rcases four_of s e with h | h | h | h
    · exact absurd h h1
    · exact absurd h h2
    · exact absurd h h3
    · exact absurd h h4
theorem key_neS {s r : Str} (h : s ≠ r) : ¬ (Sum.inr r : Key) = Sum.inr s := fun e => by
  injection e with e
  exact h e.symm
theorem SqT_upd {K : PySem.W.Frag} {H : Hp} {p u : Addr} {k : List (Key × V)} {us : List V} {o : HO} (hp : H p = some (.dK k)) (h : SqT K H u us) : SqT K (upd H p o) u us := by
  rcases h with (h | ⟨o', h⟩) | h
  · exact .inl (.inl (by rw [upd_ne (fun e => by rw [e, hp] at h; cases h)]; exact h))
  · exact .inl (.inr ⟨o', by rw [upd_ne (fun e => by rw [e, hp] at h; cases h)]; exact h⟩)
  · exact .inr h
theorem merge4 (a b c d : V) : mergeK [] [((Sum.inr ("one" : Str) : Key), a), ((Sum.inr ("two" : Str) : Key), b), ((Sum.inr ("both" : Str) : Key), c), ((Sum.inr ("none" : Str) : Key), d)] = [((Sum.inr ("one" : Str) : Key), a), ((Sum.inr ("two" : Str) : Key), b), ((Sum.inr ("both" : Str) : Key), c), ((Sum.inr ("none" : Str) : Key), d)] := by
  have e : ∀ (kvs : List (Key × V)) (k : Key) (v : V), valV kvs k = none → putK kvs k v = kvs ++ [(k, v)] := fun kvs k v h => by
    unfold putK
    rw [if_neg (by rw [valV_any, h]; decide)]
  have n1 : (Sum.inr ("one" : Str) : Key) ≠ Sum.inr ("two" : Str) := by decide +kernel
  have n2 : (Sum.inr ("one" : Str) : Key) ≠ Sum.inr ("both" : Str) := by decide +kernel
  have n3 : (Sum.inr ("one" : Str) : Key) ≠ Sum.inr ("none" : Str) := by decide +kernel
  have n4 : (Sum.inr ("two" : Str) : Key) ≠ Sum.inr ("both" : Str) := by decide +kernel
  have n5 : (Sum.inr ("two" : Str) : Key) ≠ Sum.inr ("none" : Str) := by decide +kernel
  have n6 : (Sum.inr ("both" : Str) : Key) ≠ Sum.inr ("none" : Str) := by decide +kernel
  unfold mergeK
  simp only [List.foldl]
  have q1 := e [] (Sum.inr ("one" : Str) : Key) a rfl
  have q2 := e [((Sum.inr ("one" : Str) : Key), a)] (Sum.inr ("two" : Str) : Key) b (by rw [valV_neg n1]; rfl)
  have q3 := e [((Sum.inr ("one" : Str) : Key), a), ((Sum.inr ("two" : Str) : Key), b)] (Sum.inr ("both" : Str) : Key) c (by rw [valV_neg n2, valV_neg n4]; rfl)
  have q4 := e [((Sum.inr ("one" : Str) : Key), a), ((Sum.inr ("two" : Str) : Key), b), ((Sum.inr ("both" : Str) : Key), c)] (Sum.inr ("none" : Str) : Key) d (by rw [valV_neg n3, valV_neg n5, valV_neg n6]; rfl)
  simp only [List.cons_append, List.nil_append] at q1 q2 q3 q4
  rw [q1, q2, q3, q4]
theorem los_one {o t : List PyData} : losD o t (.str "one") = o := by
  show (if V.str "one" = V.str "none" then [] else if V.str "one" = V.str "one" then o else if V.str "one" = V.str "two" then t else o ++ t) = o
  rw [if_neg (by decide +kernel), if_pos rfl]
theorem los_two {o t : List PyData} : losD o t (.str "two") = t := by
  show (if V.str "two" = V.str "none" then [] else if V.str "two" = V.str "one" then o else if V.str "two" = V.str "two" then t else o ++ t) = t
  rw [if_neg (by decide +kernel), if_neg (by decide +kernel), if_pos rfl]
theorem los_both {o t : List PyData} : losD o t (.str "both") = o ++ t := by
  show (if V.str "both" = V.str "none" then [] else if V.str "both" = V.str "one" then o else if V.str "both" = V.str "two" then t else o ++ t) = o ++ t
  rw [if_neg (by decide +kernel), if_neg (by decide +kernel), if_neg (by decide +kernel)]
theorem los_none {o t : List PyData} : losD o t (.str "none") = [] := by
  show (if V.str "none" = V.str "none" then [] else if V.str "none" = V.str "one" then o else if V.str "none" = V.str "two" then t else o ++ t) = []
  rw [if_pos rfl]
end XR
namespace K65
open PySem L2 XR
abbrev sLlo : Stmt := top 30
section
variable {P : Program} {w : World} {K : PySem.W.Frag} {mg : Str → Option Value} {base : Heap}
theorem scLlo : FnScope ["_law_side_here", "_law_token", "_law_words", "_law_line"] ["_law_side_here", "_law_token"] (defScope sLlo) := ⟨rfl, rfl, rfl, by decide +kernel, rfl, by decide +kernel, by decide +kernel⟩
theorem ok_llo {f : Addr} {fd : FuncData} (F : Fun K "_law_lines_of" "_law_lines_of" sLlo f fd) (T : Blt mg) : FnOk P w K mg base CX0 1 f fd ["_law_side_here", "_law_token"] (spLlo K) := by
  refine F.ok scLlo (fun vs H Q E h => ?_) (fun cdv A outer s H vs Q E hr h => ?_)
  · obtain ⟨x, q, x0, x1, x2, x3, x4, o, t, d, rfl, _⟩ := h
    rfl
  · obtain ⟨x, q, x0, x1, x2, x3, x4, o, t, d, rfl, hq, h3, h4, hlen, lo, lt, hd, hl, zn, z⟩ := h
    refine ⟨_, pss_cons (ps_if (pt_val (pe_callB call_isi (by rfl) T.isin (by decide +kernel) (pa_cons (pv 0) (pa_cons (pe_bltn (v := .ty "str") (u := .type "str") (by rfl) T.str (by decide +kernel) rfl) pa_nil))))
        (pss_cons (ps_set (i := 2) scLlo.nd rfl (.inl rfl) (pe_disp (pps_cons pe_str (pe_ix ix_tup (pv 1) pe_int (fun _ _ => rfl)) (pps_cons pe_str (pe_ix ix_tup (pv 1) pe_int (fun _ _ => rfl)) (pps_cons pe_str (pe_op op_catA (pe_ix ix_tup (pv 1) pe_int (fun _ _ => rfl)) (pe_ix ix_tup (pv 1) pe_int (fun _ _ => rfl))) (pps_cons pe_str (pe_tup pa_nil) pps_nil)))) (by rfl) (by rfl) (fun z => by cases z) (by decide)))
          (pss_one (ps_ret (pe_dget1 (hu_of hr) (pv 2) (pv 0) ⟨rfl, rfl, rfl, rfl⟩)))) pss_nil)
      (pss_cons (ps_if (pt_not (pt_val (pe_callB call_isiT (by rfl) T.isin (by decide +kernel) (pa_cons (pv 0) (pa_cons (pe_tup (pa_cons (pe_bltn (v := .ty "list") (u := .type "list") (by rfl) (T.all "list" (by decide)) (by decide +kernel) rfl) (pa_cons (pe_bltn (v := .ty "tuple") (u := .type "tuple") (by rfl) (T.all "tuple" (by decide)) (by decide +kernel) rfl) pa_nil))) pa_nil))))) (pss_one (ps_ret pe_non)) pss_nil)
      (pss_cons (ps_if (pt_not (pt_val (pe_callB (cr_all rfl) (by rfl) (T.all "all" (by decide)) (by decide +kernel) (pa_cons (pe_lc (own := [("_law_line", 3)]) (g := gName 3) (tt := tYes) (te := tLineB K 3) rfl scLlo.nd (pi_or (pi_list (pv 0)) (pi_tup (pv 0)))
          (blkOk_by (own := [("_law_line", 3)]) (N := ["_law_side_here", "_law_token", "_law_words", "_law_line"]) (sc := defScope sLlo) (by decide +kernel)) (fun _ _ _ _ _ => pg_name (i := 3) scLlo.nd rfl (Or.inl rfl)) (fun _ _ _ _ _ => pts_nil)
          (fun _ _ _ _ _ => pe_and (pe_callB call_isi (by rfl) T.isin (by decide +kernel) (pa_cons (pv 3) (pa_cons (pe_bltn (v := .ty "str") (u := .type "str") (by rfl) T.str (by decide +kernel) rfl) pa_nil))) (pe_one (pe_cmpR op_notIn_sign pe_str (pv 3) (by rfl))))) pa_nil)))) (pss_one (ps_ret pe_non)) pss_nil)
      (pss_one (ps_ret (pe_callTy call_tuple_of (by rfl) T.tuple (by decide +kernel) (pa_cons (pv 0) pa_nil)))))), ?_⟩
    refine ⟨_, rfl, x, _, _, _, _, rfl, .ty "str", hd.ty, kit_ty (kit_str d), _, rfl, ?_⟩
    have hd0 := hd
    cases hd with
    | str s =>
      refine iteT ?_
      intro p np
      have sp := same_upd (o := .dK []) np
      have hp0 := upd_same (H := H) (a := p) (o := .dK [])
      generalize upd H p (.dK []) = H1 at sp hp0 ⊢
      have hq1 := XR.Same.tup sp hq
      have ix3 := atI_nat (xs := [x0, x1, x2, x3, x4]) (j := 3) rfl
      have ix4 := atI_nat (xs := [x0, x1, x2, x3, x4]) (j := 4) rfl
      refine ⟨_, rfl, q, _, _, _, rfl, rfl, hq1, ix3, _, rfl, q, _, _, _, rfl, rfl, hq1, ix4, _, rfl, q, _, _, _, rfl, rfl, hq1, ix3, _, rfl, q, _, _, _, rfl, rfl, hq1, ix4, ?_⟩
      refine cat_dq (h3.same sp) (h4.same sp) (Nat.le_trans hlen (by decide)) fun u us H2 s2 hu hus => ⟨ll20 (by show 0 ≤ 20; decide), fun e0 ne0 => ?_⟩
      have s3 := same_upd (o := .tup []) ne0
      have hp3 := s3 _ _ (s2 _ _ hp0)
      refine ⟨hp3, [(Sum.inr "one", x3), (Sum.inr "two", x4), (Sum.inr "both", .ref u), (Sum.inr "none", .ref e0)], rfl, by show 4 ≤ 15; decide, ?_⟩
      have s23 := s2.trans s3
      have he0 := upd_same (H := H2) (a := e0) (o := .tup [])
      generalize upd H2 e0 (.tup []) = H3 at s3 hp3 s23 he0 ⊢
      have SF : ∀ o, Same H (upd H3 p o) := fun o b v h => by
        rw [upd_ne (ne_of_none h np)]
        exact s23 _ _ (sp _ _ h)
      have hu3 := SqT_upd (o := .dK (mergeK [] [(Sum.inr "one", x3), (Sum.inr "two", x4), (Sum.inr "both", .ref u), (Sum.inr "none", .ref e0)])) hp3 (XR.Same.tup s3 hu)
      have he3 := SqT_upd (o := .dK (mergeK [] [(Sum.inr "one", x3), (Sum.inr "two", x4), (Sum.inr "both", .ref u), (Sum.inr "none", .ref e0)])) hp3 (SqT.of (K := K) he0)
      have sF := SF (.dK (mergeK [] [(Sum.inr "one", x3), (Sum.inr "two", x4), (Sum.inr "both", .ref u), (Sum.inr "none", .ref e0)]))
      have hP := upd_same (H := H3) (a := p) (o := .dK (mergeK [] [(Sum.inr "one", x3), (Sum.inr "two", x4), (Sum.inr "both", .ref u), (Sum.inr "none", .ref e0)]))
      generalize upd H3 p (.dK (mergeK [] [(Sum.inr "one", x3), (Sum.inr "two", x4), (Sum.inr "both", .ref u), (Sum.inr "none", .ref e0)])) = H4 at hu3 he3 sF hP ⊢
      refine ⟨_, rfl, p, rfl, .inl ⟨_, .inl hP⟩, _, rfl, _, DGet.k (k := Sum.inr s) hP, ?_⟩
      rw [merge4]
      by_cases c1 : s = ("one" : Str)
      · subst c1
        rw [valV_pos rfl]
        cases h3 with
        | @tup a3 ys3 _ k1 k2 => exact z (by decide +kernel) a3 ys3 H4 sF (XR.Same.tup sF k1) (by rw [los_one]; exact lines_any k2 lo)
      rw [valV_neg (key_neS c1)]
      by_cases c2 : s = ("two" : Str)
      · subst c2
        rw [valV_pos rfl]
        cases h4 with
        | @tup a4 ys4 _ k1 k2 => exact z (by decide +kernel) a4 ys4 H4 sF (XR.Same.tup sF k1) (by rw [los_two]; exact lines_any k2 lt)
      rw [valV_neg (key_neS c2)]
      by_cases c3 : s = ("both" : Str)
      · subst c3
        rw [valV_pos rfl]
        exact z (by decide +kernel) u us H4 sF hu3 (by rw [los_both]; exact lines_any hus (by rw [List.all_append, lo, lt]; rfl))
      rw [valV_neg (key_neS c3)]
      by_cases c4 : s = ("none" : Str)
      · subst c4
        rw [valV_pos rfl]
        exact z (by decide +kernel) e0 [] H4 sF he3 (by rw [los_none]; exact .nil)
      rw [valV_neg (key_neS c4)]
      exact zn (not_four c1 c2 c3 c4) H4 sF
    | @lst a xs ds h1 h2 =>
      have hlen := h2.length
      have hn' : ds.length ≤ 1000 := hl
      refine iteF ⟨_, rfl, ll20 (by show 2 ≤ 20; decide), fun t0 nt0 => ?_⟩
      have s0 := same_upd (o := .tup [V.ty "list", V.ty "tuple"]) nt0
      have hu0 := upd_same (H := H) (a := t0) (o := .tup [V.ty "list", V.ty "tuple"])
      generalize upd H t0 (.tup [V.ty "list", V.ty "tuple"]) = H1 at s0 hu0 ⊢
      refine ⟨_, t0, _, _, _, _, rfl, hu0, .cons (.ty "list") (.cons (.ty "tuple") .nil), (hd0.same s0).ty, kit_seq _, _, rfl, iteF ?_⟩
      have h1' : SqL K H1 a xs := s0.seq h1
      refine .inl ⟨_, rfl, a, rfl, ⟨_, h1'⟩, fun D nD => ?_⟩
      have sD := same_upd (o := .lst []) nD
      refine lc_list (K := K) (a := a) (xs := xs) (fun i H' => Same H1 H' ∧ H' D = some (.lst (((ds.take i).map isLine).map V.bl))) ⟨sD, upd_same⟩ (fun i H' _ hh => hh.1.seq h1') ?_ ?_
      · rintro i y H' hx ⟨sm, hD⟩
        obtain ⟨e, hd1, hd2⟩ := h2.get hx
        refine ⟨rfl, ?_⟩
        unfold tYes
        dsimp only
        rw [if_pos rfl]
        refine line_te (i := 3) rfl ((hd2.same s0).same sm) ⟨_, hD, ?_, fun b o h => ?_, ?_⟩
        · rw [List.length_map, List.length_map]
          have c3 : (ds.take i).length ≤ 1000 := by rw [List.length_take]; omega
          exact Nat.lt_of_le_of_lt c3 (by decide)
        · rw [upd_ne (ne_of_none h nD)]
          exact sm _ _ h
        · rw [upd_same, List.take_add_one, hd1, List.map_append, List.map_append]
          rfl
      · rintro H' ⟨sm, hD⟩
        have ss := s0.trans sm
        refine ⟨D, ds.map isLine, rfl, SqL.of (by rw [hD, hlen, List.take_length]), _, rfl, ?_⟩
        have e : (ds.map isLine).all id = sideB (.list ds) := by
          rw [List.all_map]
          rfl
        rw [e]
        cases eb : sideB (.list ds) with
        | false => exact iteT (zn eb H' ss)
        | true => 
          refine iteF ⟨_, rfl, a, xs, rfl, .inl ⟨sm.seq h1', fun t nt => ?_⟩⟩
          have st := same_upd (o := .tup xs) nt
          exact z eb t xs _ (ss.trans st) (SqT.of upd_same) ((h2.same ss).same st)
    | @tup a xs ds h1 h2 =>
      have hlen := h2.length
      have hn' : ds.length ≤ 1000 := hl
      refine iteF ⟨_, rfl, ll20 (by show 2 ≤ 20; decide), fun t0 nt0 => ?_⟩
      have s0 := same_upd (o := .tup [V.ty "list", V.ty "tuple"]) nt0
      have hu0 := upd_same (H := H) (a := t0) (o := .tup [V.ty "list", V.ty "tuple"])
      generalize upd H t0 (.tup [V.ty "list", V.ty "tuple"]) = H1 at s0 hu0 ⊢
      refine ⟨_, t0, _, _, _, _, rfl, hu0, .cons (.ty "list") (.cons (.ty "tuple") .nil), (hd0.same s0).ty, kit_seq _, _, rfl, iteF ?_⟩
      have h1' : SqT K H1 a xs := XR.Same.tup s0 h1
      refine .inr ⟨_, rfl, a, rfl, ⟨_, h1'⟩, fun D nD => ?_⟩
      have sD := same_upd (o := .lst []) nD
      refine lc_tup (K := K) (a := a) (xs := xs) (fun i H' => Same H1 H' ∧ H' D = some (.lst (((ds.take i).map isLine).map V.bl))) ⟨sD, upd_same⟩ (fun i H' _ hh => XR.Same.tup hh.1 h1') ?_ ?_
      · rintro i y H' hx ⟨sm, hD⟩
        obtain ⟨e, hd1, hd2⟩ := h2.get hx
        refine ⟨rfl, ?_⟩
        unfold tYes
        dsimp only
        rw [if_pos rfl]
        refine line_te (i := 3) rfl ((hd2.same s0).same sm) ⟨_, hD, ?_, fun b o h => ?_, ?_⟩
        · rw [List.length_map, List.length_map]
          have c3 : (ds.take i).length ≤ 1000 := by rw [List.length_take]; omega
          exact Nat.lt_of_le_of_lt c3 (by decide)
        · rw [upd_ne (ne_of_none h nD)]
          exact sm _ _ h
        · rw [upd_same, List.take_add_one, hd1, List.map_append, List.map_append]
          rfl
      · rintro H' ⟨sm, hD⟩
        have ss := s0.trans sm
        refine ⟨D, ds.map isLine, rfl, SqL.of (by rw [hD, hlen, List.take_length]), _, rfl, ?_⟩
        have e : (ds.map isLine).all id = sideB (.tuple ds) := by
          rw [List.all_map]
          rfl
        rw [e]
        cases eb : sideB (.tuple ds) with
        | false => exact iteT (zn eb H' ss)
        | true => exact iteF ⟨_, rfl, a, xs, rfl, .inr ⟨XR.Same.tup sm h1', z eb a xs _ ss (XR.Same.tup ss h1) (h2.same ss)⟩⟩
    | _ =>
      refine iteF ⟨_, rfl, ll20 (by show 2 ≤ 20; decide), fun t0 nt0 => ?_⟩
      have s0 := same_upd (o := .tup [V.ty "list", V.ty "tuple"]) nt0
      exact ⟨_, t0, _, _, _, _, rfl, upd_same, .cons (.ty "list") (.cons (.ty "tuple") .nil), (hd0.same s0).ty, kit_seq _, _, rfl, iteT (zn rfl _ s0)⟩
end
end K65
namespace XR
open PySem L2
/-- what is due -/
def dueD (ds sd : List PyData) : PyData :=
  match badAt (places ds) sd with
  | some i => .list [.str "none", .int (i : Nat), .bool true]
  | none => .list [.str "told", .list (resD ds sd)]
theorem due_bad {ds sd : List PyData} {i : Nat} (e : badAt (places ds) sd = some i) : dueD ds sd = .list [.str "none", .int (i : Nat), .bool true] := by unfold dueD; rw [e]
theorem due_ok {ds sd : List PyData} (e : badAt (places ds) sd = none) : dueD ds sd = .list [.str "told", .list (resD ds sd)] := by unfold dueD; rw [e]
def spDueS (K : PySem.W.Frag) : Sp := fun vs H Q _ => ∃ (a b : Addr) (xs ys : List V) (ds sd : List PyData), vs = [.ref a, .ref b] ∧ SqT K H a xs ∧ DqAll K H xs ds ∧ rowB (.tuple ds) = true ∧ SqL K H b ys ∧ DqAll K H ys sd ∧ sd.length ≤ 20 ∧ (∀ s ∈ sd, (itemsOf s).length ≤ 1000) ∧
  ∀ t H', Same H H' → Dq K H' (.ref t) (dueD ds sd) → Q (.ref t) H'
end XR
namespace K65
open PySem L2 XR
abbrev sDue : Stmt := top 31
section
variable {P : Program} {w : World} {K : PySem.W.Frag} {mg : Str → Option Value} {base : Heap}
theorem scDue : FnScope ["_law_tokens_here", "_law_sides", "_law_clashes_there", "_law_token", "_law_empty", "_law_at", "_law_found"] ["_law_tokens_here", "_law_sides"] (defScope sDue) := ⟨rfl, rfl, rfl, by decide +kernel, rfl, by decide +kernel, by decide +kernel⟩
theorem ok_due {f fL : Addr} {fd fdL : FuncData} (F : Fun K "_law_due" "_law_due" sDue f fd) (T : Blt mg)
    (FL : Fun K "_law_lines_of" "_law_lines_of" sLlo fL fdL) (GL : FnOk P w K mg base CX0 1 fL fdL ["_law_side_here", "_law_token"] (spLlo K)) (bL : Binds K fdL ["_law_side_here", "_law_token"] []) (mL : mg "_law_lines_of" = some (.ref fL)) :
    FnOk P w K mg base CX0 2 f fd ["_law_tokens_here", "_law_sides"] (spDueS K) := by
  refine F.ok scDue (fun vs H Q E h => ?_) (fun cdv A outer s H vs Q E hr h => ?_)
  · obtain ⟨a, b, xs, ys, ds, sd, rfl, _⟩ := h
    rfl
  · obtain ⟨a, b, xs, ys, ds, sd, rfl, h1, h2, er, hb, hs, hl, hi, z⟩ := h
    refine ⟨_, pss_cons (ps_setLc (i := 2) (own := [("_law_token", 3)]) (g := gName 3) (tt := tB (tCB (rIsi K) (tCons (tVar 3) (tCons (tC (.ty "tuple")) tNil)))) (te := tVar 3) rfl scDue.nd rfl rfl (sw_true rfl rfl rfl (by decide +kernel))
          (pi_tup (pv 0))
          (blkOk_by (own := [("_law_token", 3)]) (N := ["_law_tokens_here", "_law_sides", "_law_clashes_there", "_law_token", "_law_empty", "_law_at", "_law_found"]) (sc := defScope sDue) (by decide +kernel))
          (fun _ _ _ _ _ => pg_name (i := 3) scDue.nd rfl (Or.inl rfl)) (fun _ _ _ _ _ => pts_one (pt_val (pe_callB call_isi (by rfl) T.isin (by decide +kernel) (pa_cons (pv 3) (pa_cons (pe_bltn (v := .ty "tuple") (u := .type "tuple") (by rfl) T.tuple (by decide +kernel) rfl) pa_nil)))))
          (fun _ _ _ _ _ => pv 3))
      (pss_cons (ps_set (i := 4) scDue.nd rfl (.inl rfl) (pe_tup (pa_cons pe_str (pa_cons pe_int (pa_cons pe_int (pa_cons (pe_tup pa_nil) (pa_cons (pe_tup pa_nil) pa_nil)))))))
      (pss_cons (ps_for PassesOwn.never rfl (pi_range1 rfl T.range (pa_cons (pe_callB call_len_seq (by rfl) T.len PySem.boot_len (pa_cons (pv 1) pa_nil)) pa_nil)) (pg_name (i := 5) scDue.nd rfl (.inl rfl))
        (pss_one (ps_if (PW.pt (pw_or (pt_cmpR op_ge (pv 5) (pe_callB call_len_seq (by rfl) T.len PySem.boot_len (pa_cons (pv 2) pa_nil)) (nomark _)) (pw_or1 (pt_cmp (pc_isN (pe_call GL hr rfl mL FL.kp bL .nil pass0 (pa_cons (pe_ix ix_list (pv 1) (pv 5) (fun _ _ => rfl)) (pa_cons (pv 4) pa_nil))))))))
          (pss_one (ps_ret (pe_lst (pa_cons pe_str (pa_cons (pv 5) (pa_cons pe_bl pa_nil)))))) pss_nil)))
      (pss_cons (ps_if (pt_cmpR op_lt (pe_callB call_len_seq (by rfl) T.len PySem.boot_len (pa_cons (pv 1) pa_nil)) (pe_callB call_len_seq (by rfl) T.len PySem.boot_len (pa_cons (pv 2) pa_nil)) (nomark _))
        (pss_one (ps_ret (pe_lst (pa_cons pe_str (pa_cons (pe_callB call_len_seq (by rfl) T.len PySem.boot_len (pa_cons (pv 1) pa_nil)) (pa_cons pe_bl pa_nil)))))) pss_nil)
      (pss_cons (ps_par (i := 6) (j := 5) rfl scDue.nd rfl rfl (by decide) rfl rfl (pa_cons (pe_lst pa_nil) (pa_cons pe_int pa_nil)) rfl)
      (pss_cons (ps_for PassesOwn.never rfl (pi_tup (pv 0)) (pg_name (i := 3) scDue.nd rfl (.inl rfl))
        (pss_one (ps_if (pt_val (pe_callB call_isi (by rfl) T.isin (by decide +kernel) (pa_cons (pv 3) (pa_cons (pe_bltn (v := .ty "str") (u := .type "str") (by rfl) T.str (by decide +kernel) rfl) pa_nil))))
          (pss_one (ps_expr (pe_bm PySem.F.plainAttrs_list PySem.F.slot_list_append PySem.F.type_list_append mt_append (pv 6) (pa_cons (pv 3) pa_nil))))
          (pss_cons (ps_expr (pe_bm PySem.F.plainAttrs_list PySem.F.slot_list_extend PySem.F.type_list_extend mt_extendT (pv 6) (pa_cons (pe_call GL hr rfl mL FL.kp bL .nil pass0 (pa_cons (pe_ix ix_list (pv 1) (pv 5) (fun _ _ => rfl)) (pa_cons (pv 3) pa_nil))) pa_nil)))
            (pss_one (ps_set (i := 5) scDue.nd rfl (.inl rfl) (pe_op op_add (pv 5) pe_int)))))))
      (pss_one (ps_ret (pe_lst (pa_cons pe_str (pa_cons (pv 6) pa_nil)))))))))), ?_⟩
    have hlen := h2.length
    have hslen := hs.length
    have hdl : ds.length ≤ 180 := by rw [rowB_tup, Bool.and_eq_true] at er; exact of_decide_eq_true er.1
    have hall : ds.all tokB = true := by rw [rowB_tup, Bool.and_eq_true] at er; exact er.2
    refine ⟨_, rfl, a, rfl, ⟨_, h1⟩, fun D nD => ?_⟩
    have sD := same_upd (o := .lst []) nD
    refine lc_tup (K := K) (a := a) (xs := xs) (fun i H' => Same H H' ∧ ∃ zs, H' D = some (.lst zs) ∧ zs.length = (placesTo ds i).length) ⟨sD, [], upd_same, rfl⟩ (fun i H' _ hh => XR.Same.tup hh.1 h1) ?_ ?_
    · rintro i x H' hx ⟨sm, zs, hD, hzl⟩
      obtain ⟨e, e1, e2⟩ := h2.get hx
      refine ⟨rfl, ?_⟩
      refine ⟨_, rfl, x, _, _, _, _, rfl, .ty "tuple", (e2.same sm).ty, kit_ty (kit_tuple e), _, rfl, ?_⟩
      have hil : i < xs.length := (List.getElem?_eq_some_iff.mp hx).1
      have lp := placesTo_len ds i
      have fin : tupB e = true → ∃ acc, H' D = some (.lst acc) ∧ acc.length < sizeLine ∧ (Same H (upd H' D (.lst (acc ++ [x]))) ∧ ∃ zs, (upd H' D (.lst (acc ++ [x]))) D = some (.lst zs) ∧ zs.length = (placesTo ds (i + 1)).length) := fun q => by
        refine ⟨zs, hD, Nat.lt_of_le_of_lt (show zs.length ≤ 180 by omega) (by decide), fun b o h => ?_, _, upd_same, ?_⟩
        · rw [upd_ne (ne_of_none h nD)]
          exact sm _ _ h
        · rw [placesTo_succ e1, if_pos q, List.length_append, List.length_append, hzl]; rfl
      have fin0 : tupB e = false → Same H H' ∧ ∃ zs, H' D = some (.lst zs) ∧ zs.length = (placesTo ds (i + 1)).length := fun q => by
        refine ⟨sm, zs, hD, ?_⟩
        rw [placesTo_succ e1, q, if_neg (by decide)]
        exact hzl
      cases e with
      | tuple fs => exact iteT ⟨_, rfl, fin rfl⟩
      | _ => exact iteF (fin0 rfl)
    rintro H1 ⟨s1, zs, hD1, hzl⟩
    rw [hlen] at hzl
    have hzl : zs.length = (places ds).length := hzl
    refine ⟨ll20 (by show 0 ≤ 20; decide), fun u1 nu1 => ⟨ll20 (by show 0 ≤ 20; decide), fun u2 nu2 => ⟨ll20 (by show 5 ≤ 20; decide), fun u nu => ?_⟩⟩⟩
    have t1 := same_upd (o := .tup []) nu1
    have t2 := same_upd (o := .tup []) nu2
    have t3 := same_upd (o := .tup [V.str "clash", V.int 0, V.int 0, V.ref u1, V.ref u2]) nu
    have hu1 := (t2.trans t3) _ _ (upd_same (H := H1) (a := u1) (o := .tup []))
    have hu2 := t3 _ _ (upd_same (H := upd H1 u1 (.tup [])) (a := u2) (o := .tup []))
    have hu := upd_same (H := upd (upd H1 u1 (.tup [])) u2 (.tup [])) (a := u) (o := .tup [V.str "clash", V.int 0, V.int 0, V.ref u1, V.ref u2])
    have s12 := t1.trans (t2.trans t3)
    generalize upd (upd (upd H1 u1 (.tup [])) u2 (.tup [])) u (.tup [V.str "clash", V.int 0, V.int 0, V.ref u1, V.ref u2]) = H2 at *
    clear t1 t2 t3 nu1 nu2 nu
    have s2 := s1.trans s12
    have hD2 := s12 _ _ hD1
    refine ⟨_, rfl, b, ys, rfl, .inl (s2.seq hb), _, rfl, by omega, by omega, ?_⟩
    refine for_range (n := ys.length) (fun k σ H' => Same H2 H' ∧ (∃ y3 y5 y6, σ = [some (V.ref a), some (V.ref b), some (V.ref D), y3, some (V.ref u), y5, y6]) ∧ goodS (places ds) sd k) ⟨fun _ _ h => h, ⟨_, _, _, rfl⟩, fun j h => absurd h (Nat.not_lt_zero _)⟩ ?_ ?_
    · rintro k σ Ha hk ⟨sm, ⟨y3, y5, y6, rfl⟩, hg⟩
      have hx := List.getElem?_eq_getElem hk
      obtain ⟨e, e1, e2⟩ := hs.get hx
      have sa := s2.trans sm
      have fin : ∀ (H3 : Hp), Same H H3 → ((places ds).length ≤ k ∨ sideB e = false) → ∀ t, H3 t = none → Q (.ref t) (upd H3 t (.lst [V.str "none", V.int (0 + (k : Int)), V.bl true])) := by
        intro H3 s3 hb t nt
        refine z t _ (s3.trans (same_upd nt)) ?_
        rw [due_bad (bad_some e1 hg hb), Int.zero_add]
        exact .lst (SqL.of upd_same) (.cons (.str _) (.cons (.int _) (.cons (.bl _) .nil)))
      refine ⟨_, rfl, _, rfl, D, zs, rfl, .inl (SqL.of (sm _ _ hD2)), _, _, rfl, rfl, _, rfl, ?_⟩
      by_cases c : (places ds).length ≤ k
      · rw [decide_eq_true (show ((zs.length : Nat) : Int) ≤ 0 + (k : Int) by omega)]
        refine iteT (iteT ⟨_, rfl, ll20 (by show 3 ≤ 20; decide), fun t nt => fin _ sa (.inl c) t nt⟩)
      rw [decide_eq_false (show ¬ ((zs.length : Nat) : Int) ≤ 0 + (k : Int) by omega)]
      refine iteF ⟨_, rfl, _, rfl, b, ys, _, ys[k], rfl, rfl, sa.seq hb, by rw [Int.zero_add]; exact atI_nat hx, _, rfl, ?_⟩
      refine ⟨ys[k], u, _, _, _, .ref u1, .ref u2, [], [], e, rfl, SqT.of (sm _ _ hu), .tup (SqT.of (sm _ _ hu1)) .nil, .tup (SqT.of (sm _ _ hu2)) .nil, by decide, rfl, rfl, e2.same sa, hi e (List.mem_of_getElem? e1), fun q H3 s3 => ?_, fun q t' zs' H3 s3 _ _ => ?_⟩
      · refine ⟨_, rfl, iteT ⟨_, rfl, ll20 (by show 3 ≤ 20; decide), fun t nt => fin _ (sa.trans s3) (.inr q) t nt⟩⟩
      · refine ⟨_, rfl, iteF ⟨sm.trans s3, ⟨_, _, _, rfl⟩, fun j hj => ?_⟩⟩
        by_cases ej : j = k
        · rw [ej, getD_at e1]
          exact ⟨by omega, q⟩
        · exact hg j (by omega)
    rintro σ H3 ⟨s23, ⟨y3, y5, y6, rfl⟩, hg⟩
    rw [hslen] at hg
    have bn := bad_none hg
    have s3 := s2.trans s23
    refine ⟨_, rfl, b, ys, rfl, .inl (s3.seq hb), _, rfl, D, zs, rfl, .inl (SqL.of (s23 _ _ hD2)), _, _, rfl, rfl, _, rfl, ?_⟩
    by_cases c : sd.length < (places ds).length
    · rw [if_pos c] at bn
      rw [decide_eq_true (show (ys.length : Int) < (zs.length : Int) by omega)]
      refine iteT ⟨_, rfl, b, ys, rfl, .inl (s3.seq hb), ll20 (by show 3 ≤ 20; decide), fun t nt => ?_⟩
      refine z t _ (s3.trans (same_upd nt)) ?_
      rw [due_bad bn, ← hslen]
      exact .lst (SqL.of upd_same) (.cons (.str _) (.cons (.int _) (.cons (.bl _) .nil)))
    rw [if_neg c] at bn
    rw [decide_eq_false (show ¬ (ys.length : Int) < (zs.length : Int) by omega)]
    have epl : (places ds).length = ys.length := by
      by_cases q : sd.length = 0
      · omega
      · have := (hg (sd.length - 1) (by omega)).1
        omega
    refine iteF ⟨ll20 (by show 0 ≤ 20; decide), fun L nL => ⟨_, _, rfl, ?_⟩⟩
    have sL := same_upd (o := .lst []) nL
    have h13 := XR.Same.tup s3 h1
    refine ⟨_, rfl, a, rfl, ⟨_, XR.Same.tup sL h13⟩, ?_⟩
    refine for_tup (K := K) (a := a) (xs := xs) (fun i σ H' => Same H3 H' ∧ (∃ y3, σ = [some (V.ref a), some (V.ref b), some (V.ref D), y3, some (V.ref u), some (V.int ((placesTo ds i).length : Nat)), some (V.ref L)]) ∧
      ∃ zs es, H' L = some (.lst zs) ∧ DqAll K (L2.del H' L) zs es ∧ es ++ resD (ds.drop i) (sd.drop (placesTo ds i).length) = resD ds sd ∧ es.length ≤ 1000 * i) ⟨sL, ⟨_, rfl⟩, [], [], upd_same, .nil, rfl, Nat.zero_le _⟩ (fun i σ H' _ hh => XR.Same.tup hh.1 h13) ?_ ?_
    · rintro i x σ Ha hx ⟨sm, ⟨y3, rfl⟩, zs, es, hL, hz, he, hel⟩
      obtain ⟨e, he1, he2⟩ := h2.get hx
      have he3 := he2.same (s3.trans sm)
      have etok : tokB e = true := List.all_eq_true.mp hall e (List.mem_of_getElem? he1)
      have edrop : ds.drop i = e :: ds.drop (i + 1) := by
        have hh := List.getElem?_eq_some_iff.mp he1
        rw [List.drop_eq_getElem_cons hh.1, hh.2]
      have hzl := hz.length
      have hil : i < xs.length := (List.getElem?_eq_some_iff.mp hx).1
      refine ⟨_, rfl, x, _, _, _, _, rfl, .ty "str", he3.ty, kit_ty (kit_str e), _, rfl, ?_⟩
      cases q : tupB e with
      | true =>
        obtain ⟨cq, d0, d1, d2, d3, d4, x0, x1, x2, x3, x4, rfl, rfl, hcq, _, _, _, a3, a4⟩ := tok_clash he3 q etok
        obtain ⟨o, t2, rfl, rfl, ho, ht, lo, lt⟩ := clash_two etok
        have pa := places_at he1 q
        have kl := (List.getElem?_eq_some_iff.mp pa).1
        obtain ⟨sk, hsk⟩ : ∃ sk, sd[(placesTo ds i).length]? = some sk := ⟨_, List.getElem?_eq_getElem (by omega)⟩
        obtain ⟨yk, hyk⟩ : ∃ yk, ys[(placesTo ds i).length]? = some yk := ⟨_, List.getElem?_eq_getElem (by omega)⟩
        obtain ⟨sk', hsk', hde⟩ := hs.get hyk
        cases Option.some.inj (hsk.symm.trans hsk')
        have hsb := (hg _ (by omega : (placesTo ds i).length < sd.length)).2
        rw [getD_at hsk] at hsb
        have hio := hi sk (List.mem_of_getElem? hsk)
        refine iteF ⟨_, rfl, .inl ⟨rfl, _, SqL.of hL⟩, _, rfl, _, rfl, b, ys, _, yk, rfl, rfl, (s3.trans sm).seq hb, atI_nat hyk, _, rfl, ?_⟩
        refine ⟨yk, cq, x0, x1, x2, x3, x4, o, t2, sk, rfl, hcq, a3, a4, by omega, lo, lt, hde.same (s3.trans sm), hio, ?_, ?_⟩
        · intro q2
          rw [hsb] at q2
          cases q2
        intro _ t' zs' H5 s5 ht' hz'
        have sdrop : sd.drop (placesTo ds i).length = sk :: sd.drop ((placesTo ds i).length + 1) := by
          have hh := List.getElem?_eq_some_iff.mp hsk
          rw [List.drop_eq_getElem_cons hh.1, hh.2]
        have hL5 := s5 _ _ hL
        have hyl := hz'.length
        have hll := los_len (o := o) (t := t2) (d := sk) ho ht hio
        refine ⟨L, t', zs, zs', rfl, rfl, hL5, ht', ?_, _, rfl, _, _, rfl, rfl, ⟨fun b o h => ?_, ⟨some (V.ref cq), ?_⟩, zs ++ zs', es ++ losD o t2 sk, upd_same, ?_, ?_, ?_⟩⟩
        · exact Nat.le_trans (show zs.length + zs'.length ≤ 181000 by omega) (by decide)
        · rw [upd_ne (ne_of_none h nL)]
          exact s5 _ _ (sm _ _ h)
        · rw [placesTo_succ he1, if_pos q, List.length_append]
          rfl
        · rw [del_upd]
          exact DqAll.append (hz.same (Same.but (a := L) s5).del) (lines_any hz' (los_lines lo lt hsb))
        · rw [placesTo_succ he1, if_pos q, List.length_append, List.append_assoc, ← he, edrop, sdrop, res_clash]
          rfl
        · rw [List.length_append]; omega
      | false =>
        obtain ⟨s', rfl⟩ : ∃ s', e = .str s' := by
          cases e with
          | str s' => exact ⟨s', rfl⟩
          | tuple fs => cases q
          | _ => exact Bool.noConfusion (show false = true from etok)
        refine iteT ⟨_, rfl, .inl ⟨rfl, _, SqL.of hL⟩, _, rfl, L, zs, x, rfl, rfl, hL, Nat.lt_of_le_of_lt (show zs.length ≤ 180000 by omega) (by decide), ⟨fun b o h => ?_, ⟨some x, ?_⟩, zs ++ [x], es ++ [.str s'], upd_same, ?_, ?_, ?_⟩⟩
        · rw [upd_ne (ne_of_none h nL)]
          exact sm _ _ h
        · rw [placesTo_succ he1, if_neg (by rw [q]; decide)]
          rfl
        · rw [del_upd]
          exact DqAll.snoc hz (he2.same (s3.trans (same_to_del sm nL)))
        · rw [placesTo_succ he1, if_neg (by rw [q]; decide), List.append_assoc, ← he, edrop, res_line q]
          rfl
        · rw [List.length_append]
          show es.length + 1 ≤ _
          omega
    · rintro σ Ha ⟨sm, ⟨y3, rfl⟩, zs, es, hL, hz, he, hel⟩
      refine ⟨_, rfl, ll20 (by show 2 ≤ 20; decide), fun t nt => ?_⟩
      have st := same_upd (o := .lst [V.str "told", V.ref L]) nt
      have e1 : es = resD ds sd := by
        rw [← he, hlen, List.drop_length]
        show es = es ++ resD [] _
        unfold resD
        rw [List.append_nil]
      refine z t _ (s3.trans (sm.trans st)) ?_
      rw [due_ok bn, ← e1]
      exact .lst (SqL.of upd_same) (.cons (.str _) (.cons (.lst (SqL.of (st _ _ hL)) ((hz.same del_sub).same st)) .nil))
end
end K65
namespace XR
open PySem L2
theorem ifV {a b : Int} {p q : Prop} (h : a ≠ b) (k : q) : if decide (V.int a = V.int b) = true then p else q := by
  rw [decide_eq_false (fun e => h (by injection e)), if_neg (by decide)]; exact k
theorem ifVt {a b : Int} {p q : Prop} (h : a = b) (k : p) : if decide (V.int a = V.int b) = true then p else q := by
  rw [decide_eq_true (by rw [h]), if_pos rfl]; exact k
theorem Shw.lineX {n k : Nat} {d : PyData} (h : Shw n k d) (hn : n ≤ 16000000) : d.shown.length ≤ sizeLine := Nat.le_trans h.len (Nat.le_trans hn (by decide))
/-- resolved, its sides in a list -/
def spCallS (K : PySem.W.Frag) (CR CI : Addr) : Sp := fun vs H Q E => ∃ (x : V) (b : Addr) (d : PyData) (ys : List V) (sd : List PyData), vs = [x, .ref b] ∧ Dq K H x d ∧ SqL K H b ys ∧ DqAll K H ys sd ∧ sd.length ≤ 4 ∧ (∀ s ∈ sd, (itemsOf s).length ≤ 1000) ∧
  (rowB d = false → ∀ (H' : Hp) (dd : Addr), Same H H' → H dd = none → H' dd = some (.xd [("value", x)]) → E (.ref CR) (some dd) H') ∧
  (∀ ds, d = .tuple ds → rowB d = true →
    (∀ i, badAt (places ds) sd = some i → ∀ (H' : Hp) (dd : Addr), Same H H' → H dd = none → H' dd = some (.xd [("index", .int (i : Nat))]) → E (.ref CI) (some dd) H') ∧
    (badAt (places ds) sd = none → ∀ l zs H', Same H H' → H l = none → H' l = some (.lst zs) → DqAll K H' zs (resD ds sd) → Q (.ref l) H'))
/-- what is told, or what is raised, as a list -/
def spAskS (K : PySem.W.Frag) : Sp := fun vs H Q _ => ∃ (x : V) (b : Addr) (d : PyData) (ys : List V) (sd : List PyData), vs = [x, .ref b] ∧ Dq K H x d ∧ Shw 1000000 12 d ∧ SqL K H b ys ∧ DqAll K H ys sd ∧ sd.length ≤ 4 ∧ (∀ s ∈ sd, (itemsOf s).length ≤ 1000) ∧
  (rowB d = false → ∀ t H', Same H H' → Dq K H' (.ref t) (.list [.str "no row", .str d.shown]) → Q (.ref t) H') ∧
  (∀ ds, d = .tuple ds → rowB d = true →
    ∀ t v r H', Same H H' → H' t = some (.lst (.str v :: r)) → (v = ("told" : Str) → ∃ l zs, r = [.ref l] ∧ H' l = some (.lst zs) ∧ H l = none ∧ zs.length = (resD ds sd).length) → Dq K H' (.ref t) (dueD ds sd) → Q (.ref t) H')
/-- the two classes of exceptions, told apart, and what they are -/
structure Apart5 (K : PySem.W.Frag) (CR CI CB : Addr) : Prop where
  ii : PySem.W.exmOne K (.ref CI) (.ref CI) = some true
  ri : PySem.W.exmOne K (.ref CR) (.ref CI) = some false
  rr : PySem.W.exmOne K (.ref CR) (.ref CR) = some true
  ib : PySem.W.kitOne K (.ref CI) (.ref CB) = some true
  iv : PySem.W.kitOne K (.ref CI) (.type "ValueError") = some true
end XR
namespace K65
open PySem L2 XR
abbrev sCall : Stmt := top 32
abbrev sAsked : Stmt := top 33
section
variable {P : Program} {w : World} {K : PySem.W.Frag} {mg : Str → Option Value} {base : Heap}
theorem scCall : FnScope ["_law_value", "_law_sides"] ["_law_value", "_law_sides"] (defScope sCall) := ⟨rfl, rfl, rfl, by decide +kernel, rfl, by decide +kernel, by decide +kernel⟩
theorem ok_call {f fR CR CI : Addr} {fd : FuncData} (F : Fun K "_law_call" "_law_call" sCall f fd) (T : Blt mg)
    (GR : FnR P w K mg base (L2.CX P w) 7 fR (spResolved K CR CI)) (kR : PySem.W.keepIn K (.ref fR) = true) (mR : mg "resolved" = some (.ref fR)) : FnOk P w K mg base (L2.CX P w) 8 f fd ["_law_value", "_law_sides"] (spCallS K CR CI) := by
  refine F.okX scCall (fun vs H Q E h => ?_) (fun cdv A outer s H vs Q E hr h => ?_)
  · obtain ⟨x, b, d, ys, sd, rfl, _⟩ := h
    rfl
  · obtain ⟨x, b, d, ys, sd, rfl, hd, hb, hs, hl, hi, zx, z⟩ := h
    refine ⟨_, pss_cons (ps_if (pt_cmpR (op_eqL0 hr) (pv 1) (pe_lst pa_nil) (nomark _)) (pss_one (ps_ret (pe_callR GR hr rfl mR kR (fun σ => passAt (takes_of rfl rfl rfl rfl) σ) (pa_cons (pv 0) pa_nil)))) pss_nil)
      (pss_cons (ps_if (pt_cmpR op_eq (pe_callB call_len_seq (by rfl) T.len PySem.boot_len (pa_cons (pv 1) pa_nil)) pe_int (nomark _)) (pss_one (ps_ret (pe_callR GR hr rfl mR kR (fun σ => passAt (takes_of rfl rfl rfl rfl) σ) (pa_cons (pv 0) (pa_cons (pe_ix ix_list (pv 1) pe_int (fun _ _ => rfl)) pa_nil))))) pss_nil)
      (pss_cons (ps_if (pt_cmpR op_eq (pe_callB call_len_seq (by rfl) T.len PySem.boot_len (pa_cons (pv 1) pa_nil)) pe_int (nomark _)) (pss_one (ps_ret (pe_callR GR hr rfl mR kR (fun σ => passAt (takes_of rfl rfl rfl rfl) σ) (pa_cons (pv 0) (pa_cons (pe_ix ix_list (pv 1) pe_int (fun _ _ => rfl)) (pa_cons (pe_ix ix_list (pv 1) pe_int (fun _ _ => rfl)) pa_nil)))))) pss_nil)
      (pss_cons (ps_if (pt_cmpR op_eq (pe_callB call_len_seq (by rfl) T.len PySem.boot_len (pa_cons (pv 1) pa_nil)) pe_int (nomark _)) (pss_one (ps_ret (pe_callR GR hr rfl mR kR (fun σ => passAt (takes_of rfl rfl rfl rfl) σ) (pa_cons (pv 0) (pa_cons (pe_ix ix_list (pv 1) pe_int (fun _ _ => rfl)) (pa_cons (pe_ix ix_list (pv 1) pe_int (fun _ _ => rfl)) (pa_cons (pe_ix ix_list (pv 1) pe_int (fun _ _ => rfl)) pa_nil))))))) pss_nil)
      (pss_one (ps_ret (pe_callR GR hr rfl mR kR (fun σ => passAt (takes_of rfl rfl rfl rfl) σ) (pa_cons (pv 0) (pa_cons (pe_ix ix_list (pv 1) pe_int (fun _ _ => rfl)) (pa_cons (pe_ix ix_list (pv 1) pe_int (fun _ _ => rfl)) (pa_cons (pe_ix ix_list (pv 1) pe_int (fun _ _ => rfl)) (pa_cons (pe_ix ix_list (pv 1) pe_int (fun _ _ => rfl)) pa_nil))))))))))), ?_⟩
    refine ⟨_, rfl, ll20 (by show 0 ≤ 20; decide), fun t nt => ?_⟩
    have st := same_upd (o := .lst []) nt
    have hb1 := st.seq hb
    have fin : ∀ (Q' : VK) (E' : XK), Q' = Q → E' = E → spResolved K CR CI (x :: ys) (upd H t (.lst [])) Q' E' := fun Q' E' e1 e2 => by
      subst e1 e2
      exact ⟨x, d, ys, sd, rfl, hd.same st, hs.same st, Nat.le_trans hl (by decide), hi, fun e H' dd s' n k => zx e H' dd (st.trans s') (none_back st n) k,
        fun ds ed er => ⟨fun i e H' dd s' n k => (z ds ed er).1 i e H' dd (st.trans s') (none_back st n) k, fun e l zs H' s' n k1 k2 => (z ds ed er).2 e l zs H' (st.trans s') (none_back st n) k1 k2⟩⟩
    have hlen := hs.length
    refine ⟨b, t, ys, rfl, rfl, hb1, SqL.of upd_same, _, rfl, ?_⟩
    rcases ys with _ | ⟨y0, _ | ⟨y1, _ | ⟨y2, _ | ⟨y3, _ | ⟨y4, r⟩⟩⟩⟩⟩
    · exact iteT ⟨_, rfl, fin _ _ rfl rfl⟩
    · refine iteF ⟨_, rfl, b, _, rfl, .inl hb1, rfl, _, rfl, ?_⟩
      refine ifVt rfl ?_
      exact ⟨_, rfl, _, rfl, b, _, _, _, rfl, rfl, hb1, atI_nat (j := 0) rfl, fin _ _ rfl rfl⟩
    · refine iteF ⟨_, rfl, b, _, rfl, .inl hb1, rfl, _, rfl, ?_⟩
      refine ifV (by simp) ⟨_, rfl, b, _, rfl, .inl hb1, rfl, _, rfl, ?_⟩
      refine ifVt rfl ?_
      exact ⟨_, rfl, _, rfl, b, _, _, _, rfl, rfl, hb1, atI_nat (j := 0) rfl, _, rfl, b, _, _, _, rfl, rfl, hb1, atI_nat (j := 1) rfl, fin _ _ rfl rfl⟩
    · refine iteF ⟨_, rfl, b, _, rfl, .inl hb1, rfl, _, rfl, ?_⟩
      refine ifV (by simp) ⟨_, rfl, b, _, rfl, .inl hb1, rfl, _, rfl, ?_⟩
      refine ifV (by simp) ⟨_, rfl, b, _, rfl, .inl hb1, rfl, _, rfl, ?_⟩
      refine ifVt rfl ?_
      exact ⟨_, rfl, _, rfl, b, _, _, _, rfl, rfl, hb1, atI_nat (j := 0) rfl, _, rfl, b, _, _, _, rfl, rfl, hb1, atI_nat (j := 1) rfl, _, rfl, b, _, _, _, rfl, rfl, hb1, atI_nat (j := 2) rfl, fin _ _ rfl rfl⟩
    · refine iteF ⟨_, rfl, b, _, rfl, .inl hb1, rfl, _, rfl, ?_⟩
      refine ifV (by simp) ⟨_, rfl, b, _, rfl, .inl hb1, rfl, _, rfl, ?_⟩
      refine ifV (by simp) ⟨_, rfl, b, _, rfl, .inl hb1, rfl, _, rfl, ?_⟩
      refine ifV (by simp) ?_
      exact ⟨_, rfl, _, rfl, b, _, _, _, rfl, rfl, hb1, atI_nat (j := 0) rfl, _, rfl, b, _, _, _, rfl, rfl, hb1, atI_nat (j := 1) rfl, _, rfl, b, _, _, _, rfl, rfl, hb1, atI_nat (j := 2) rfl, _, rfl, b, _, _, _, rfl, rfl, hb1, atI_nat (j := 3) rfl, fin _ _ rfl rfl⟩
    · exfalso
      rw [← hlen] at hl
      simp only [List.length_cons] at hl
      omega
theorem scAsked : FnScope ["_law_value", "_law_sides", "e"] ["_law_value", "_law_sides"] (defScope sAsked) := ⟨rfl, rfl, rfl, by decide +kernel, rfl, by decide +kernel, by decide +kernel⟩
theorem ok_asked {f fC CR CI CB : Addr} {fd fdC : FuncData} (F : Fun K "_law_asked" "_law_asked" sAsked f fd) (T : Blt mg) (Ap : Apart5 K CR CI CB)
    (FC : Fun K "_law_call" "_law_call" sCall fC fdC) (GC : FnOk P w K mg base (L2.CX P w) 8 fC fdC ["_law_value", "_law_sides"] (spCallS K CR CI)) (bC : Binds K fdC ["_law_value", "_law_sides"] []) (mC : mg "_law_call" = some (.ref fC))
    (XRw : XOk P K mg "InvalidRow" CR 1 (fvOne "value")) (XI : XOk P K mg "InvalidResolution" CI 1 (fvOne "index")) (mI : mg "InputError" = some (.ref CB)) (mV : mg "ValueError" = none) :
    FnG P w K mg base 9 f fd ["_law_value", "_law_sides"] (spAskS K) := by
  refine okG F scAsked (fun vs H Q E h => ?_) (fun cdv A outer s H vs Q E hr hg h => ?_)
  · obtain ⟨x, b, d, ys, sd, rfl, _⟩ := h
    rfl
  · obtain ⟨x, b, d, ys, sd, rfl, hd, hsh, hb, hs, hl, hi, zx, z⟩ := h
    refine ⟨_, pss_one (ps_try_asMany (i := 2) (n := "e") rfl rfl scAsked.nd rfl rfl takes0
          (fun W pn xe tk _ => pss_one (ps_ret (pe_lst (pa_cons pe_str (pa_cons (pe_callS GC hr rfl mC FC.kp bC (fun σ => passAt tk σ) (pa_cons (pv 0) (pa_cons (pv 1) pa_nil))) pa_nil)))))
          (.cons (c := .ref CI) ⟨rfl, by decide, .inl XI.g⟩ (fun a oe cls d pn hz hf => pss_one (ps_ret (pe_lst (pa_cons pe_str (pa_cons (pe_byX hz hf (pv 2) (by rfl))
              (pa_cons (pe_and (pe_callB (call_isH hz hf) (by rfl) T.isin (by decide +kernel) (pa_cons (pv 2) (pa_cons (pe_glob (v := .ref CB) (by rfl) mI rfl) pa_nil))) (pe_one (pe_callB (call_isH hz hf) (by rfl) T.isin (by decide +kernel) (pa_cons (pv 2) (pa_cons (pe_bltn (v := .ty "ValueError") (u := .type "ValueError") (by rfl) mV (by decide +kernel) rfl) pa_nil))))) pa_nil))))))
          (.cons (c := .ref CR) ⟨rfl, by decide, .inl XRw.g⟩ (fun a oe cls d pn hz hf => pss_one (ps_ret (pe_lst (pa_cons pe_str (pa_cons (pe_callB (id := "repr") (r := rRepr K) (call_reprQ hg hr.units) (by rfl) T.repr (by decide +kernel) (pa_cons (pe_byX hz hf (pv 2) (by rfl)) pa_nil)) pa_nil))))) .nil))), ?_⟩
    refine ⟨_, rfl, _, rfl, ?_⟩
    refine ⟨x, b, d, ys, sd, rfl, hd, hb, hs, hl, hi, ?_, ?_⟩
    · intro er H1 dd s1 nd hdd
      refine ⟨false, Ap.ri, fun q => Bool.noConfusion q, fun _ => ⟨true, Ap.rr, fun _ a ha => ?_, fun q => Bool.noConfusion q⟩⟩
      refine ⟨_, rfl, rfl, CR, dd, _, x, rfl, rfl, XRw.rd, XRw.nf [.non] ("value", .non) (List.mem_cons_self ..), hdd, rfl, x, d, rfl, hd.same s1, hsh.ok, hsh.lineX (by decide), hsh.low (by decide), ll20 (by show 2 ≤ 20; decide), fun t nt => ?_⟩
      exact zx er t _ (s1.trans (same_upd nt)) (.lst (SqL.of upd_same) (.cons (.str _) (.cons (.str _) .nil)))
    · intro ds ed er
      refine ⟨fun i eb H1 dd s1 nd hdd => ?_, fun eb l zs H1 s1 nl hl' hz' => ⟨ll20 (by show 2 ≤ 20; decide), fun t nt => ?_⟩⟩
      · refine ⟨true, Ap.ii, fun _ a ha => ?_, fun q => Bool.noConfusion q⟩
        refine ⟨_, rfl, rfl, CI, dd, _, _, rfl, rfl, XI.rd, XI.nf [.non] ("index", .non) (List.mem_cons_self ..), hdd, rfl, ?_⟩
        refine ⟨_, rfl, CI, dd, _, .ref CB, .ref CB, true, rfl, rfl, rfl, XI.rd, hdd, (fun u r => by cases r; rfl), Ap.ib, true, rfl, iteT ?_⟩
        refine ⟨_, rfl, CI, dd, _, .ty "ValueError", .type "ValueError", true, rfl, rfl, rfl, XI.rd, hdd, (fun u r => by cases r; rfl), Ap.iv, ll20 (by show 3 ≤ 20; decide), fun t nt => ?_⟩
        refine z ds ed er t "none" _ _ (s1.trans (same_upd nt)) upd_same (fun q => absurd q (by decide +kernel)) ?_
        rw [due_bad eb]
        exact .lst (SqL.of upd_same) (.cons (.str _) (.cons (.int _) (.cons (.bl _) .nil)))
      · have st := same_upd (o := .lst [V.str "told", V.ref l]) nt
        refine z ds ed er t "told" _ _ (s1.trans st) upd_same (fun _ => ⟨l, zs, rfl, st _ _ hl', nl, hz'.length⟩) ?_
        rw [due_ok eb]
        exact .lst (SqL.of upd_same) (.cons (.str _) (.cons (.lst (SqL.of (st _ _ hl')) (hz'.same st)) .nil))
end
end K65
/-! Bounds of what k65 tells; data without dicts as they are compared. -/
namespace XR
open PySem L2
def shxB (n k : Nat) (d : PyData) : Bool := d.showable && (decide (d.shown.length ≤ n) && (decide (d.depth ≤ k) && decide (Asc d.shown)))
theorem shx_of {n k : Nat} {d : PyData} (h : shxB n k d = true) : Shx n k d := by
  unfold shxB at h
  simp only [Bool.and_eq_true, decide_eq_true_eq] at h
  exact ⟨⟨h.1, h.2.1, h.2.2.1⟩, h.2.2.2⟩
theorem wsL_shx : ∀ s ∈ wsL, shxB 8 1 (.str s) = true := by decide +kernel
theorem wsT_shx : ∀ s ∈ wsT, shxB 8 1 (.str s) = true := by decide +kernel
theorem wsL_line : ∀ s ∈ wsL, isLine (.str s) = true := by decide +kernel
theorem wsT_line : ∀ s ∈ wsT, isLine (.str s) = true := by decide +kernel
theorem few_lines {ss : List Str} (f : Few ss) : linesB (lnD ss) = true := by
  unfold lnD
  rw [linesB_tup, List.length_map, decide_eq_true (show ss.length ≤ 60 by have := f.1; omega), List.all_map]
  exact List.all_eq_true.mpr fun s hs => wsL_line s (f.2 s hs)
theorem good_is {d : PyData} (h : GoodTok d) : tokB d = true := by
  unfold tokB
  rcases h with ⟨s, hs, rfl⟩ | ⟨lo, hi, ss, ts, rfl, h1, h2, h3, f1, f2⟩
  · rw [wsT_line s hs]; rfl
  · show (clashB (.tuple [.str "clash", .int lo, .int hi, lnD ss, lnD ts])) = true
    show (isClashWord (.str "clash") && ((decide (0 ≤ lo) && (decide (lo ≤ hi) && decide (hi ≤ 60))) && (linesB (lnD ss) && linesB (lnD ts)))) = true
    rw [few_lines f1, few_lines f2, decide_eq_true h1, decide_eq_true h2, decide_eq_true h3]
    decide
theorem nums_shx2 : ∀ i : Fin 200, shxB 8 1 (.int ((i : Nat) : Int)) = true := by decide +kernel
theorem nat_shx {i : Nat} (h : i < 200) : Shx 8 1 (.int (i : Int)) := shx_of (nums_shx2 ⟨i, h⟩)
mutual
theorem Dq.dp {K : PySem.W.Frag} {H : Hp} : ∀ {v : V} {d : PyData}, Dq K H v d → d.canLay0 = true → Dp K H v d
  | _, _, .non, _ => .non
  | _, _, .bl b, _ => .bl b
  | _, _, .int i, _ => .int i
  | _, _, .str x, _ => .str x
  | _, _, .lst h1 h2, h => .lst h1 (DqAll.dp h2 (by simpa only [PyData.canLay0] using h))
  | _, _, .tup h1 h2, h => .tup h1 (DqAll.dp h2 (by simpa only [PyData.canLay0] using h))
  | _, _, .dct h1 h2 h3, h => by simp [PyData.canLay0] at h
theorem DqAll.dp {K : PySem.W.Frag} {H : Hp} : ∀ {vs : List V} {ds : List PyData}, DqAll K H vs ds → PyData.canLayAll0 ds = true → DpAll K H vs ds
  | _, _, .nil, _ => .nil
  | _, _, .cons a b, h => .cons (Dq.dp a (by simp only [PyData.canLayAll0, Bool.and_eq_true] at h; exact h.1)) (DqAll.dp b (by simp only [PyData.canLayAll0, Bool.and_eq_true] at h; exact h.2))
end
theorem layAll_of : ∀ {ds : List PyData}, (∀ d ∈ ds, d.canLay0 = true) → PyData.canLayAll0 ds = true
  | [], _ => by simp [PyData.canLayAll0]
  | d :: ds, h => by
    simp only [PyData.canLayAll0, Bool.and_eq_true]
    exact ⟨h d (List.mem_cons_self ..), layAll_of fun e he => h e (List.mem_cons_of_mem _ he)⟩
theorem lay_tup {ds : List PyData} (h : ∀ d ∈ ds, d.canLay0 = true) : (PyData.tuple ds).canLay0 = true := by
  simp only [PyData.canLay0]
  exact layAll_of h
theorem wsL_lay : ∀ s ∈ wsL, (PyData.str s).canLay0 = true := by decide +kernel
theorem wsT_lay : ∀ s ∈ wsT, (PyData.str s).canLay0 = true := by decide +kernel
theorem lay_ln {ss : List Str} (h : Few ss) : (lnD ss).canLay0 = true := lay_tup fun d hd => by
  obtain ⟨s, hs, rfl⟩ := List.mem_map.mp hd
  exact wsL_lay s (h.2 s hs)
theorem lay_good {d : PyData} (h : GoodTok d) : d.canLay0 = true := by
  rcases h with ⟨s, hs, rfl⟩ | ⟨lo, hi, ss, ts, rfl, h1, h2, h3, f1, f2⟩
  · exact wsT_lay s hs
  · refine lay_tup fun e he => ?_
    simp only [List.mem_cons, List.not_mem_nil, or_false] at he
    rcases he with rfl | rfl | rfl | rfl | rfl
    · decide +kernel
    · simp [PyData.canLay0]
    · simp [PyData.canLay0]
    · exact lay_ln f1
    · exact lay_ln f2
theorem lay_list {ds : List PyData} (h : ∀ d ∈ ds, d.canLay0 = true) : (PyData.list ds).canLay0 = true := by
  simp only [PyData.canLay0]
  exact layAll_of h
structure SideOk (d : PyData) : Prop where
  n : (itemsOf d).length ≤ 100
  sh : Shx 500 6 d
  it : ∀ e ∈ itemsOf d, Shx 12 2 e
theorem side_all : (sideL.all fun d => decide ((itemsOf d).length ≤ 100) && (shxB 500 6 d && (itemsOf d).all (shxB 12 2))) = true := by decide +kernel
theorem side_ok {d : PyData} (h : d ∈ sideL) : SideOk d := by
  have q := List.all_eq_true.mp side_all d h
  simp only [Bool.and_eq_true, decide_eq_true_eq] at q
  exact ⟨q.1, shx_of q.2.1, fun e he => shx_of (List.all_eq_true.mp q.2.2 e he)⟩
theorem SideOk.i {d : PyData} (h : SideOk d) : (itemsOf d).length ≤ 1000 := Nat.le_trans h.n (by decide)
theorem ln_shx {ss : List Str} (f : Few ss) : Shx 50 2 (lnD ss) :=
  (Shx.tuple (n := 8) (k := 1) (m := 4) (fun e he => by
    obtain ⟨s, hs, rfl⟩ := List.mem_map.mp he
    exact shx_of (wsL_shx s (f.2 s hs))) (by rw [List.length_map]; have := f.1; omega)).le (by decide) (by decide)
theorem int_shx {i : Int} (h : 0 ≤ i) (k : i < 200) : Shx 8 1 (.int i) := by
  have := nat_shx (i := i.toNat) (by omega)
  rwa [Int.toNat_of_nonneg h] at this
theorem good_shx {d : PyData} (h : GoodTok d) : Shx 300 3 d := by
  rcases h with ⟨s, hs, rfl⟩ | ⟨lo, hi, ss, ts, rfl, h1, h2, h3, f1, f2⟩
  · exact (shx_of (wsT_shx s hs)).le (by decide) (by decide)
  · refine (Shx.tuple (n := 50) (k := 2) (m := 5) (fun e he => ?_) (by show 5 ≤ 5; decide)).le (by decide) (by decide)
    simp only [List.mem_cons, List.not_mem_nil, or_false] at he
    rcases he with rfl | rfl | rfl | rfl | rfl
    · exact shx_of (by decide +kernel)
    · exact (int_shx h1 (by omega)).le (by decide) (by decide)
    · exact (int_shx (by omega) (by omega)).le (by decide) (by decide)
    · exact ln_shx f1
    · exact ln_shx f2
theorem good_line {d : PyData} (h : GoodTok d) (e : tupB d = false) : ∃ s ∈ wsT, d = .str s := by
  rcases h with h | ⟨lo, hi, ss, ts, rfl, _⟩
  · exact h
  · cases e
theorem good_two {d0 d1 d2 : PyData} {o t : List PyData} (h : GoodTok (.tuple [d0, d1, d2, .tuple o, .tuple t])) : ∀ e ∈ o ++ t, ∃ s ∈ wsL, e = .str s := by
  rcases h with ⟨s, hs, e⟩ | ⟨lo, hi, ss, ts, e, h1, h2, h3, f1, f2⟩
  · cases e
  · cases e
    intro e he
    rcases List.mem_append.mp he with he | he
    · obtain ⟨s, hs, rfl⟩ := List.mem_map.mp he
      exact ⟨s, f1.2 s hs, rfl⟩
    · obtain ⟨s, hs, rfl⟩ := List.mem_map.mp he
      exact ⟨s, f2.2 s hs, rfl⟩
theorem los_mem {o t : List PyData} {d e : PyData} (h : e ∈ losD o t d) : e ∈ o ++ t ∨ e ∈ itemsOf d := by
  unfold losD at h
  split at h
  · split at h
    · cases h
    · split at h
      · exact .inl (List.mem_append_left _ h)
      · split at h
        · exact .inl (List.mem_append_right _ h)
        · exact .inl h
  · exact .inr h
theorem res_all {Pr : PyData → Prop} : ∀ (ds sd : List PyData), (∀ d ∈ ds, GoodTok d) → (∀ s ∈ wsT, Pr (.str s)) → (∀ s ∈ wsL, Pr (.str s)) → (∀ s ∈ sd, ∀ e ∈ itemsOf s, Pr e) → ∀ e ∈ resD ds sd, Pr e
  | [], sd, _, _, _, _, e, h => by unfold resD at h; cases h
  | d :: r, sd, hd, hT, hL, hs, e, h => by
    have hr : ∀ f ∈ r, GoodTok f := fun f hf => hd f (List.mem_cons_of_mem _ hf)
    have g := hd d (List.mem_cons_self ..)
    cases q : tupB d with
    | false =>
      rw [res_line q] at h
      rcases List.mem_cons.mp h with h | h
      · obtain ⟨s, hs1, rfl⟩ := good_line g q
        rw [h]; exact hT s hs1
      · exact res_all r sd hr hT hL hs e h
    | true =>
      rcases g with ⟨s, _, rfl⟩ | ⟨lo, hi, ss, ts, rfl, h1, h2, h3, f1, f2⟩
      · cases q
      · cases sd with
        | nil => exact res_all r [] hr hT hL hs e h
        | cons s sd =>
          unfold lnD at h
          rw [res_clash] at h
          rcases List.mem_append.mp h with h | h
          · rcases los_mem h with h | h
            · obtain ⟨s', hs', rfl⟩ := good_two (hd _ (List.mem_cons_self ..)) e h
              exact hL s' hs'
            · exact hs s (List.mem_cons_self ..) e h
          · exact res_all r sd hr hT hL (fun s hs2 => hs s (List.mem_cons_of_mem _ hs2)) e h
theorem res_len : ∀ (ds sd : List PyData), (∀ d ∈ ds, GoodTok d) → (∀ s ∈ sd, (itemsOf s).length ≤ 1000) → (resD ds sd).length ≤ 1000 * ds.length
  | [], sd, _, _ => by unfold resD; exact Nat.zero_le _
  | d :: r, sd, hd, hs => by
    have hr : ∀ f ∈ r, GoodTok f := fun f hf => hd f (List.mem_cons_of_mem _ hf)
    have g := hd d (List.mem_cons_self ..)
    cases q : tupB d with
    | false =>
      rw [res_line q, List.length_cons, List.length_cons]
      have := res_len r sd hr hs
      omega
    | true =>
      rcases g with ⟨s, _, rfl⟩ | ⟨lo, hi, ss, ts, rfl, h1, h2, h3, f1, f2⟩
      · cases q
      · cases sd with
        | nil =>
          have := res_len r [] hr hs
          rw [List.length_cons]
          exact Nat.le_trans this (by omega)
        | cons s sd =>
          unfold lnD
          rw [res_clash, List.length_append, List.length_cons]
          have a := res_len r sd hr (fun s hs2 => hs s (List.mem_cons_of_mem _ hs2))
          have b := los_len (o := ss.map .str) (t := ts.map .str) (d := s) (by rw [List.length_map]; have := f1.1; omega) (by rw [List.length_map]; have := f2.1; omega) (hs s (List.mem_cons_self ..))
          omega
theorem bad_le {ps : List Nat} {sd : List PyData} {i : Nat} (h : badAt ps sd = some i) : i ≤ sd.length := by
  unfold badAt at h
  split at h
  · rename_i j hj
    cases h
    have := List.mem_of_find?_eq_some hj
    rw [List.mem_range] at this
    omega
  · split at h
    · cases h; omega
    · cases h
theorem words5 : Shw 12 1 (.str "none") ∧ Shw 12 1 (.str "told") ∧ Shw 12 1 (.bool true) ∧ Shw 12 1 (.str "no row") :=
  ⟨⟨by decide +kernel, by decide +kernel, by decide +kernel⟩, ⟨by decide +kernel, by decide +kernel, by decide +kernel⟩, ⟨by decide +kernel, by decide +kernel, by decide +kernel⟩, ⟨by decide +kernel, by decide +kernel, by decide +kernel⟩⟩
theorem due_shw {ds sd : List PyData} (hd : ∀ d ∈ ds, GoodTok d) (hl : ds.length ≤ 8) (hs : ∀ s ∈ sd, SideOk s) (hm : sd.length ≤ 20) : Shw 200000 12 (dueD ds sd) := by
  obtain ⟨w1, w2, w3, _⟩ := words5
  cases e : badAt (places ds) sd with
  | some i =>
    rw [due_bad e]
    exact (shw_three w1 ((nat_shx (i := i) (by have := bad_le e; omega)).sh.le (Nat.le_refl _) (by decide)) w3).le (by decide) (by decide)
  | none =>
    rw [due_ok e]
    have a := res_all (Pr := Shx 12 2) ds sd hd (fun s h => (shx_of (wsT_shx s h)).le (by decide) (by decide)) (fun s h => (shx_of (wsL_shx s h)).le (by decide) (by decide)) (fun s h => (hs s h).it)
    have b := res_len ds sd hd (fun s h => (hs s h).i)
    exact (shw_two (k := 3) (w2.le (Nat.le_refl _) (by decide)) (Shx.list (m := 8000) a (by omega)).sh).le (by decide) (by decide)
theorem sides_shw {sd : List PyData} (hs : ∀ s ∈ sd, SideOk s) (hm : sd.length ≤ 4) : Shw 200000 12 (.list sd) := (Shw.list (fun d h => (hs d h).sh.sh) hm).le (by decide) (by decide)
theorem tup_shx {ds : List PyData} (hd : ∀ d ∈ ds, GoodTok d) (hl : ds.length ≤ 8) : Shx 20000 6 (.tuple ds) := (Shx.tuple (fun d h => good_shx (hd d h)) hl).le (by decide) (by decide)
def oddV (ds : List PyData) : List PyData := [.none, .list ds, .tuple (ds ++ [.int 1]), .str "ab", .tuple (ds ++ [.tuple [.str "clash", .int 1, .int 0, .tuple [], .tuple []]])]
theorem row_end {ds : List PyData} {e : PyData} (h : tokB e = false) : rowB (.tuple (ds ++ [e])) = false := by
  rw [rowB_tup, List.all_append, List.all_cons, h]
  simp
theorem odd_ok {ds : List PyData} (hd : ∀ d ∈ ds, GoodTok d) (hl : ds.length ≤ 8) {d : PyData} (h : d ∈ oddV ds) : rowB d = false ∧ Shx 20000 6 d := by
  unfold oddV at h
  simp only [List.mem_cons, List.not_mem_nil, or_false] at h
  rcases h with rfl | rfl | rfl | rfl | rfl
  · exact ⟨rfl, shx_of (by decide +kernel)⟩
  · exact ⟨rfl, (Shx.list (fun d h => good_shx (hd d h)) hl).le (by decide) (by decide)⟩
  · refine ⟨row_end rfl, (Shx.tuple (n := 300) (k := 4) (m := 9) (fun d h => ?_) (by rw [List.length_append]; show ds.length + 1 ≤ 9; omega)).le (by decide) (by decide)⟩
    rcases List.mem_append.mp h with h | h
    · exact (good_shx (hd d h)).le (by decide) (by decide)
    · rw [List.mem_singleton.mp h]; exact shx_of (by decide +kernel)
  · exact ⟨rfl, shx_of (by decide +kernel)⟩
  · refine ⟨row_end (by decide +kernel), (Shx.tuple (n := 300) (k := 4) (m := 9) (fun d h => ?_) (by rw [List.length_append]; show ds.length + 1 ≤ 9; omega)).le (by decide) (by decide)⟩
    rcases List.mem_append.mp h with h | h
    · exact (good_shx (hd d h)).le (by decide) (by decide)
    · rw [List.mem_singleton.mp h]; exact shx_of (by decide +kernel)
end XR
namespace XR
open PySem L2
def spRight : Sp := fun vs H Q _ => ∃ p, vs = [.ref p] ∧ PotAt H p ∧ ∀ H', But p H H' → Q (.bl true) H'
def spManyR : Sp := spRight
/-- try with its clauses -/
def tTryA (K : PySem.W.Frag) (Wout : WX) (i : Nat) (l : Clauses) (tb : WX → TS) : TS := fun D σ H => tb (wishA K i Wout D l) D σ H
def fourW : List Str := ["one", "two", "both", "none"]
theorem fourW_side : ∀ s ∈ fourW, sideB (.str s) = true := by decide +kernel
theorem six_of {K : PySem.W.Frag} {H : Hp} {xs : List V} {ds : List PyData} (h : DqAll K H xs ds) (e : ds.length = 6) :
    ∃ d0 d1 d2 d3 d4 d5 x0 x1 x2 x3 x4 x5, ds = [d0, d1, d2, d3, d4, d5] ∧ xs = [x0, x1, x2, x3, x4, x5] ∧ Dq K H x0 d0 ∧ Dq K H x1 d1 ∧ Dq K H x2 d2 ∧ Dq K H x3 d3 ∧ Dq K H x4 d4 ∧ Dq K H x5 d5 := by
  rcases ds with _ | ⟨d0, _ | ⟨d1, _ | ⟨d2, _ | ⟨d3, _ | ⟨d4, _ | ⟨d5, _ | ⟨d6, ds⟩⟩⟩⟩⟩⟩⟩
  all_goals first
    | (simp at e; done)
    | skip
  cases h with
  | cons a0 h => cases h with
    | cons a1 h => cases h with
      | cons a2 h => cases h with
        | cons a3 h => cases h with
          | cons a4 h => cases h with
            | cons a5 h => cases h; exact ⟨_, _, _, _, _, _, _, _, _, _, _, _, rfl, rfl, a0, a1, a2, a3, a4, a5⟩
theorem six_places {c0 c1 c2 c3 c4 c5 : PyData} (h0 : tupB c0 = true) (h1 : tupB c1 = true) (h2 : tupB c2 = true) (h3 : tupB c3 = true) (h4 : tupB c4 = true) (h5 : tupB c5 = true) : (places [c0, .str "a", c1, c2, .str "b", c3, c4, c5]).length = 6 := by
  unfold places placesTo
  rw [show (List.range ([c0, .str "a", c1, c2, .str "b", c3, c4, c5] : List PyData).length) = [0, 1, 2, 3, 4, 5, 6, 7] from rfl]
  have a : tupB (.str "a") = false := rfl
  have b : tupB (.str "b") = false := rfl
  simp [List.filter_cons, h0, h1, h2, h3, h4, h5, a, b]
theorem good_words {ps : List Nat} {ss : List Str} {n : Nat} (h : ∀ s ∈ ss, s ∈ fourW) (l : n ≤ ss.length) (m : n ≤ ps.length) {r : List PyData} : goodS ps (ss.map .str ++ r) n := fun j hj => by
  refine ⟨by omega, ?_⟩
  have hj' : j < ss.length := by omega
  have e : (ss.map PyData.str ++ r)[j]? = some (.str ss[j]) := by
    rw [List.getElem?_append_left (by rw [List.length_map]; exact hj'), List.getElem?_map, List.getElem?_eq_getElem hj']; rfl
  rw [getD_at e]
  exact fourW_side _ (h _ (List.getElem_mem hj'))
end XR
namespace K65
open PySem L2 XR
abbrev sManyR : Stmt := top 34
section
variable {P : Program} {w : World} {K : PySem.W.Frag} {mg : Str → Option Value} {base : Heap}
theorem scManyR : FnScope ["_law_pot_here", "_law_six", "_law_turn", "_law_tokens_here", "_law_words", "_law_one", "_law_two", "_law_three", "_law_four", "_law_five", "_law_six_here", "_law_due_here", "_law_told", "_law_last", "e"] ["_law_pot_here"] (defScope sManyR) := ⟨rfl, rfl, rfl, by decide +kernel, rfl, by decide +kernel, by decide +kernel⟩
theorem ok_manyR {f fD fP fF fU fR CR CI CB : Addr} {fd fdD fdP fdF fdU : FuncData} (F : Fun K "_law_many_right" "_law_many_right" sManyR f fd) (T : Blt mg) (D : Draws P w K mg base fD fP fdD fdP) (Ap : Apart5 K CR CI CB)
    (FF : Fun K "_law_fresh_clash" "_law_fresh_clash" sFresh fF fdF) (GF : FnOk P w K mg base CX0 4 fF fdF ["_law_pot_here"] (spFresh K)) (bF : Binds K fdF ["_law_pot_here"] []) (mF : mg "_law_fresh_clash" = some (.ref fF))
    (FU : Fun K "_law_due" "_law_due" sDue fU fdU) (GU : FnOk P w K mg base CX0 2 fU fdU ["_law_tokens_here", "_law_sides"] (spDueS K)) (bU : Binds K fdU ["_law_tokens_here", "_law_sides"] []) (mU : mg "_law_due" = some (.ref fU))
    (GR : FnR P w K mg base (L2.CX P w) 7 fR (spResolved K CR CI)) (kR : PySem.W.keepIn K (.ref fR) = true) (mR : mg "resolved" = some (.ref fR)) (XI : XOk P K mg "InvalidResolution" CI 1 (fvOne "index")) :
    FnG P w K mg base 8 f fd ["_law_pot_here"] spManyR := by
  refine okG F scManyR (fun vs H Q E h => ?_) (fun cdv A outer s H vs Q E hr hg h => ?_)
  · obtain ⟨p, rfl, _⟩ := h
    rfl
  · obtain ⟨p, rfl, hp, z⟩ := h
    have hr4 := hr.mono (show 4 ≤ 7 by decide)
    have hr2 := hr.mono (show 2 ≤ 7 by decide)
    refine ⟨_, pss_cons (ps_setLc (i := 1) (own := [("_law_turn", 2)]) (g := gName 2) (tt := tYes) (te := tCall (spFresh K) [] E0 (tCons (tVar 0) tNil)) rfl scManyR.nd rfl rfl (sw_true rfl rfl rfl (by decide +kernel))
          (pi_range1 rfl T.range (pa_cons pe_int pa_nil))
          (blkOk_by (own := [("_law_turn", 2)]) (N := ["_law_pot_here", "_law_six", "_law_turn", "_law_tokens_here", "_law_words", "_law_one", "_law_two", "_law_three", "_law_four", "_law_five", "_law_six_here", "_law_due_here", "_law_told", "_law_last", "e"]) (sc := defScope sManyR) (by decide +kernel))
          (fun _ _ _ _ _ => pg_name (i := 2) scManyR.nd rfl (Or.inl rfl)) (fun _ _ _ _ _ => pts_nil)
          (fun _ _ _ _ _ => pe_call GF hr4 rfl mF FF.kp bF .nil pass0 (pa_cons (pv 0) pa_nil)))
      (pss_cons (ps_set (i := 3) scManyR.nd rfl (.inl rfl) (pe_tup (pa_cons (pe_ix ix_list (pv 1) pe_int (fun _ _ => rfl)) (pa_cons pe_str (pa_cons (pe_ix ix_list (pv 1) pe_int (fun _ _ => rfl)) (pa_cons (pe_ix ix_list (pv 1) pe_int (fun _ _ => rfl)) (pa_cons pe_str (pa_cons (pe_ix ix_list (pv 1) pe_int (fun _ _ => rfl)) (pa_cons (pe_ix ix_list (pv 1) pe_int (fun _ _ => rfl)) (pa_cons (pe_ix ix_list (pv 1) pe_int (fun _ _ => rfl)) pa_nil))))))))))
      (pss_cons (ps_setLc (i := 4) (own := [("_law_turn", 2)]) (g := gName 2) (tt := tYes) (te := tCall spPick [] E0 (tCons (tVar 0) (tCons (tLst (tCons (tC (.str "one")) (tCons (tC (.str "two")) (tCons (tC (.str "both")) (tCons (tC (.str "none")) tNil))))) tNil))) rfl scManyR.nd rfl rfl (sw_true rfl rfl rfl (by decide +kernel))
          (pi_range1 rfl T.range (pa_cons pe_int pa_nil))
          (blkOk_by (own := [("_law_turn", 2)]) (N := ["_law_pot_here", "_law_six", "_law_turn", "_law_tokens_here", "_law_words", "_law_one", "_law_two", "_law_three", "_law_four", "_law_five", "_law_six_here", "_law_due_here", "_law_told", "_law_last", "e"]) (sc := defScope sManyR) (by decide +kernel))
          (fun _ _ _ _ _ => pg_name (i := 2) scManyR.nd rfl (Or.inl rfl)) (fun _ _ _ _ _ => pts_nil)
          (fun _ _ _ _ _ => pe_call D.GP hr2 rfl D.mP D.FP.kp D.bP .nil pass0 (pa_cons (pv 0) (pa_cons (pe_lst (pa_cons pe_str (pa_cons pe_str (pa_cons pe_str (pa_cons pe_str pa_nil))))) pa_nil))))
      (pss_cons (ps_asg (pv 4) (pg_lst rfl (pgs_cons (pg_name (i := 5) scManyR.nd rfl (.inl rfl)) (pgs_cons (pg_name (i := 6) scManyR.nd rfl (.inl rfl)) (pgs_cons (pg_name (i := 7) scManyR.nd rfl (.inl rfl)) (pgs_cons (pg_name (i := 8) scManyR.nd rfl (.inl rfl)) (pgs_cons (pg_name (i := 9) scManyR.nd rfl (.inl rfl)) (pgs_cons (pg_name (i := 10) scManyR.nd rfl (.inl rfl)) pgs_nil))))))))
      (pss_cons (ps_set (i := 11) scManyR.nd rfl (.inl rfl) (pe_ix ix_list (pe_call GU hr2 rfl mU FU.kp bU .nil pass0 (pa_cons (pv 3) (pa_cons (pv 4) pa_nil))) pe_int (fun _ _ => rfl)))
      (pss_cons (ps_if (pt_cmpR (op_neD hr.units) (pe_callR GR hr rfl mR kR (fun σ => passF σ) (pa_cons (pv 3) (pa_cons (pv 5) (pa_cons (pv 6) (pa_cons (pv 7) (pa_cons (pv 8) (pa_cons (pv 9) (pa_cons (pv 10) pa_nil)))))))) (pv 11) (nomark _)) (pss_one (ps_ret pe_bl)) pss_nil)
      (pss_cons (ps_set (i := 12) scManyR.nd rfl (.inl rfl) (pe_lst pa_nil))
      (pss_cons (ps_for PassesOwn.never rfl (pi_range1 rfl T.range (pa_cons pe_int pa_nil)) (pg_name (i := 13) scManyR.nd rfl (.inl rfl))
        (pss_one (show PS _ _ (tTryA K _ 14 _ _) from ps_try_asMany (i := 14) (n := "e") rfl rfl scManyR.nd rfl rfl takes0
          (fun W pn xe tk _ => pss_one (ps_if (pt_cmpR op_eq (pv 13) pe_int (nomark _))
            (pss_one (ps_expr (pe_callR GR hr rfl mR kR (fun σ => passAt tk σ) (pa_cons (pv 3) (pa_cons (pv 5) (pa_cons (pv 6) (pa_cons (pv 7) (pa_cons (pv 8) (pa_cons (pv 9) pa_nil)))))))))
            (pss_one (ps_expr (pe_callR GR hr rfl mR kR (fun σ => passAt tk σ) (pa_cons (pv 3) (pa_cons (pv 5) (pa_cons (pv 6) (pa_cons (pv 7) (pa_cons (pv 8) (pa_cons (pv 9) (pa_cons (pv 10) (pa_cons pe_str pa_nil)))))))))))))
          (.cons (c := .ref CI) ⟨rfl, by decide, .inl XI.g⟩ (fun a oe cls d pn hz hf => pss_one (show PS _ _ (tDrop (tBM K "list" rAppend (tVar 12) (tCons (tByX K a cls d "index" (tVar 14)) tNil))) from ps_expr (pe_bm PySem.F.plainAttrs_list PySem.F.slot_list_append PySem.F.type_list_append mt_append (pv 12) (pa_cons (pe_byX hz hf (pv 14) (by rfl)) pa_nil)))) .nil))))
      (pss_one (ps_ret (pe_cmpR (op_eqD hr.units) (pv 12) (pe_lst (pa_cons pe_int (pa_cons pe_int pa_nil))) (nomark _))))))))))), ?_⟩
    refine ⟨6, rfl, by decide, by decide, fun C nC => ?_⟩
    have npC := hp.ne nC
    have hzC : PZ (C :: [p]) p (upd H C (.lst [])) := ((PZ.one hp).same (same_upd nC)).more upd_same
    refine lc_range (n := 6) (fun j H' => But p H H' ∧ PZ (C :: [p]) p H' ∧ ∃ ys es, H' C = some (.lst ys) ∧ DzAll K (C :: [p]) H' ys es ∧ (∀ e ∈ es, GoodTok e ∧ tupB e = true) ∧ es.length = j) ⟨(But.refl p H).new nC, hzC, [], [], upd_same, .nil, (fun e h => nomatch h), rfl⟩ ?_ ?_
    · rintro j Ha hj ⟨ba, hza, ys, es, hC, hy, hok, hl⟩
      refine ⟨rfl, ?_⟩
      unfold tYes
      dsimp only
      rw [if_pos rfl]
      refine ⟨_, rfl, p, C :: [p], rfl, hza, fun y e H3 hp3 b3 he oke te => ?_⟩
      have hC3 := b3 _ _ hC npC.symm
      have hz3 := hza.step hp3 b3
      have hyl := DqAll.length hy
      have hpu := hp3.upd (o := .lst (ys ++ [y])) npC
      refine ⟨ys, hC3, Nat.lt_of_le_of_lt (show ys.length ≤ 6 by omega) (by decide), fun b o hb hn => ?_, ⟨hpu, hz3.mem, fun u hu => ?_⟩, ys ++ [y], es ++ [e], upd_same, DzAll.upd (DqAll.snoc (hy.step hza b3) he) (List.mem_cons_self ..), fun f hf => ?_, ?_⟩
      · have hb2 := b3 _ _ (ba _ _ hb hn) hn
        rw [upd_ne (ne_of_none hb nC)]
        exact hb2
      · by_cases q : u = C
        · exact ⟨_, by rw [q]; exact upd_same⟩
        · obtain ⟨o, ho⟩ := hz3.live u hu
          exact ⟨o, by rw [upd_ne q]; exact ho⟩
      · rcases List.mem_append.mp hf with hf | hf
        · exact hok f hf
        · rw [List.mem_singleton.mp hf]; exact ⟨oke, te⟩
      · rw [List.length_append, hl]; rfl
    rintro H1 ⟨b1, hz1, ys, es, hC, hy, hok, hl⟩
    obtain ⟨c0, c1, c2, c3, c4, c5, x0, x1, x2, x3, x4, x5, rfl, rfl, a0, a1, a2, a3, a4, a5⟩ := six_of hy hl
    have g0 := hok c0 (by simp)
    have g1 := hok c1 (by simp)
    have g2 := hok c2 (by simp)
    have g3 := hok c3 (by simp)
    have g4 := hok c4 (by simp)
    have g5 := hok c5 (by simp)
    have hCq := SqL.of (K := K) hC
    refine ⟨_, rfl, C, _, _, _, rfl, rfl, hCq, atI_nat (j := 0) rfl, _, rfl, C, _, _, _, rfl, rfl, hCq, atI_nat (j := 1) rfl, _, rfl, C, _, _, _, rfl, rfl, hCq, atI_nat (j := 2) rfl, _, rfl, C, _, _, _, rfl, rfl, hCq, atI_nat (j := 3) rfl, _, rfl, C, _, _, _, rfl, rfl, hCq, atI_nat (j := 4) rfl, _, rfl, C, _, _, _, rfl, rfl, hCq, atI_nat (j := 5) rfl, ll20 (by show 8 ≤ 20; decide), fun t nt => ?_⟩
    have st := same_upd (o := .tup [x0, V.str "a", x1, x2, V.str "b", x3, x4, x5]) nt
    have ht : Dz K (C :: [p]) (upd H1 t (.tup [x0, V.str "a", x1, x2, V.str "b", x3, x4, x5])) (.ref t) (.tuple [c0, .str "a", c1, c2, .str "b", c3, c4, c5]) :=
      Dz.new_tup (.cons a0 (.cons (.str _) (.cons a1 (.cons a2 (.cons (.str _) (.cons a3 (.cons a4 (.cons a5 .nil)))))))) hz1 nt
    have hz2 := hz1.same st
    have b2 := b1.trans (Same.but st)
    generalize upd H1 t (.tup [x0, V.str "a", x1, x2, V.str "b", x3, x4, x5]) = H2 at ht hz2 b2 ⊢
    clear st hz1 b1 hC hy hCq a0 a1 a2 a3 a4 a5 nt
    have er : rowB (.tuple [c0, .str "a", c1, c2, .str "b", c3, c4, c5]) = true := by
      rw [rowB_tup, decide_eq_true (by show 8 ≤ 180; decide)]
      simp only [List.all_cons, good_is g0.1, good_is g1.1, good_is g2.1, good_is g3.1, good_is g4.1, good_is g5.1]
      decide +kernel
    have pl := six_places g0.2 g1.2 g2.2 g3.2 g4.2 g5.2
    have gall : ∀ d ∈ [c0, .str "a", c1, c2, .str "b", c3, c4, c5], GoodTok d := fun d hd => by
      simp only [List.mem_cons, List.not_mem_nil, or_false] at hd
      rcases hd with rfl | rfl | rfl | rfl | rfl | rfl | rfl | rfl
      · exact g0.1
      · exact .inl ⟨"a", by decide +kernel, rfl⟩
      · exact g1.1
      · exact g2.1
      · exact .inl ⟨"b", by decide +kernel, rfl⟩
      · exact g3.1
      · exact g4.1
      · exact g5.1
    generalize [c0, .str "a", c1, c2, .str "b", c3, c4, c5] = ds at *
    refine ⟨6, rfl, by decide, by decide, fun c nc => ?_⟩
    have hpc := hz2.pot.ne nc
    refine lc_range (n := 6) (fun j H' => PotAt H' p ∧ But p H2 H' ∧ ∃ ss : List Str, H' c = some (.lst (ss.map V.str)) ∧ (∀ s ∈ ss, s ∈ fourW) ∧ ss.length = j) ⟨hz2.pot.upd hpc, (But.refl p H2).new nc, [], upd_same, (fun s h => by cases h), rfl⟩ ?_ ?_
    · rintro j H' hj ⟨hp', b', ss, hc, hwd', hl⟩
      refine ⟨rfl, ?_⟩
      unfold tYes
      dsimp only
      rw [if_pos rfl]
      refine ⟨_, rfl, ll20 (by show 4 ≤ 20; decide), fun q nq => ?_⟩
      have sq := same_upd (o := .lst [V.str "one", V.str "two", V.str "both", V.str "none"]) nq
      refine ⟨p, q, fourW.map V.str, rfl, hp'.same sq, upd_same, hp'.ne nq, by decide, by decide, fun x H3 hx hp3 b3 => ?_⟩
      obtain ⟨s, hs, rfl⟩ := List.mem_map.mp hx
      have hc3 := b3 _ _ (sq _ _ hc) hpc.symm
      refine ⟨_, hc3, ?_, hp3.upd hpc, ?_, ss ++ [s], ?_, ?_, ?_⟩
      · rw [List.length_map, hl]
        exact Nat.lt_of_lt_of_le hj (Nat.le_trans (show 6 ≤ 6 by omega) (by decide))
      · intro b o hb hn
        have hb' := b3 _ _ (sq _ _ (b' _ _ hb hn)) hn
        by_cases e : b = c
        · subst e; rw [nc] at hb; cases hb
        · rw [upd_ne e]; exact hb'
      · rw [upd_same, List.map_append]; rfl
      · intro y hy
        rcases List.mem_append.mp hy with hy | hy
        · exact hwd' y hy
        · rw [List.mem_singleton.mp hy]; exact hs
      · rw [List.length_append, hl]; rfl
    rintro H3 ⟨hp3, b3, ss, hc, hwd, hl⟩
    have ht3 := (ht.step hz2 b3).dq
    have B3 := b2.trans b3
    rcases ss with _ | ⟨s0, _ | ⟨s1, _ | ⟨s2, _ | ⟨s3, _ | ⟨s4, _ | ⟨s5, _ | ⟨s6, r⟩⟩⟩⟩⟩⟩⟩
    all_goals first
      | (simp at hl; done)
      | skip
    have wd5 : ∀ s ∈ [s0, s1, s2, s3, s4], s ∈ fourW := fun s hs => hwd s (by simp only [List.mem_cons, List.not_mem_nil, or_false] at hs ⊢; rcases hs with h | h | h | h | h <;> simp [h])
    have q6 : badAt (places ds) [.str s0, .str s1, .str s2, .str s3, .str s4, .str s5] = none :=
      (bad_none (sd := [.str s0, .str s1, .str s2, .str s3, .str s4, .str s5]) (good_words (ps := places ds) (ss := [s0, s1, s2, s3, s4, s5]) (n := 6) (r := []) hwd (by show 6 ≤ 6; decide) (by omega))).trans (if_neg (by rw [pl]; show ¬ 6 < 6; decide))
    have q5 : badAt (places ds) [.str s0, .str s1, .str s2, .str s3, .str s4] = some 5 :=
      (bad_none (sd := [.str s0, .str s1, .str s2, .str s3, .str s4]) (good_words (ps := places ds) (ss := [s0, s1, s2, s3, s4]) (n := 5) (r := []) wd5 (by show 5 ≤ 5; decide) (by omega))).trans (if_pos (by rw [pl]; show 5 < 6; decide))
    have q7 : badAt (places ds) [.str s0, .str s1, .str s2, .str s3, .str s4, .str s5, .str "one"] = some 6 :=
      bad_some (i := 6) (d := .str "one") rfl (good_words (ps := places ds) (ss := [s0, s1, s2, s3, s4, s5]) (n := 6) (r := [.str "one"]) hwd (by show 6 ≤ 6; decide) (by omega)) (.inl (by omega))
    refine ⟨_, rfl, c, _, rfl, SqL.of hc, rfl, _, _, rfl, _, _, rfl, _, _, rfl, _, _, rfl, _, _, rfl, _, _, rfl, rfl, ?_⟩
    have ht3' := ht3
    cases ht3' with
    | @tup _ txs _ k1 k2 =>
      have hss : DqAll K H3 ([s0, s1, s2, s3, s4, s5].map V.str) [.str s0, .str s1, .str s2, .str s3, .str s4, .str s5] := .cons (.str _) (.cons (.str _) (.cons (.str _) (.cons (.str _) (.cons (.str _) (.cons (.str _) .nil)))))
      have it6 : ∀ s ∈ [PyData.str s0, .str s1, .str s2, .str s3, .str s4, .str s5], (itemsOf s).length ≤ 1000 := fun s hs => by
        simp only [List.mem_cons, List.not_mem_nil, or_false] at hs
        rcases hs with rfl | rfl | rfl | rfl | rfl | rfl <;> exact Nat.zero_le _
      refine ⟨_, rfl, _, rfl, t, c, txs, _, ds, _, rfl, k1, k2, er, SqL.of hc, hss, by show 6 ≤ 20; decide, it6, fun u H4 s4' qd => ?_⟩
      rw [due_ok q6] at qd
      have itm : ∀ s ∈ [PyData.str s0, .str s1, .str s2, .str s3, .str s4, .str s5], itemsOf s = [] := fun s hs => by
        simp only [List.mem_cons, List.not_mem_nil, or_false] at hs
        rcases hs with rfl | rfl | rfl | rfl | rfl | rfl <;> rfl
      have lay := res_all (Pr := fun e => e.canLay0 = true) ds [.str s0, .str s1, .str s2, .str s3, .str s4, .str s5] gall wsT_lay wsL_lay (fun s hs e he => by rw [itm s hs] at he; cases he)
      have sml := res_all (Pr := Shx 12 2) ds [.str s0, .str s1, .str s2, .str s3, .str s4, .str s5] gall (fun s h => (shx_of (wsT_shx s h)).le (by decide) (by decide)) (fun s h => (shx_of (wsL_shx s h)).le (by decide) (by decide)) (fun s hs e he => by rw [itm s hs] at he; cases he)
      generalize ers : resD ds [.str s0, .str s1, .str s2, .str s3, .str s4, .str s5] = rs at qd lay sml
      have rl := lay_list lay
      have shp : SeqAt.shaped (.list rs) = true := by
        unfold SeqAt.shaped
        rw [rl, Bool.true_and, decide_eq_true_eq]
        exact Nat.le_trans (Shw.list (m := rs.length) (fun d h => (sml d h).sh) (Nat.le_refl _)).dep (by decide)
      cases qd with
      | @lst _ uxs _ m1 m2 =>
        cases m2 with
        | @cons v1 vs1 d1 ds1 ma m2 => cases m2 with
          | @cons v2 vs2 d2 ds2 mb m2 =>
            cases m2
            refine ⟨u, _, _, _, rfl, rfl, m1, atI_nat (j := 1) rfl, ?_⟩
            refine ⟨_, rfl, _, rfl, _, rfl, _, rfl, _, rfl, _, rfl, _, rfl, .ref t, .tuple ds, _, _, rfl, ht3.same s4', hss.same s4', by show 6 ≤ 20; decide, it6, (fun q => by rw [er] at q; cases q), ?_⟩
            intro ds' ed _
            cases ed
            refine ⟨fun i eb => (by rw [q6] at eb; cases eb), fun _ l zs H5 s5' nl hlz hz' => ?_⟩
            refine ⟨_, rfl, .list rs, .list rs, .lst (SqL.of hlz) (DqAll.dp (by rw [← ers]; exact hz') (layAll_of lay)), (mb.same s5').dp rl, shp, shp, _, rfl, ?_⟩
            rw [SeqAt.eqv_refl _ rl]
            refine iteF ⟨ll20 (by show 0 ≤ 20; decide), fun L nL => ?_⟩
            have sL := same_upd (o := .lst []) nL
            have s35 := s4'.trans s5'
            refine ⟨2, rfl, by decide, by decide, ?_⟩
            refine for_range (n := 2) (fun k σ H' => Same H5 H' ∧ H' L = some (.lst ((List.range k).map fun j : Nat => V.int (5 + (j : Int)))) ∧ ∃ y13 y14, σ = [some (V.ref p), some (V.ref C), none, some (V.ref t), some (V.ref c), some (V.str s0), some (V.str s1), some (V.str s2), some (V.str s3), some (V.str s4), some (V.str s5), some v2, some (V.ref L), y13, y14]) ⟨sL, upd_same, none, none, rfl⟩ ?_ ?_
            · rintro k σ Ha hk ⟨sa, hL, y13, y14, rfl⟩
              refine ⟨_, rfl, rfl, _, rfl, ?_⟩
              have s3a := s35.trans sa
              rcases k with _ | k
              · refine ifVt (by omega) ?_
                refine ⟨_, rfl, _, rfl, _, rfl, _, rfl, _, rfl, _, rfl, .ref t, .tuple ds, _, [.str s0, .str s1, .str s2, .str s3, .str s4], rfl, ht3.same s3a, .cons (.str _) (.cons (.str _) (.cons (.str _) (.cons (.str _) (.cons (.str _) .nil)))), by show 5 ≤ 20; decide, (fun s hs => it6 s (by simp only [List.mem_cons, List.not_mem_nil, or_false] at hs ⊢; rcases hs with h | h | h | h | h <;> simp [h])), (fun q => by rw [er] at q; cases q), ?_⟩
                intro ds' ed _
                cases ed
                refine ⟨fun i eb H6 dd s6 nd hdd => ?_, fun eb => by rw [q5] at eb; cases eb⟩
                rw [q5] at eb
                cases eb
                have hL6 := s6 _ _ hL
                refine ⟨true, Ap.ii, fun _ a ha => ?_, fun q => Bool.noConfusion q⟩
                refine ⟨_, rfl, .inl ⟨rfl, _, SqL.of hL6⟩, _, rfl, rfl, CI, dd, _, _, rfl, rfl, XI.rd, XI.nf [.non] ("index", .non) (List.mem_cons_self ..), hdd, rfl, L, _, _, rfl, rfl, hL6, by decide, fun b o h => ?_, upd_same, _, _, rfl⟩
                rw [upd_ne (ne_of_none h nL)]
                exact s6 _ _ (sa _ _ h)
              · obtain rfl : k = 0 := by omega
                refine ifV (by decide) ?_
                refine ⟨_, rfl, _, rfl, _, rfl, _, rfl, _, rfl, _, rfl, _, rfl, .ref t, .tuple ds, _, [.str s0, .str s1, .str s2, .str s3, .str s4, .str s5, .str "one"], rfl, ht3.same s3a, .cons (.str _) (.cons (.str _) (.cons (.str _) (.cons (.str _) (.cons (.str _) (.cons (.str _) (.cons (.str _) .nil)))))), by show 7 ≤ 20; decide, (fun s hs => by
                  simp only [List.mem_cons, List.not_mem_nil, or_false] at hs
                  rcases hs with rfl | rfl | rfl | rfl | rfl | rfl | rfl <;> exact Nat.zero_le _), (fun q => by rw [er] at q; cases q), ?_⟩
                intro ds' ed _
                cases ed
                refine ⟨fun i eb H6 dd s6 nd hdd => ?_, fun eb => by rw [q7] at eb; cases eb⟩
                rw [q7] at eb
                cases eb
                have hL6 := s6 _ _ hL
                refine ⟨true, Ap.ii, fun _ a ha => ?_, fun q => Bool.noConfusion q⟩
                refine ⟨_, rfl, .inl ⟨rfl, _, SqL.of hL6⟩, _, rfl, rfl, CI, dd, _, _, rfl, rfl, XI.rd, XI.nf [.non] ("index", .non) (List.mem_cons_self ..), hdd, rfl, L, _, _, rfl, rfl, hL6, by decide, fun b o h => ?_, upd_same, _, _, rfl⟩
                rw [upd_ne (ne_of_none h nL)]
                exact s6 _ _ (sa _ _ h)
            · rintro σ Ha ⟨sa, hL, y13, y14, rfl⟩
              refine ⟨_, rfl, ll20 (by show 2 ≤ 20; decide), fun v nv => ?_⟩
              have sv := same_upd (o := .lst [V.int 5, V.int 6]) nv
              refine ⟨.list [.int 5, .int 6], .list [.int 5, .int 6], .lst (SqL.of (sv _ _ hL)) (.cons (.int _) (.cons (.int _) .nil)), .lst (SqL.of upd_same) (.cons (.int _) (.cons (.int _) .nil)), by decide +kernel, by decide +kernel, ?_⟩
              rw [SeqAt.eqv_refl _ (by decide +kernel)]
              exact z _ (B3.trans (Same.but ((s35.trans sa).trans sv)))
end
end K65
namespace XR
open PySem L2
theorem asc_lay {s : Str} (h : Asc s) : (PyData.str s).canLay0 = true := by
  simp only [PyData.canLay0]
  unfold PyData.strOk
  rw [← Array.all_toList]
  exact List.all_eq_true.mpr fun c hc => decide_eq_true (Nat.lt_trans (h c hc) (by decide))
theorem cat_dz {K : PySem.W.Frag} {Z : List Addr} {p : Addr} {H : Hp} {Q : VK} {x y : V} {ds es : List PyData} (hz : PZ Z p H) (h : Dz K Z H x (.tuple ds)) (k : Dz K Z H y (.tuple es)) (n : ds.length + es.length ≤ sizeLine) (z : ∀ t H', Same H H' → Dz K Z H' (.ref t) (.tuple (ds ++ es)) → Q (.ref t) H') : rCatA K x y H Q := by
  have h' := h
  have k' := k
  cases h with
  | @tup a xs ds h1 h2 =>
    cases k with
    | @tup b ys es k1 k2 =>
      have hl := h2.length
      have kl := k2.length
      refine ⟨a, b, xs, ys, rfl, rfl, XR.Same.tup cut_sub h1, XR.Same.tup cut_sub k1, by omega, fun e => ?_, fun _ e => ?_, fun _ _ t nt => ?_⟩
      · have e' : ds = [] := List.eq_nil_of_length_eq_zero (by rw [← hl, e]; rfl)
        refine z b H (fun _ _ e => e) ?_
        rw [e', List.nil_append]
        exact k'
      · have e' : es = [] := List.eq_nil_of_length_eq_zero (by rw [← kl, e]; rfl)
        refine z a H (fun _ _ e => e) ?_
        rw [e', List.append_nil]
        exact h'
      · exact z t _ (same_upd nt) (Dz.new_tup (DqAll.append h2 k2) hz nt)
def twoD (s : Str) : PyData := .list [.str "no row", .str s]
theorem two_lay {s : Str} (h : Asc s) : (twoD s).canLay0 = true := lay_list fun d hd => by
  simp only [List.mem_cons, List.not_mem_nil, or_false] at hd
  rcases hd with rfl | rfl
  · decide +kernel
  · exact asc_lay h
theorem two_shaped {s : Str} (h : Asc s) : SeqAt.shaped (twoD s) = true := by
  unfold SeqAt.shaped
  rw [two_lay h, Bool.true_and, decide_eq_true_eq]
  simp [twoD, PyData.depth, PyData.depthAll]
end XR
namespace K65
open PySem L2 XR
abbrev sRight : Stmt := top 35
section
variable {P : Program} {w : World} {K : PySem.W.Frag} {mg : Str → Option Value} {base : Heap}
theorem scRight : FnScope ["_law_pot_here", "_law_turn", "_law_tokens_here", "_law_many", "_law_token", "_law_wanted", "_law_sides", "_law_k", "_law_shown", "_law_due_here", "_law_told", "_law_odd"] ["_law_pot_here"] (defScope sRight) := ⟨rfl, rfl, rfl, by decide +kernel, rfl, by decide +kernel, by decide +kernel⟩
theorem ok_right {f fD fP fTk fS fU fA fM : Addr} {fd fdD fdP fdTk fdS fdU fdA fdM : FuncData} (F : Fun K "_law_right" "_law_right" sRight f fd) (T : Blt mg) (D : Draws P w K mg base fD fP fdD fdP)
    (FTk : Fun K "_law_tokens" "_law_tokens" sTokens fTk fdTk) (GTk : FnOk P w K mg base CX0 5 fTk fdTk ["_law_pot_here", "_law_most"] (spTokens K)) (bTk : Binds K fdTk ["_law_pot_here", "_law_most"] []) (mTk : mg "_law_tokens" = some (.ref fTk))
    (FS : Fun K "_law_side" "_law_side" sSideP fS fdS) (GS : FnOk P w K mg base CX0 3 fS fdS ["_law_pot_here"] (spSideP K)) (bS : Binds K fdS ["_law_pot_here"] []) (mS : mg "_law_side" = some (.ref fS))
    (FU : Fun K "_law_due" "_law_due" sDue fU fdU) (GU : FnOk P w K mg base CX0 2 fU fdU ["_law_tokens_here", "_law_sides"] (spDueS K)) (bU : Binds K fdU ["_law_tokens_here", "_law_sides"] []) (mU : mg "_law_due" = some (.ref fU))
    (FA : Fun K "_law_asked" "_law_asked" sAsked fA fdA) (GA : FnG P w K mg base 9 fA fdA ["_law_value", "_law_sides"] (spAskS K)) (bA : Binds K fdA ["_law_value", "_law_sides"] []) (mA : mg "_law_asked" = some (.ref fA))
    (FM : Fun K "_law_many_right" "_law_many_right" sManyR fM fdM) (GM : FnG P w K mg base 8 fM fdM ["_law_pot_here"] spManyR) (bM : Binds K fdM ["_law_pot_here"] []) (mM : mg "_law_many_right" = some (.ref fM)) :
    FnG P w K mg base 10 f fd ["_law_pot_here"] spRight := by
  refine okG F scRight (fun vs H Q E h => ?_) (fun cdv A outer s H vs Q E hr hg h => ?_)
  · obtain ⟨p, rfl, _⟩ := h
    rfl
  · obtain ⟨p, rfl, hp, z⟩ := h
    have hr1 := hr.mono (show 1 ≤ 9 by decide)
    have hr2 := hr.mono (show 2 ≤ 9 by decide)
    have hr3 := hr.mono (show 3 ≤ 9 by decide)
    have hr5 := hr.mono (show 5 ≤ 9 by decide)
    have hr8 := hr.mono (show 8 ≤ 9 by decide)
    refine ⟨_, pss_cons (ps_for PassesOwn.never rfl (pi_range1 rfl T.range (pa_cons pe_int pa_nil)) (pg_name (i := 1) scRight.nd rfl (.inl rfl))
        (pss_cons (ps_set (i := 2) scRight.nd rfl (.inl rfl) (pe_call GTk hr5 rfl mTk FTk.kp bTk .nil pass0 (pa_cons (pv 0) (pa_cons pe_int pa_nil))))
        (pss_cons (ps_set (i := 3) scRight.nd rfl (.inl rfl) (pe_callB call_len_seq (by rfl) T.len PySem.boot_len (pa_cons (pe_lc (own := [("_law_token", 4)]) (g := gName 4) (tt := tB (tCB (rIsi K) (tCons (tVar 4) (tCons (tC (.ty "tuple")) tNil)))) (te := tVar 4) rfl scRight.nd (pi_tup (pv 2))
            (blkOk_by (own := [("_law_token", 4)]) (N := ["_law_pot_here", "_law_turn", "_law_tokens_here", "_law_many", "_law_token", "_law_wanted", "_law_sides", "_law_k", "_law_shown", "_law_due_here", "_law_told", "_law_odd"]) (sc := defScope sRight) (by decide +kernel))
            (fun _ _ _ _ _ => pg_name (i := 4) scRight.nd rfl (Or.inl rfl)) (fun _ _ _ _ _ => pts_one (pt_val (pe_callB call_isi (by rfl) T.isin (by decide +kernel) (pa_cons (pv 4) (pa_cons (pe_bltn (v := .ty "tuple") (u := .type "tuple") (by rfl) T.tuple (by decide +kernel) rfl) pa_nil)))))
            (fun _ _ _ _ _ => pv 4)) pa_nil)))
        (pss_cons (ps_set (i := 5) scRight.nd rfl (.inl rfl) (pe_call D.GP hr2 rfl D.mP D.FP.kp D.bP .nil pass0 (pa_cons (pv 0) (pa_cons (pe_lst (pa_cons (pv 3) (pa_cons (pv 3) (pa_cons (pv 3) (pa_cons (pe_call D.GD hr1 rfl D.mD D.FD.kp D.bD .nil pass0 (pa_cons (pv 0) (pa_cons pe_int pa_nil))) pa_nil))))) pa_nil))))
        (pss_cons (ps_setLc (i := 6) (own := [("_law_k", 7)]) (g := gName 7) (tt := tYes) (te := tCall (spSideP K) [] E0 (tCons (tVar 0) tNil)) rfl scRight.nd rfl rfl (sw_true rfl rfl rfl (by decide +kernel))
            (pi_range1 rfl T.range (pa_cons (pv 5) pa_nil))
            (blkOk_by (own := [("_law_k", 7)]) (N := ["_law_pot_here", "_law_turn", "_law_tokens_here", "_law_many", "_law_token", "_law_wanted", "_law_sides", "_law_k", "_law_shown", "_law_due_here", "_law_told", "_law_odd"]) (sc := defScope sRight) (by decide +kernel))
            (fun _ _ _ _ _ => pg_name (i := 7) scRight.nd rfl (Or.inl rfl)) (fun _ _ _ _ _ => pts_nil)
            (fun _ _ _ _ _ => pe_call GS hr3 rfl mS FS.kp bS .nil pass0 (pa_cons (pv 0) pa_nil)))
        (pss_cons (ps_par (i := 8) (j := 9) rfl scRight.nd rfl rfl (by decide) rfl rfl (pa_cons (pe_callB (call_reprQ hg hr.units) (by rfl) T.repr (by decide +kernel) (pa_cons (pv 6) pa_nil)) (pa_cons (pe_call GU hr2 rfl mU FU.kp bU .nil pass0 (pa_cons (pv 2) (pa_cons (pv 6) pa_nil))) pa_nil)) rfl)
        (pss_cons (ps_set (i := 10) scRight.nd rfl (.inl rfl) (pe_callG GA hg hr rfl mA FA.kp bA (pa_cons (pv 2) (pa_cons (pv 6) pa_nil))))
        (pss_cons (ps_if (PW.pt (pw_or (pt_cmpR op_ne (pe_callB (call_reprQ hg hr.units) (by rfl) T.repr (by decide +kernel) (pa_cons (pv 10) pa_nil)) (pe_callB (call_reprQ hg hr.units) (by rfl) T.repr (by decide +kernel) (pa_cons (pv 9) pa_nil)) (nomark _))
            (pw_or1 (pt_cmpR op_ne (pe_callB (call_reprQ hg hr.units) (by rfl) T.repr (by decide +kernel) (pa_cons (pv 6) pa_nil)) (pv 8) (nomark _))))) (pss_one (ps_ret pe_bl)) pss_nil)
        (pss_cons (ps_if (pt_cmpR op_eq (pe_ix ix_list (pv 10) pe_int (fun _ _ => rfl)) pe_str (nomark _)) (pss_one (ps_expr (pe_bm PySem.F.plainAttrs_list PySem.F.slot_list_append PySem.F.type_list_append mt_append (pe_ix ix_list (pv 10) pe_int (fun _ _ => rfl)) (pa_cons pe_non pa_nil)))) pss_nil)
        (pss_cons (ps_if (PW.pt (pw_or (pt_cmpR op_ne (pe_callB (call_reprQ hg hr.units) (by rfl) T.repr (by decide +kernel) (pa_cons (pe_callG GA hg hr rfl mA FA.kp bA (pa_cons (pv 2) (pa_cons (pv 6) pa_nil))) pa_nil)) (pe_callB (call_reprQ hg hr.units) (by rfl) T.repr (by decide +kernel) (pa_cons (pv 9) pa_nil)) (nomark _))
            (pw_or1 (pt_cmpR op_ne (pe_callB (call_reprQ hg hr.units) (by rfl) T.repr (by decide +kernel) (pa_cons (pv 6) pa_nil)) (pv 8) (nomark _))))) (pss_one (ps_ret pe_bl)) pss_nil)
        (pss_cons (ps_set (i := 11) scRight.nd rfl (.inl rfl) (pe_call D.GP hr2 rfl D.mP D.FP.kp D.bP .nil pass0 (pa_cons (pv 0) (pa_cons (pe_lst (pa_cons pe_non (pa_cons (pe_callTy call_list_of (by rfl) T.list (by decide +kernel) (pa_cons (pv 2) pa_nil)) (pa_cons (pe_op op_catA (pv 2) (pe_tup (pa_cons pe_int pa_nil))) (pa_cons pe_str
            (pa_cons (pe_op op_catA (pv 2) (pe_tup (pa_cons (pe_tup (pa_cons pe_str (pa_cons pe_int (pa_cons pe_int (pa_cons (pe_tup pa_nil) (pa_cons (pe_tup pa_nil) pa_nil)))))) pa_nil))) pa_nil)))))) pa_nil))))
        (pss_one (ps_if (pt_cmpR (op_neD hr.units) (pe_callG GA hg hr rfl mA FA.kp bA (pa_cons (pv 11) (pa_cons (pv 6) pa_nil))) (pe_lst (pa_cons pe_str (pa_cons (pe_callB (call_reprQ hg hr.units) (by rfl) T.repr (by decide +kernel) (pa_cons (pv 11) pa_nil)) pa_nil))) (nomark _)) (pss_one (ps_ret pe_bl)) pss_nil)))))))))))))
      (pss_one (ps_ret (pe_callG GM hg hr8 rfl mM FM.kp bM (pa_cons (pv 0) pa_nil)))), ?_⟩
    refine ⟨6, rfl, by decide, by decide, ?_⟩
    refine for_range (n := 6) (fun k σ H' => But p H H' ∧ PotAt H' p ∧ ∃ y1 y2 y3 y4 y5 y6 y7 y8 y9 y10 y11, σ = [some (V.ref p), y1, y2, y3, y4, y5, y6, y7, y8, y9, y10, y11]) ⟨But.refl p H, hp, _, _, _, _, _, _, _, _, _, _, _, rfl⟩ ?_ ?_
    · rintro k σ Ha hk ⟨ba, hpa, y1, y2, y3, y4, y5, y6, y7, y8, y9, y10, y11, rfl⟩
      refine ⟨_, rfl, p, [p], 4, rfl, PZ.one hpa, by decide, by decide, fun t ds H1 hp1 b1 hgd gds hlen => ?_⟩
      have hl4 : ds.length ≤ 4 := by omega
      have hz1 : PZ [p] p H1 := PZ.one hp1
      have B1 := ba.trans b1
      have er : rowB (.tuple ds) = true := by
        rw [rowB_tup, decide_eq_true (show ds.length ≤ 180 by omega)]
        exact List.all_eq_true.mpr fun d hd => good_is (gds d hd)
      obtain ⟨txs, ht1, ha1⟩ : ∃ txs, SqT K (cut [p] H1) t txs ∧ DqAll K (cut [p] H1) txs ds := by
        cases hgd with
        | tup h1 h2 => exact ⟨_, h1, h2⟩
      have htl := ha1.length
      refine ⟨_, rfl, t, rfl, ⟨_, XR.Same.tup cut_sub ht1⟩, fun C nC => ?_⟩
      have sC := same_upd (o := .lst []) nC
      refine lc_tup (K := K) (a := t) (xs := txs) (fun i H' => Same H1 H' ∧ ∃ zs, H' C = some (.lst zs) ∧ zs.length ≤ i) ⟨sC, [], upd_same, Nat.le_refl _⟩ (fun i H' _ hh => XR.Same.tup hh.1 (XR.Same.tup cut_sub ht1)) ?_ ?_
      · rintro i x H' hx ⟨sm, zs, hC, hzl⟩
        obtain ⟨e, e1, e2⟩ := ha1.get hx
        have e3 := (e2.same cut_sub).same sm
        refine ⟨rfl, ?_⟩
        refine ⟨_, rfl, x, _, _, _, _, rfl, .ty "tuple", e3.ty, kit_ty (kit_tuple e), _, rfl, ?_⟩
        have hil : i < txs.length := (List.getElem?_eq_some_iff.mp hx).1
        have fin : ∃ acc, H' C = some (.lst acc) ∧ acc.length < sizeLine ∧ (Same H1 (upd H' C (.lst (acc ++ [x]))) ∧ ∃ zs, (upd H' C (.lst (acc ++ [x]))) C = some (.lst zs) ∧ zs.length ≤ i + 1) := by
          refine ⟨zs, hC, Nat.lt_of_le_of_lt (show zs.length ≤ 4 by omega) (by decide), fun b o h => ?_, _, upd_same, ?_⟩
          · rw [upd_ne (ne_of_none h nC)]
            exact sm _ _ h
          · rw [List.length_append]; show zs.length + 1 ≤ _; omega
        cases e with
        | tuple fs => exact iteT ⟨_, rfl, fin⟩
        | _ => exact iteF ⟨sm, zs, hC, by omega⟩
      rintro H2 ⟨s12, zs0, hC, hzl⟩
      have hm4 : zs0.length ≤ 4 := by omega
      refine ⟨C, zs0, rfl, .inl (SqL.of hC), ?_⟩
      have hz2 := hz1.same s12
      have hgd2 := hgd.same s12
      have hm : (0 : Int) ≤ (zs0.length : Int) ∧ (zs0.length : Int) ≤ 4 := by omega
      generalize (zs0.length : Int) = m at hm ⊢
      refine ⟨_, rfl, _, rfl, _, rfl, _, rfl, _, rfl, p, 5, rfl, hz2.pot, by decide, by decide, fun r H3 r0 r1 hp3 b3 => ⟨ll20 (by show 4 ≤ 20; decide), fun l nl => ?_⟩⟩
      have sl := same_upd (o := .lst [V.int m, V.int m, V.int m, V.int r]) nl
      refine ⟨p, l, _, rfl, hp3.same sl, upd_same, hp3.ne nl, by show 0 < 4; decide, by show 4 ≤ 1000; decide, fun x H4 hx hp4 b4 => ?_⟩
      obtain ⟨wn, rfl, w0, w1⟩ : ∃ wn : Int, x = .int wn ∧ 0 ≤ wn ∧ wn ≤ 4 := by
        simp only [List.mem_cons, List.not_mem_nil, or_false] at hx
        rcases hx with rfl | rfl | rfl | rfl
        · exact ⟨m, rfl, hm.1, hm.2⟩
        · exact ⟨m, rfl, hm.1, hm.2⟩
        · exact ⟨m, rfl, hm.1, hm.2⟩
        · exact ⟨r, rfl, r0, by omega⟩
      have bb4 : But p H2 H4 := (b3.trans (Same.but sl)).trans b4
      have hz4 := hz2.step hp4 bb4
      have hgd4 := hgd2.step hz2 bb4
      have B4 := (B1.trans (Same.but s12)).trans bb4
      clear hx sl nl b4 bb4 b3 hp3 r0 r1 hgd2 hz2 hm
      refine ⟨_, rfl, wn, rfl, by omega, by omega, fun c nc => ?_⟩
      have npc := hp4.ne nc
      have hzc : PZ (c :: [p]) p (upd H4 c (.lst [])) := (hz4.same (same_upd nc)).more upd_same
      refine lc_range (n := wn.toNat) (fun j H' => But p H4 H' ∧ PZ (c :: [p]) p H' ∧ ∃ ys es, H' c = some (.lst ys) ∧ DzAll K (c :: [p]) H' ys es ∧ (∀ e ∈ es, e ∈ sideL) ∧ es.length = j) ⟨(But.refl p H4).new nc, hzc, [], [], upd_same, .nil, (fun e h => nomatch h), rfl⟩ ?_ ?_
      · rintro j Hb hj ⟨bb, hza, ys, es, hC, hy, hok, hl⟩
        refine ⟨rfl, ?_⟩
        unfold tYes
        dsimp only
        rw [if_pos rfl]
        refine ⟨_, rfl, p, c :: [p], rfl, hza, fun y e H6 hp6 b6 he oke => ?_⟩
        have hC3 := b6 _ _ hC npc.symm
        have hz3 := hza.step hp6 b6
        have hyl := DqAll.length hy
        have hpu := hp6.upd (o := .lst (ys ++ [y])) npc
        refine ⟨ys, hC3, Nat.lt_of_le_of_lt (show ys.length ≤ 4 by omega) (by decide), fun b o hb hn => ?_, ⟨hpu, hz3.mem, fun u hu => ?_⟩, ys ++ [y], es ++ [e], upd_same, DzAll.upd (DqAll.snoc (hy.step hza b6) he) (List.mem_cons_self ..), fun f hf => ?_, ?_⟩
        · have hb2 := b6 _ _ (bb _ _ hb hn) hn
          rw [upd_ne (ne_of_none hb nc)]
          exact hb2
        · by_cases q : u = c
          · exact ⟨_, by rw [q]; exact upd_same⟩
          · obtain ⟨o, ho⟩ := hz3.live u hu
            exact ⟨o, by rw [upd_ne q]; exact ho⟩
        · rcases List.mem_append.mp hf with hf | hf
          · exact hok f hf
          · rw [List.mem_singleton.mp hf]; exact oke
        · rw [List.length_append, hl]; rfl
      rintro H5 ⟨b45, hz5c, ys, es, hc, hy, hes, hl⟩
      have z5 : PZ [p] p H5 := hz4.step hz5c.pot b45
      have T5 : Dz K [p] H5 (.ref t) (.tuple ds) := hgd4.step hz4 b45
      have S5 : Dz K [p] H5 (.ref c) (.list es) := .lst (SqL.of (by rw [cut_out (fun h => npc.symm (List.mem_singleton.mp h))]; exact hc)) (DzAll.less hy)
      have B5 := B4.trans b45
      have esok : ∀ s ∈ es, SideOk s := fun s h => side_ok (hes s h)
      have itm : ∀ s ∈ es, (itemsOf s).length ≤ 1000 := fun s h => (esok s h).i
      have el4 : es.length ≤ 4 := by omega
      have SS := sides_shw esok el4
      have DS := due_shw (ds := ds) gds (by omega) esok (by omega)
      have TS := (tup_shx (ds := ds) gds (by omega)).sh
      have cq := SqL.of (K := K) hc
      have yq := DzAll.dq (DzAll.less hy)
      clear hy hz5c hz4 hgd4 b45 B4 hes hzc npc nc
      obtain ⟨txs5, t5, a5⟩ : ∃ txs, SqT K (cut [p] H5) t txs ∧ DqAll K (cut [p] H5) txs ds := by
        cases T5 with
        | tup h1 h2 => exact ⟨_, h1, h2⟩
      refine ⟨_, rfl, .ref c, .list es, rfl, S5.dq, SS.ok, SS.lineX (by decide), SS.low (by decide), _, rfl, _, rfl, t, c, txs5, ys, ds, es, rfl, XR.Same.tup cut_sub t5, a5.same cut_sub, er, cq, yq, by omega, itm, fun u H6 s6 q6 => ⟨_, _, rfl, ?_⟩⟩
      have T6 := T5.same s6
      have S6 := S5.same s6
      have z6 := z5.same s6
      refine ⟨_, rfl, _, rfl, .ref t, c, .tuple ds, ys, es, rfl, T6.dq, TS.le (by decide) (by decide), s6.seq cq, yq.same s6, el4, itm, (fun q => by rw [er] at q; cases q), ?_⟩
      intro ds' ed _
      cases ed
      intro u2 v r2 H7 s7 hu2 hv qd
      refine ⟨_, rfl, .ref u2, _, rfl, qd, DS.ok, DS.lineX (by decide), DS.low (by decide), _, rfl, .ref u, _, rfl, q6.same s7, DS.ok, DS.lineX (by decide), DS.low (by decide), rfl, _, rfl, ?_⟩
      rw [decide_eq_true (show V.str (dueD ds es).shown = V.str (dueD ds es).shown from rfl)]
      refine iteF ⟨_, rfl, .ref c, .list es, rfl, (S6.same s7).dq, SS.ok, SS.lineX (by decide), SS.low (by decide), _, rfl, rfl, _, rfl, ?_⟩
      rw [decide_eq_true (show V.str (PyData.list es).shown = V.str (PyData.list es).shown from rfl)]
      refine iteF ?_
      refine ⟨_, rfl, u2, _, _, _, rfl, rfl, SqL.of hu2, atI_nat (j := 0) rfl, rfl, _, rfl, ?_⟩
      refine ite2 (fun cT => ?_) (fun cT => ?_)
      · have ev : v = ("told" : Str) := by
          have h := of_decide_eq_true cT
          injection h
        obtain ⟨l, zs, rfl, hl', nl', hzl'⟩ := hv ev
        have rl := res_len ds es gds itm
        refine ⟨_, rfl, u2, _, _, _, rfl, rfl, SqL.of hu2, atI_nat (j := 1) rfl, .inl ⟨rfl, _, SqL.of hl'⟩, l, zs, .non, rfl, rfl, hl', Nat.lt_of_le_of_lt (show zs.length ≤ 4000 by omega) (by decide), ?_⟩
        have sG : Same H6 (upd H7 l (.lst (zs ++ [V.non]))) := fun b o h => by
          rw [upd_ne (ne_of_none h nl')]
          exact s7 _ _ h
        generalize upd H7 l (.lst (zs ++ [V.non])) = G at sG ⊢
        have T := T6.same sG
        have S := S6.same sG
        refine ⟨_, rfl, _, rfl, .ref t, c, .tuple ds, ys, es, rfl, T.dq, TS.le (by decide) (by decide), sG.seq (s6.seq cq), (yq.same s6).same sG, el4, itm, (fun q => by rw [er] at q; cases q), ?_⟩
        intro ds' ed _
        cases ed
        intro u3 v3 r3 H8 s8 hu3 hv3 qd3
        refine ⟨.ref u3, _, rfl, qd3, DS.ok, DS.lineX (by decide), DS.low (by decide), _, rfl, .ref u, _, rfl, (q6.same sG).same s8, DS.ok, DS.lineX (by decide), DS.low (by decide), rfl, _, rfl, ?_⟩
        rw [decide_eq_true (show V.str (dueD ds es).shown = V.str (dueD ds es).shown from rfl)]
        refine iteF ⟨_, rfl, .ref c, .list es, rfl, (S.same s8).dq, SS.ok, SS.lineX (by decide), SS.low (by decide), _, rfl, rfl, _, rfl, ?_⟩
        rw [decide_eq_true (show V.str (PyData.list es).shown = V.str (PyData.list es).shown from rfl)]
        refine iteF ?_
        have s68 := sG.trans s8
        have Tz := T6.same s68
        have zz := z6.same s68
        have Sz := S6.same s68
        clear T S qd3 hv3 hu3 q6
        obtain ⟨txs8, t8, a8⟩ : ∃ txs, SqT K (cut [p] H8) t txs ∧ DqAll K (cut [p] H8) txs ds := by
          cases Tz with
          | tup h1 h2 => exact ⟨_, h1, h2⟩
        refine ⟨_, rfl, _, rfl, t, txs8, rfl, .inr (XR.Same.tup cut_sub t8), fun l1 n1 => ?_⟩
        have sl1 := same_upd (o := .lst txs8) n1
        have dl1 : Dz K [p] (upd H8 l1 (.lst txs8)) (.ref l1) (.list ds) := Dz.new_lst a8 zz n1
        generalize upd H8 l1 (.lst txs8) = G1 at sl1 dl1 ⊢
        have zG1 := zz.same sl1
        refine ⟨_, rfl, ll20 (by show 1 ≤ 20; decide), fun q1 m1 => ?_⟩
        have sq1 := same_upd (o := .tup [V.int 1]) m1
        have dq1 : Dz K [p] (upd G1 q1 (.tup [V.int 1])) (.ref q1) (.tuple [.int 1]) := Dz.new_tup (.cons (.int _) .nil) zG1 m1
        generalize upd G1 q1 (.tup [V.int 1]) = G2 at sq1 dq1 ⊢
        have zG2 := zG1.same sq1
        refine cat_dz zG2 ((Tz.same sl1).same sq1) dq1 (Nat.le_trans (show ds.length + 1 ≤ 5 by omega) (by decide)) fun w1 G3 s3 d3 => ?_
        have zG3 := zG2.same s3
        refine ⟨_, rfl, ll20 (by show 0 ≤ 20; decide), fun e1 ne1 => ?_⟩
        have se1 := same_upd (o := .tup []) ne1
        have de1 : Dz K [p] (upd G3 e1 (.tup [])) (.ref e1) (.tuple []) := Dz.new_tup .nil zG3 ne1
        generalize upd G3 e1 (.tup []) = G4 at se1 de1 ⊢
        have zG4 := zG3.same se1
        refine ⟨ll20 (by show 0 ≤ 20; decide), fun e2 ne2 => ?_⟩
        have se2 := same_upd (o := .tup []) ne2
        have de2 : Dz K [p] (upd G4 e2 (.tup [])) (.ref e2) (.tuple []) := Dz.new_tup .nil zG4 ne2
        generalize upd G4 e2 (.tup []) = G5 at se2 de2 ⊢
        have zG5 := zG4.same se2
        refine ⟨ll20 (by show 5 ≤ 20; decide), fun q5 n5 => ?_⟩
        have sq5 := same_upd (o := .tup [V.str "clash", V.int 1, V.int 0, V.ref e1, V.ref e2]) n5
        have dq5 : Dz K [p] (upd G5 q5 (.tup [V.str "clash", V.int 1, V.int 0, V.ref e1, V.ref e2])) (.ref q5) (.tuple [.str "clash", .int 1, .int 0, .tuple [], .tuple []]) := Dz.new_tup (.cons (.str _) (.cons (.int _) (.cons (.int _) (.cons (de1.same se2) (.cons de2 .nil))))) zG5 n5
        generalize upd G5 q5 (.tup [V.str "clash", V.int 1, V.int 0, V.ref e1, V.ref e2]) = G6 at sq5 dq5 ⊢
        have zG6 := zG5.same sq5
        refine ⟨ll20 (by show 1 ≤ 20; decide), fun q6 n6 => ?_⟩
        have sq6 := same_upd (o := .tup [V.ref q5]) n6
        have dq6 : Dz K [p] (upd G6 q6 (.tup [V.ref q5])) (.ref q6) (.tuple [.tuple [.str "clash", .int 1, .int 0, .tuple [], .tuple []]]) := Dz.new_tup (.cons dq5 .nil) zG6 n6
        generalize upd G6 q6 (.tup [V.ref q5]) = G7 at sq6 dq6 ⊢
        have zG7 := zG6.same sq6
        have s37 := se1.trans (se2.trans (sq5.trans sq6))
        have s87 := sl1.trans (sq1.trans (s3.trans s37))
        refine cat_dz zG7 (Tz.same s87) dq6 (Nat.le_trans (show ds.length + 1 ≤ 5 by omega) (by decide)) fun w2 G8 s78 d8 => ?_
        refine ⟨ll20 (by show 5 ≤ 20; decide), fun L nL => ?_⟩
        have sL := same_upd (o := .lst [V.non, V.ref l1, V.ref w1, V.str "ab", V.ref w2]) nL
        have zG8 := zG7.same s78
        have s38 := s37.trans s78
        have s18 := sq1.trans (s3.trans s38)
        have s88 := sl1.trans s18
        refine ⟨p, L, _, rfl, zG8.pot.same sL, upd_same, zG8.pot.ne nL, by show 0 < 5; decide, by show 5 ≤ 1000; decide, fun x H12 hx hp12 b12 => ?_⟩
        have zL := zG8.same sL
        obtain ⟨d, hdv, dx⟩ : ∃ d, d ∈ oddV ds ∧ Dz K [p] H12 x d := by
          simp only [List.mem_cons, List.not_mem_nil, or_false] at hx
          rcases hx with rfl | rfl | rfl | rfl | rfl
          · exact ⟨.none, by simp [oddV], .non⟩
          · exact ⟨_, by simp [oddV], Dz.step ((dl1.same s18).same sL) zL b12⟩
          · exact ⟨_, by simp [oddV], Dz.step ((d3.same s38).same sL) zL b12⟩
          · exact ⟨.str "ab", by simp [oddV], .str _⟩
          · exact ⟨_, by simp [oddV], Dz.step (d8.same sL) zL b12⟩
        obtain ⟨rb, dsh⟩ := odd_ok (ds := ds) gds (by omega) hdv
        have S12 : Dz K [p] H12 (.ref c) (.list es) := Dz.step ((Sz.same s88).same sL) zL b12
        obtain ⟨cys, c12, k12⟩ : ∃ cys, SqL K (cut [p] H12) c cys ∧ DqAll K (cut [p] H12) cys es := by
          cases S12 with
          | lst h1 h2 => exact ⟨_, h1, h2⟩
        refine ⟨_, rfl, _, rfl, x, c, d, cys, es, rfl, dx.dq, dsh.sh.le (by decide) (by decide), (show Same (cut [p] H12) H12 from cut_sub).seq c12, k12.same cut_sub, el4, itm, ?_, (fun ds' ed er' => by rw [rb] at er'; cases er')⟩
        intro _ u4 H13 s13 q13
        refine ⟨_, rfl, x, d, rfl, (dx.same s13).dq, dsh.sh.ok, dsh.sh.lineX (by decide), dsh.sh.low (by decide), ll20 (by show 2 ≤ 20; decide), fun u5 n5' => ?_⟩
        have su5 := same_upd (o := .lst [V.str "no row", V.str d.shown]) n5'
        refine ⟨twoD d.shown, twoD d.shown, (q13.same su5).dp (two_lay dsh.asc), .lst (SqL.of upd_same) (.cons (.str _) (.cons (.str _) .nil)), two_shaped dsh.asc, two_shaped dsh.asc, _, rfl, ?_⟩
        rw [SeqAt.eqv_refl _ (two_lay dsh.asc)]
        refine iteF ⟨((B5.trans (Same.but (s6.trans (s68.trans (s88.trans sL))))).trans b12).trans (Same.but (s13.trans su5)), hp12.same (s13.trans su5), _, _, _, _, _, _, _, _, _, _, _, rfl⟩
      · have sG := s7
        have T := T6.same sG
        have S := S6.same sG
        refine ⟨_, rfl, _, rfl, .ref t, c, .tuple ds, ys, es, rfl, T.dq, TS.le (by decide) (by decide), sG.seq (s6.seq cq), (yq.same s6).same sG, el4, itm, (fun q => by rw [er] at q; cases q), ?_⟩
        intro ds' ed _
        cases ed
        intro u3 v3 r3 H8 s8 hu3 hv3 qd3
        refine ⟨.ref u3, _, rfl, qd3, DS.ok, DS.lineX (by decide), DS.low (by decide), _, rfl, .ref u, _, rfl, (q6.same sG).same s8, DS.ok, DS.lineX (by decide), DS.low (by decide), rfl, _, rfl, ?_⟩
        rw [decide_eq_true (show V.str (dueD ds es).shown = V.str (dueD ds es).shown from rfl)]
        refine iteF ⟨_, rfl, .ref c, .list es, rfl, (S.same s8).dq, SS.ok, SS.lineX (by decide), SS.low (by decide), _, rfl, rfl, _, rfl, ?_⟩
        rw [decide_eq_true (show V.str (PyData.list es).shown = V.str (PyData.list es).shown from rfl)]
        refine iteF ?_
        have s68 := sG.trans s8
        have Tz := T6.same s68
        have zz := z6.same s68
        have Sz := S6.same s68
        clear T S qd3 hv3 hu3 q6
        obtain ⟨txs8, t8, a8⟩ : ∃ txs, SqT K (cut [p] H8) t txs ∧ DqAll K (cut [p] H8) txs ds := by
          cases Tz with
          | tup h1 h2 => exact ⟨_, h1, h2⟩
        refine ⟨_, rfl, _, rfl, t, txs8, rfl, .inr (XR.Same.tup cut_sub t8), fun l1 n1 => ?_⟩
        have sl1 := same_upd (o := .lst txs8) n1
        have dl1 : Dz K [p] (upd H8 l1 (.lst txs8)) (.ref l1) (.list ds) := Dz.new_lst a8 zz n1
        generalize upd H8 l1 (.lst txs8) = G1 at sl1 dl1 ⊢
        have zG1 := zz.same sl1
        refine ⟨_, rfl, ll20 (by show 1 ≤ 20; decide), fun q1 m1 => ?_⟩
        have sq1 := same_upd (o := .tup [V.int 1]) m1
        have dq1 : Dz K [p] (upd G1 q1 (.tup [V.int 1])) (.ref q1) (.tuple [.int 1]) := Dz.new_tup (.cons (.int _) .nil) zG1 m1
        generalize upd G1 q1 (.tup [V.int 1]) = G2 at sq1 dq1 ⊢
        have zG2 := zG1.same sq1
        refine cat_dz zG2 ((Tz.same sl1).same sq1) dq1 (Nat.le_trans (show ds.length + 1 ≤ 5 by omega) (by decide)) fun w1 G3 s3 d3 => ?_
        have zG3 := zG2.same s3
        refine ⟨_, rfl, ll20 (by show 0 ≤ 20; decide), fun e1 ne1 => ?_⟩
        have se1 := same_upd (o := .tup []) ne1
        have de1 : Dz K [p] (upd G3 e1 (.tup [])) (.ref e1) (.tuple []) := Dz.new_tup .nil zG3 ne1
        generalize upd G3 e1 (.tup []) = G4 at se1 de1 ⊢
        have zG4 := zG3.same se1
        refine ⟨ll20 (by show 0 ≤ 20; decide), fun e2 ne2 => ?_⟩
        have se2 := same_upd (o := .tup []) ne2
        have de2 : Dz K [p] (upd G4 e2 (.tup [])) (.ref e2) (.tuple []) := Dz.new_tup .nil zG4 ne2
        generalize upd G4 e2 (.tup []) = G5 at se2 de2 ⊢
        have zG5 := zG4.same se2
        refine ⟨ll20 (by show 5 ≤ 20; decide), fun q5 n5 => ?_⟩
        have sq5 := same_upd (o := .tup [V.str "clash", V.int 1, V.int 0, V.ref e1, V.ref e2]) n5
        have dq5 : Dz K [p] (upd G5 q5 (.tup [V.str "clash", V.int 1, V.int 0, V.ref e1, V.ref e2])) (.ref q5) (.tuple [.str "clash", .int 1, .int 0, .tuple [], .tuple []]) := Dz.new_tup (.cons (.str _) (.cons (.int _) (.cons (.int _) (.cons (de1.same se2) (.cons de2 .nil))))) zG5 n5
        generalize upd G5 q5 (.tup [V.str "clash", V.int 1, V.int 0, V.ref e1, V.ref e2]) = G6 at sq5 dq5 ⊢
        have zG6 := zG5.same sq5
        refine ⟨ll20 (by show 1 ≤ 20; decide), fun q6 n6 => ?_⟩
        have sq6 := same_upd (o := .tup [V.ref q5]) n6
        have dq6 : Dz K [p] (upd G6 q6 (.tup [V.ref q5])) (.ref q6) (.tuple [.tuple [.str "clash", .int 1, .int 0, .tuple [], .tuple []]]) := Dz.new_tup (.cons dq5 .nil) zG6 n6
        generalize upd G6 q6 (.tup [V.ref q5]) = G7 at sq6 dq6 ⊢
        have zG7 := zG6.same sq6
        have s37 := se1.trans (se2.trans (sq5.trans sq6))
        have s87 := sl1.trans (sq1.trans (s3.trans s37))
        refine cat_dz zG7 (Tz.same s87) dq6 (Nat.le_trans (show ds.length + 1 ≤ 5 by omega) (by decide)) fun w2 G8 s78 d8 => ?_
        refine ⟨ll20 (by show 5 ≤ 20; decide), fun L nL => ?_⟩
        have sL := same_upd (o := .lst [V.non, V.ref l1, V.ref w1, V.str "ab", V.ref w2]) nL
        have zG8 := zG7.same s78
        have s38 := s37.trans s78
        have s18 := sq1.trans (s3.trans s38)
        have s88 := sl1.trans s18
        refine ⟨p, L, _, rfl, zG8.pot.same sL, upd_same, zG8.pot.ne nL, by show 0 < 5; decide, by show 5 ≤ 1000; decide, fun x H12 hx hp12 b12 => ?_⟩
        have zL := zG8.same sL
        obtain ⟨d, hdv, dx⟩ : ∃ d, d ∈ oddV ds ∧ Dz K [p] H12 x d := by
          simp only [List.mem_cons, List.not_mem_nil, or_false] at hx
          rcases hx with rfl | rfl | rfl | rfl | rfl
          · exact ⟨.none, by simp [oddV], .non⟩
          · exact ⟨_, by simp [oddV], Dz.step ((dl1.same s18).same sL) zL b12⟩
          · exact ⟨_, by simp [oddV], Dz.step ((d3.same s38).same sL) zL b12⟩
          · exact ⟨.str "ab", by simp [oddV], .str _⟩
          · exact ⟨_, by simp [oddV], Dz.step (d8.same sL) zL b12⟩
        obtain ⟨rb, dsh⟩ := odd_ok (ds := ds) gds (by omega) hdv
        have S12 : Dz K [p] H12 (.ref c) (.list es) := Dz.step ((Sz.same s88).same sL) zL b12
        obtain ⟨cys, c12, k12⟩ : ∃ cys, SqL K (cut [p] H12) c cys ∧ DqAll K (cut [p] H12) cys es := by
          cases S12 with
          | lst h1 h2 => exact ⟨_, h1, h2⟩
        refine ⟨_, rfl, _, rfl, x, c, d, cys, es, rfl, dx.dq, dsh.sh.le (by decide) (by decide), (show Same (cut [p] H12) H12 from cut_sub).seq c12, k12.same cut_sub, el4, itm, ?_, (fun ds' ed er' => by rw [rb] at er'; cases er')⟩
        intro _ u4 H13 s13 q13
        refine ⟨_, rfl, x, d, rfl, (dx.same s13).dq, dsh.sh.ok, dsh.sh.lineX (by decide), dsh.sh.low (by decide), ll20 (by show 2 ≤ 20; decide), fun u5 n5' => ?_⟩
        have su5 := same_upd (o := .lst [V.str "no row", V.str d.shown]) n5'
        refine ⟨twoD d.shown, twoD d.shown, (q13.same su5).dp (two_lay dsh.asc), .lst (SqL.of upd_same) (.cons (.str _) (.cons (.str _) .nil)), two_shaped dsh.asc, two_shaped dsh.asc, _, rfl, ?_⟩
        rw [SeqAt.eqv_refl _ (two_lay dsh.asc)]
        refine iteF ⟨((B5.trans (Same.but (s6.trans (s68.trans (s88.trans sL))))).trans b12).trans (Same.but (s13.trans su5)), hp12.same (s13.trans su5), _, _, _, _, _, _, _, _, _, _, _, rfl⟩
    · rintro σ Ha ⟨ba, hpa, y1, y2, y3, y4, y5, y6, y7, y8, y9, y10, y11, rfl⟩
      exact ⟨_, rfl, p, rfl, hpa, fun H' b' => z _ (ba.trans b')⟩
end
end K65
namespace K65
open PySem L2 XR
abbrev sLaw : Stmt := top 36
def spLaw (K : PySem.W.Frag) : Sp := fun vs H Q _ => ∃ (a : Addr) (ns : List Int), vs = [.ref a] ∧ SqL K H a (ns.map V.int) ∧ ns.length ≤ 63 ∧ ∀ H', Q (.bl true) H'
section
variable {P : Program} {w : World} {K : PySem.W.Frag} {mg : Str → Option Value} {base : Heap}
theorem scL : FnScope ["_law_script", "_law_k"] ["_law_script"] (defScope sLaw) := ⟨rfl, rfl, rfl, by decide +kernel, rfl, by decide +kernel, by decide +kernel⟩
theorem ok_law {f fP fR : Addr} {fd fdP fdR : FuncData} (F : Fun K "law" "law" sLaw f fd) (b : Blt mg)
    (FP : Fun K "_law_pot" "_law_pot" sPot fP fdP) (GP : FnOk P w K mg base CX0 1 fP fdP ["_law_script", "_law_index"] (spPot K)) (bP : Binds K fdP ["_law_script", "_law_index"] []) (mP : mg "_law_pot" = some (.ref fP))
    (FR : Fun K "_law_right" "_law_right" sRight fR fdR) (GR : FnG P w K mg base 10 fR fdR ["_law_pot_here"] spRight) (bR : Binds K fdR ["_law_pot_here"] []) (mR : mg "_law_right" = some (.ref fR)) :
    FnG P w K mg base 11 f fd ["_law_script"] (spLaw K) := by
  refine okG F scL (fun vs H Q E h => ?_) (fun cdv A outer s H vs Q E hr hg h => ?_)
  · obtain ⟨a, ns, rfl, _⟩ := h
    rfl
  · obtain ⟨a, ns, rfl, hS, hn, z⟩ := h
    refine ⟨_, pss_one (ps_ret (pe_callB (cr_all rfl) (by rfl) (b.all "all" (by decide)) (by decide +kernel) (pa_cons (pe_lc (own := [("_law_k", 1)]) (g := gName 1) (tt := tYes) (te := tCall spRight [] E0 (tCons (tCall (spPot K) [] E0 (tCons (tVar 0) (tCons (tVar 1) tNil))) tNil)) rfl scL.nd
          (pi_range1 rfl b.range (pa_cons (pe_callB (call_max2 rfl) (by rfl) b.max (by decide +kernel) (pa_cons pe_int (pa_cons (pe_callB (call_min2 rfl) (by rfl) b.min (by decide +kernel) (pa_cons pe_int (pa_cons (pe_callB call_len_seq (by rfl) b.len PySem.boot_len (pa_cons (pv 0) pa_nil)) pa_nil))) pa_nil))) pa_nil))
          (blkOk_by (own := [("_law_k", 1)]) (N := ["_law_script", "_law_k"]) (sc := defScope sLaw) (by decide +kernel))
          (fun _ _ _ _ _ => pg_name (i := 1) scL.nd rfl (Or.inl rfl)) (fun _ _ _ _ _ => pts_nil)
          (fun _ _ _ _ _ => pe_callG GR hg hr rfl mR FR.kp bR (pa_cons (pe_call GP (hr.mono (show 1 ≤ 10 by decide)) rfl mP FP.kp bP .nil pass0 (pa_cons (pv 0) (pa_cons (pv 1) pa_nil))) pa_nil))) pa_nil))), ?_⟩
    have hb : ∀ L : Int, 0 ≤ L → 1 ≤ (if (if L < 4 then L else 4) > 1 then (if L < 4 then L else 4) else 1) ∧ (if (if L < 4 then L else 4) > 1 then (if L < 4 then L else 4) else 1) ≤ 4 := by
      intro L hL
      split <;> split <;> omega
    refine ⟨_, rfl, a, _, rfl, .inl hS, _, _, rfl, _, _, rfl, ?_⟩
    obtain ⟨b1, b2⟩ := hb ((ns.map V.int).length : Int) (by omega)
    revert b1 b2
    generalize (if (if ((ns.map V.int).length : Int) < 4 then ((ns.map V.int).length : Int) else 4) > 1 then (if ((ns.map V.int).length : Int) < 4 then ((ns.map V.int).length : Int) else 4) else 1) = m
    intro b1 b2
    have h4s : m.toNat ≤ sizeLine := Nat.le_trans (show m.toNat ≤ 4 by omega) (by decide)
    refine ⟨m, rfl, by omega, by omega, fun c nc => ?_⟩
    have hca : ∀ {b : Addr} {o : HO}, H b = some o → b ≠ c := fun h => ne_of_none h nc
    refine lc_range (n := m.toNat) (fun j H' => Same H H' ∧ H' c = some (.lst (List.replicate j (V.bl true)))) ⟨same_upd nc, upd_same⟩ ?_ ?_
    · rintro j H' hj ⟨sm, hc⟩
      refine ⟨rfl, ?_⟩
      unfold tYes
      dsimp only
      rw [if_pos rfl]
      refine ⟨_, rfl, _, rfl, a, ns, j, by rw [Int.zero_add]; rfl, sm.seq hS, hn, by omega, fun p H1 s1 n1 hp1 => ?_⟩
      refine ⟨p, rfl, hp1, fun H2 bt => ?_⟩
      have hcp : c ≠ p := ne_of_none hc n1
      refine ⟨_, bt _ _ (s1 _ _ hc) hcp, by rw [List.length_replicate]; exact Nat.lt_of_lt_of_le hj h4s, ?_, ?_⟩
      · intro b o h
        rw [upd_ne (hca h)]
        exact bt _ _ (s1 _ _ (sm _ _ h)) (ne_of_none (sm _ _ h) n1)
      · rw [upd_same, List.replicate_succ']
    · rintro H' ⟨sm, hc⟩
      refine ⟨c, List.replicate m.toNat true, rfl, SqL.of (by rw [List.map_replicate]; exact hc), ?_⟩
      rw [show (List.replicate m.toNat true).all id = true by simp]
      exact z _
end
end K65
/-! What the heap behind the top says of an own class of exceptions with one field, in one structure. -/
namespace XR
open PySem L2
open PySem.W (ksFn XL)
def fileIs (P : Program) (K : PySem.W.Frag) (a : Addr) : Bool := match K.lookup a with
  | some ⟨_, _, .fields vs, _⟩ => match (vs[2]? : Option Value) with
    | some (.str file _) => (P.main.file : Str) == file
    | _ => false
  | _ => false
def holdsCls (K : PySem.W.Frag) (a C : Addr) : Bool := match K.lookup a with
  | some ⟨_, _, .cell (some (.ref c)), _⟩ => c == C
  | _ => false
theorem fileIs_of {P : Program} {K : PySem.W.Frag} {a : Addr} (h : fileIs P K a = true) : ∃ x y vs c file tf, K.lookup a = some ⟨x, y, .fields vs, c⟩ ∧ vs[2]? = some (.str file tf) ∧ ((P.main.file : Str) == file) = true := by
  unfold fileIs at h
  split at h
  · rename_i x y vs c e
    split at h
    · rename_i file tf e2
      exact ⟨x, y, vs, c, file, tf, e, e2, h⟩
    · cases h
  · cases h
theorem holdsCls_of {K : PySem.W.Frag} {a C : Addr} (h : holdsCls K a C = true) : ∃ x y c, K.lookup a = some ⟨x, y, .cell (some (.ref C)), c⟩ := by
  unfold holdsCls at h
  split at h
  · rename_i x y c z e
    have : c = C := by simpa using h
    subst this
    exact ⟨x, y, z, e⟩
  · cases h
/-- B: the built-in class above; q: the name of __init__; fld: the field; f, c, d: where __init__, its cell and its code stand -/
structure ClsF (P : Program) (K : PySem.W.Frag) (B newId initId : String) (bmB : List Value) (q fld : Str) (C f c d : Addr) : Prop where
  kp : PySem.W.keepIn K (.ref C) = true
  ei : PySem.W.excInitIn K C bmB newId = true
  ov : PySem.W.excOver K C bmB = true
  di : PySem.W.hasDictIn K C = true
  sa : PySem.W.findIn K (.ref C) "__setattr__" = some (some (.builtin "object.__setattr__"))
  su : PySem.W.ks_superIn K C C "__init__" = some (some (.builtin initId))
  sb : PySem.W.subIn K (.ref C) (.type B) = some true
  me : PySem.W.mroIn K C (.ref C) = some true
  fn : PySem.W.isFn K (.ref f) = true
  cod : PySem.W.codeIn K (.ref d) q = true
  cfl : fileIs P K d = true
  cel : holdsCls K c C = true
  tk : PySem.W.takerIn K C fld = some none
  nf : PySem.W.findIn K (.ref C) fld = some none
  cls : (PySem.W.clsIn K C).isSome = true
  ga : PySem.W.findIn K (.ref C) "__getattribute__" = some (some (.builtin "BaseException.__getattribute__"))
  gt : PySem.W.findIn K (.ref C) "__getattr__" = some none
  sB : PySem.W.subIn K (.ref C) (.type "BaseException") = some true
  ca : PySem.W.findIn K (.ref C) "__class__" = some (some (.builtin "object.__class__"))
  mo : PySem.W.mroIn K C (.type "object") = some true
  tP : PySem.W.typeIn K (.ref C) = some (.type "type")
  op : PySem.W.nsIn K cStatics "thirdparty.any" = some none
  sp : PySem.W.specialIn K (.builtin "object.__class__") "__get__" = some (some (.builtin "getset_descriptor.__get__"))
  tks : PySem.W.takesIn K (.builtin "object.__class__") = some true
theorem xok_of {P : Program} {K : PySem.W.Frag} {mg : Str → Option Value} {B newId initId : String} {bmB : List Value} {x q fld : Str} {C f c d : Addr} (S : ClsF P K B newId initId bmB q fld C f c d) (g : mg x = some (.ref C))
    (mx : MkX K P C none 1 (fvOne fld)) : XOk P K mg x C 1 (fvOne fld) where
  mx := mx
  ne := fun vs _ h => nomatch h
  kp := S.kp
  bP := S.sB
  tP := S.tP
  g := g
  rd := ⟨S.cls, S.ga, S.gt, S.sB, S.di, S.ca, S.sp, S.tks, S.mo⟩
  nf := fun vs y hy => by
    have e : y = (fld, vs.getD 0 .non) := by simpa [fvOne] using hy
    rw [e]
    exact S.nf
end XR
namespace K65
open PySem L2 XR
open PySem.W (ksFn XL)
abbrev prg : Program := PySem.Challenge.rw_alldiffs_k65_clashes_resolved.prog
abbrev ini (i : Nat) : Stmt := inClass (top i) 0
abbrev iFn (i : Nat) (qual : Str) (kV doc pm : Value) (an : Option Addr) (cda : Addr) (ct : Value) (cc : Addr) : FuncData :=
  ksFn "__init__" qual (defArgs (ini i)) (defBody (ini i)) (defScope (ini i)) .none kV doc pm an (.ref cda) ct cc
def CInit (K : PySem.W.Frag) (i : Nat) (q : Str) (f cc cda : Addr) : Prop := ∃ oc od osl kV doc pm an ct, K.lookup f = some ⟨oc, od, .func (iFn i q kV doc pm an cda ct cc), osl⟩
section
variable {K : PySem.W.Frag} {C fI cc cda : Addr} {B newId initId : String} {bmB : List Value} {kV doc pm ct : Value} {an : Option Addr}
theorem mkc_InvalidRow (X : XCls K prg C fI cc cda B newId initId bmB (iFn 2 "InvalidRow.__init__" kV doc pm an cda ct cc)) (tk : PySem.W.takerIn K C "value" = some none) : MkX K prg C none 1 (fvOne "value") := by
    refine ⟨by decide, fI, cc, cda, B, newId, initId, bmB, _, "this is no row", 0, ⟨7, 8, 7, 13⟩, ⟨7, 8, 7, 15⟩, ⟨7, 8, 7, 24⟩, ⟨7, 25, 7, 41⟩, ⟨7, 8, 7, 42⟩, ⟨7, 8, 7, 42⟩, fun us => [⟨"value", "value", us.getD 0 .none, ⟨8, 8, 8, 12⟩, ⟨8, 8, 8, 18⟩, ⟨8, 21, 8, 26⟩, ⟨8, 8, 8, 26⟩⟩], fun us => [("value", us.getD 0 .none)], X, fun us hl => ?_⟩
    match us, hl with
    | [u], _ =>
      refine ⟨⟨⟨_, _, _, _, _, _, _, _, _, _, rfl, ⟨_, rfl, rfl⟩, rfl, rfl, rfl, rfl, fun L => ⟨_, rfl⟩, by decide +kernel, rfl, rfl, fun L x hx => ?_⟩, by decide +kernel⟩, by show 1 ≤ 900; decide, fun e s => .of_eq rfl, fun e x hx => ?_, fun e => rfl, fun e x hx => ?_, fun vs r => ?_⟩
      · cases hx with
        | head => exact ⟨rfl, rfl, rfl⟩
        | tail _ h => cases h
      · cases hx with
        | head => rfl
        | tail _ hx =>
          cases hx with
          | head => rfl
          | tail _ hx => cases hx
      · cases hx with
        | head => exact ⟨rfl, tk⟩
        | tail _ h => cases h
      · cases r with
        | cons a b =>
          cases b
          exact .cons ⟨rfl, a⟩ .nil
theorem xok_InvalidRow {mg : Str → Option Value} {h : Heap} (X : K.In h) (G : h.Ns mainGlobals mg) (g : PySem.W.nsIn K mainGlobals "InvalidRow" = some (some (.ref C))) (a : PySem.W.findIn K (.ref C) "__init__" = some (some (.ref fI))) (i : CInit K 2 "InvalidRow.__init__" fI cc cda)
    (S : ClsF prg K "ValueError" "ValueError.__new__" "ValueError.__init__" [.type "ValueError", .type "Exception", .type "BaseException", .type "object"] "InvalidRow.__init__" "value" C fI cc cda) : XOk prg K mg "InvalidRow" C 1 (fvOne "value") := by
  obtain ⟨oc, od, osl, kV, doc, pm, an, ct, lk⟩ := i
  exact xok_of S (PySem.W.mg_of X G g) (mkc_InvalidRow ⟨PySem.F.excBase_ValueError, PySem.F.store_ValueError, PySem.W.kxs_ValueError, S.ei, S.ov, S.di, S.sa, S.su, S.sb, S.me, S.op, a, S.fn, ⟨oc, od, osl, lk⟩, S.cod, fileIs_of S.cfl, holdsCls_of S.cel, S.kp⟩ S.tk)
theorem mkc_InvalidResolution (X : XCls K prg C fI cc cda B newId initId bmB (iFn 3 "InvalidResolution.__init__" kV doc pm an cda ct cc)) (tk : PySem.W.takerIn K C "index" = some none) : MkX K prg C none 1 (fvOne "index") := by
    refine ⟨by decide, fI, cc, cda, B, newId, initId, bmB, _, "the sides do not resolve the clashes: see the field index", 0, ⟨12, 8, 12, 13⟩, ⟨12, 8, 12, 15⟩, ⟨12, 8, 12, 24⟩, ⟨12, 25, 12, 84⟩, ⟨12, 8, 12, 85⟩, ⟨12, 8, 12, 85⟩, fun us => [⟨"index", "index", us.getD 0 .none, ⟨13, 8, 13, 12⟩, ⟨13, 8, 13, 18⟩, ⟨13, 21, 13, 26⟩, ⟨13, 8, 13, 26⟩⟩], fun us => [("index", us.getD 0 .none)], X, fun us hl => ?_⟩
    match us, hl with
    | [u], _ =>
      refine ⟨⟨⟨_, _, _, _, _, _, _, _, _, _, rfl, ⟨_, rfl, rfl⟩, rfl, rfl, rfl, rfl, fun L => ⟨_, rfl⟩, by decide +kernel, rfl, rfl, fun L x hx => ?_⟩, by decide +kernel⟩, by show 1 ≤ 900; decide, fun e s => .of_eq rfl, fun e x hx => ?_, fun e => rfl, fun e x hx => ?_, fun vs r => ?_⟩
      · cases hx with
        | head => exact ⟨rfl, rfl, rfl⟩
        | tail _ h => cases h
      · cases hx with
        | head => rfl
        | tail _ hx =>
          cases hx with
          | head => rfl
          | tail _ hx => cases hx
      · cases hx with
        | head => exact ⟨rfl, tk⟩
        | tail _ h => cases h
      · cases r with
        | cons a b =>
          cases b
          exact .cons ⟨rfl, a⟩ .nil
theorem xok_InvalidResolution {mg : Str → Option Value} {h : Heap} (X : K.In h) (G : h.Ns mainGlobals mg) (g : PySem.W.nsIn K mainGlobals "InvalidResolution" = some (some (.ref C))) (a : PySem.W.findIn K (.ref C) "__init__" = some (some (.ref fI))) (i : CInit K 3 "InvalidResolution.__init__" fI cc cda)
    (S : ClsF prg K "ValueError" "ValueError.__new__" "ValueError.__init__" [.type "ValueError", .type "Exception", .type "BaseException", .type "object"] "InvalidResolution.__init__" "index" C fI cc cda) : XOk prg K mg "InvalidResolution" C 1 (fvOne "index") := by
  obtain ⟨oc, od, osl, kV, doc, pm, an, ct, lk⟩ := i
  exact xok_of S (PySem.W.mg_of X G g) (mkc_InvalidResolution ⟨PySem.F.excBase_ValueError, PySem.F.store_ValueError, PySem.W.kxs_ValueError, S.ei, S.ov, S.di, S.sa, S.su, S.sb, S.me, S.op, a, S.fn, ⟨oc, od, osl, lk⟩, S.cod, fileIs_of S.cfl, holdsCls_of S.cel, S.kp⟩ S.tk)
end
theorem all_mk {w : World} {K : PySem.W.Frag} {h : Heap} {mg : Str → Option Value} {fa : Addr} (X : K.In h) (G : h.Ns mainGlobals mg) (hfa : mg "law" = some (.ref fa))
    {C_InvalidRow f_InvalidRow c_InvalidRow d_InvalidRow : Addr} (a_InvalidRow : PySem.W.nsIn K mainGlobals "InvalidRow" = some (some (.ref C_InvalidRow))) (b_InvalidRow : PySem.W.findIn K (.ref C_InvalidRow) "__init__" = some (some (.ref f_InvalidRow))) (i_InvalidRow : CInit K 2 "InvalidRow.__init__" f_InvalidRow c_InvalidRow d_InvalidRow)
    (S_InvalidRow : ClsF prg K "ValueError" "ValueError.__new__" "ValueError.__init__" [.type "ValueError", .type "Exception", .type "BaseException", .type "object"] "InvalidRow.__init__" "value" C_InvalidRow f_InvalidRow c_InvalidRow d_InvalidRow)
    {C_InvalidResolution f_InvalidResolution c_InvalidResolution d_InvalidResolution : Addr} (a_InvalidResolution : PySem.W.nsIn K mainGlobals "InvalidResolution" = some (some (.ref C_InvalidResolution))) (b_InvalidResolution : PySem.W.findIn K (.ref C_InvalidResolution) "__init__" = some (some (.ref f_InvalidResolution))) (i_InvalidResolution : CInit K 3 "InvalidResolution.__init__" f_InvalidResolution c_InvalidResolution d_InvalidResolution)
    (S_InvalidResolution : ClsF prg K "ValueError" "ValueError.__new__" "ValueError.__init__" [.type "ValueError", .type "Exception", .type "BaseException", .type "object"] "InvalidResolution.__init__" "index" C_InvalidResolution f_InvalidResolution c_InvalidResolution d_InvalidResolution)
    {g_whole : Addr} {od_whole an_whole : Option Addr} {sl_whole : Array (Option Value)} {oc_whole kV_whole dc_whole pm_whole cd_whole ct_whole : Value}
    (u_whole : PySem.W.nsIn K mainGlobals "is_whole" = some (some (.ref g_whole))) (l_whole : K.lookup g_whole = some ⟨oc_whole, od_whole, .func (PySem.W.fnOf "is_whole" "is_whole" (defArgs sWhole) (defBody sWhole) (defScope sWhole) .none kV_whole dc_whole pm_whole an_whole cd_whole ct_whole), sl_whole⟩) (v_whole : PySem.W.codeIn K cd_whole "is_whole" = true) (k_whole : PySem.W.keepIn K (.ref g_whole) = true)
    {g_islist : Addr} {od_islist an_islist : Option Addr} {sl_islist : Array (Option Value)} {oc_islist kV_islist dc_islist pm_islist cd_islist ct_islist : Value}
    (u_islist : PySem.W.nsIn K mainGlobals "is_list" = some (some (.ref g_islist))) (l_islist : K.lookup g_islist = some ⟨oc_islist, od_islist, .func (PySem.W.fnOf "is_list" "is_list" (defArgs sIsList) (defBody sIsList) (defScope sIsList) .none kV_islist dc_islist pm_islist an_islist cd_islist ct_islist), sl_islist⟩) (v_islist : PySem.W.codeIn K cd_islist "is_list" = true) (k_islist : PySem.W.keepIn K (.ref g_islist) = true)
    {g_tup : Addr} {od_tup an_tup : Option Addr} {sl_tup : Array (Option Value)} {oc_tup kV_tup dc_tup pm_tup cd_tup ct_tup : Value}
    (u_tup : PySem.W.nsIn K mainGlobals "is_tuple" = some (some (.ref g_tup))) (l_tup : K.lookup g_tup = some ⟨oc_tup, od_tup, .func (PySem.W.fnOf "is_tuple" "is_tuple" (defArgs sIsTuple) (defBody sIsTuple) (defScope sIsTuple) .none kV_tup dc_tup pm_tup an_tup cd_tup ct_tup), sl_tup⟩) (v_tup : PySem.W.codeIn K cd_tup "is_tuple" = true) (k_tup : PySem.W.keepIn K (.ref g_tup) = true)
    {g_line : Addr} {od_line an_line : Option Addr} {sl_line : Array (Option Value)} {oc_line kV_line dc_line pm_line cd_line ct_line : Value}
    (u_line : PySem.W.nsIn K mainGlobals "is_line" = some (some (.ref g_line))) (l_line : K.lookup g_line = some ⟨oc_line, od_line, .func (PySem.W.fnOf "is_line" "is_line" (defArgs sLine) (defBody sLine) (defScope sLine) .none kV_line dc_line pm_line an_line cd_line ct_line), sl_line⟩) (v_line : PySem.W.codeIn K cd_line "is_line" = true) (k_line : PySem.W.keepIn K (.ref g_line) = true)
    {g_isclash : Addr} {od_isclash an_isclash : Option Addr} {sl_isclash : Array (Option Value)} {oc_isclash kV_isclash dc_isclash pm_isclash cd_isclash ct_isclash : Value}
    (u_isclash : PySem.W.nsIn K mainGlobals "is_clash" = some (some (.ref g_isclash))) (l_isclash : K.lookup g_isclash = some ⟨oc_isclash, od_isclash, .func (PySem.W.fnOf "is_clash" "is_clash" (defArgs sIsClash) (defBody sIsClash) (defScope sIsClash) .none kV_isclash dc_isclash pm_isclash an_isclash cd_isclash ct_isclash), sl_isclash⟩) (v_isclash : PySem.W.codeIn K cd_isclash "is_clash" = true) (k_isclash : PySem.W.keepIn K (.ref g_isclash) = true)
    {g_lines : Addr} {od_lines an_lines : Option Addr} {sl_lines : Array (Option Value)} {oc_lines kV_lines dc_lines pm_lines cd_lines ct_lines : Value}
    (u_lines : PySem.W.nsIn K mainGlobals "is_tuple_of_lines" = some (some (.ref g_lines))) (l_lines : K.lookup g_lines = some ⟨oc_lines, od_lines, .func (PySem.W.fnOf "is_tuple_of_lines" "is_tuple_of_lines" (defArgs sLines) (defBody sLines) (defScope sLines) .none kV_lines dc_lines pm_lines an_lines cd_lines ct_lines), sl_lines⟩) (v_lines : PySem.W.codeIn K cd_lines "is_tuple_of_lines" = true) (k_lines : PySem.W.keepIn K (.ref g_lines) = true)
    {g_clashl : Addr} {od_clashl an_clashl : Option Addr} {sl_clashl : Array (Option Value)} {oc_clashl kV_clashl dc_clashl pm_clashl cd_clashl ct_clashl : Value}
    (u_clashl : PySem.W.nsIn K mainGlobals "is_clash_of_lines" = some (some (.ref g_clashl))) (l_clashl : K.lookup g_clashl = some ⟨oc_clashl, od_clashl, .func (PySem.W.fnOf "is_clash_of_lines" "is_clash_of_lines" (defArgs sClashL) (defBody sClashL) (defScope sClashL) .none kV_clashl dc_clashl pm_clashl an_clashl cd_clashl ct_clashl), sl_clashl⟩) (v_clashl : PySem.W.codeIn K cd_clashl "is_clash_of_lines" = true) (k_clashl : PySem.W.keepIn K (.ref g_clashl) = true)
    {g_isrow : Addr} {od_isrow an_isrow : Option Addr} {sl_isrow : Array (Option Value)} {oc_isrow kV_isrow dc_isrow pm_isrow cd_isrow ct_isrow : Value}
    (u_isrow : PySem.W.nsIn K mainGlobals "is_row" = some (some (.ref g_isrow))) (l_isrow : K.lookup g_isrow = some ⟨oc_isrow, od_isrow, .func (PySem.W.fnOf "is_row" "is_row" (defArgs sIsRow) (defBody sIsRow) (defScope sIsRow) .none kV_isrow dc_isrow pm_isrow an_isrow cd_isrow ct_isrow), sl_isrow⟩) (v_isrow : PySem.W.codeIn K cd_isrow "is_row" = true) (k_isrow : PySem.W.keepIn K (.ref g_isrow) = true)
    {g_chk : Addr} {od_chk an_chk : Option Addr} {sl_chk : Array (Option Value)} {oc_chk kV_chk dc_chk pm_chk cd_chk ct_chk : Value}
    (u_chk : PySem.W.nsIn K mainGlobals "check_row" = some (some (.ref g_chk))) (l_chk : K.lookup g_chk = some ⟨oc_chk, od_chk, .func (PySem.W.fnOf "check_row" "check_row" (defArgs sChkRow) (defBody sChkRow) (defScope sChkRow) .none kV_chk dc_chk pm_chk an_chk cd_chk ct_chk), sl_chk⟩) (v_chk : PySem.W.codeIn K cd_chk "check_row" = true) (k_chk : PySem.W.keepIn K (.ref g_chk) = true)
    {g_clashes : Addr} {od_clashes an_clashes : Option Addr} {sl_clashes : Array (Option Value)} {oc_clashes kV_clashes dc_clashes pm_clashes cd_clashes ct_clashes : Value}
    (u_clashes : PySem.W.nsIn K mainGlobals "clashes" = some (some (.ref g_clashes))) (l_clashes : K.lookup g_clashes = some ⟨oc_clashes, od_clashes, .func (PySem.W.fnOf "clashes" "clashes" (defArgs sClashes) (defBody sClashes) (defScope sClashes) .none kV_clashes dc_clashes pm_clashes an_clashes cd_clashes ct_clashes), sl_clashes⟩) (v_clashes : PySem.W.codeIn K cd_clashes "clashes" = true) (k_clashes : PySem.W.keepIn K (.ref g_clashes) = true)
    {g_isside : Addr} {od_isside an_isside : Option Addr} {sl_isside : Array (Option Value)} {oc_isside kV_isside dc_isside pm_isside cd_isside ct_isside : Value}
    (u_isside : PySem.W.nsIn K mainGlobals "is_side" = some (some (.ref g_isside))) (l_isside : K.lookup g_isside = some ⟨oc_isside, od_isside, .func (PySem.W.fnOf "is_side" "is_side" (defArgs sIsSide) (defBody sIsSide) (defScope sIsSide) .none kV_isside dc_isside pm_isside an_isside cd_isside ct_isside), sl_isside⟩) (v_isside : PySem.W.codeIn K cd_isside "is_side" = true) (k_isside : PySem.W.keepIn K (.ref g_isside) = true)
    {g_los : Addr} {od_los an_los : Option Addr} {sl_los : Array (Option Value)} {oc_los kV_los dc_los pm_los cd_los ct_los : Value}
    (u_los : PySem.W.nsIn K mainGlobals "lines_of_side" = some (some (.ref g_los))) (l_los : K.lookup g_los = some ⟨oc_los, od_los, .func (PySem.W.fnOf "lines_of_side" "lines_of_side" (defArgs sLos) (defBody sLos) (defScope sLos) .none kV_los dc_los pm_los an_los cd_los ct_los), sl_los⟩) (v_los : PySem.W.codeIn K cd_los "lines_of_side" = true) (k_los : PySem.W.keepIn K (.ref g_los) = true)
    {g_resolved : Addr} {od_resolved an_resolved : Option Addr} {sl_resolved : Array (Option Value)} {oc_resolved kV_resolved dc_resolved pm_resolved cd_resolved ct_resolved : Value}
    (u_resolved : PySem.W.nsIn K mainGlobals "resolved" = some (some (.ref g_resolved))) (l_resolved : K.lookup g_resolved = some ⟨oc_resolved, od_resolved, .func (PySem.W.fnOf "resolved" "resolved" (defArgs sResolved) (defBody sResolved) (defScope sResolved) .none kV_resolved dc_resolved pm_resolved an_resolved cd_resolved ct_resolved), sl_resolved⟩) (v_resolved : PySem.W.codeIn K cd_resolved "resolved" = true) (k_resolved : PySem.W.keepIn K (.ref g_resolved) = true)
    {g_pot : Addr} {od_pot an_pot : Option Addr} {sl_pot : Array (Option Value)} {oc_pot kV_pot dc_pot pm_pot cd_pot ct_pot : Value}
    (u_pot : PySem.W.nsIn K mainGlobals "_law_pot" = some (some (.ref g_pot))) (l_pot : K.lookup g_pot = some ⟨oc_pot, od_pot, .func (PySem.W.fnOf "_law_pot" "_law_pot" (defArgs sPot) (defBody sPot) (defScope sPot) .none kV_pot dc_pot pm_pot an_pot cd_pot ct_pot), sl_pot⟩) (v_pot : PySem.W.codeIn K cd_pot "_law_pot" = true) (k_pot : PySem.W.keepIn K (.ref g_pot) = true)
    {g_draw : Addr} {od_draw an_draw : Option Addr} {sl_draw : Array (Option Value)} {oc_draw kV_draw dc_draw pm_draw cd_draw ct_draw : Value}
    (u_draw : PySem.W.nsIn K mainGlobals "_law_draw" = some (some (.ref g_draw))) (l_draw : K.lookup g_draw = some ⟨oc_draw, od_draw, .func (PySem.W.fnOf "_law_draw" "_law_draw" (defArgs sDraw) (defBody sDraw) (defScope sDraw) .none kV_draw dc_draw pm_draw an_draw cd_draw ct_draw), sl_draw⟩) (v_draw : PySem.W.codeIn K cd_draw "_law_draw" = true) (k_draw : PySem.W.keepIn K (.ref g_draw) = true)
    {g_pick : Addr} {od_pick an_pick : Option Addr} {sl_pick : Array (Option Value)} {oc_pick kV_pick dc_pick pm_pick cd_pick ct_pick : Value}
    (u_pick : PySem.W.nsIn K mainGlobals "_law_pick" = some (some (.ref g_pick))) (l_pick : K.lookup g_pick = some ⟨oc_pick, od_pick, .func (PySem.W.fnOf "_law_pick" "_law_pick" (defArgs sPick) (defBody sPick) (defScope sPick) .none kV_pick dc_pick pm_pick an_pick cd_pick ct_pick), sl_pick⟩) (v_pick : PySem.W.codeIn K cd_pick "_law_pick" = true) (k_pick : PySem.W.keepIn K (.ref g_pick) = true)
    {g_lnl : Addr} {od_lnl an_lnl : Option Addr} {sl_lnl : Array (Option Value)} {oc_lnl kV_lnl dc_lnl pm_lnl cd_lnl ct_lnl : Value}
    (u_lnl : PySem.W.nsIn K mainGlobals "_law_lines" = some (some (.ref g_lnl))) (l_lnl : K.lookup g_lnl = some ⟨oc_lnl, od_lnl, .func (PySem.W.fnOf "_law_lines" "_law_lines" (defArgs sLinesL) (defBody sLinesL) (defScope sLinesL) .none kV_lnl dc_lnl pm_lnl an_lnl cd_lnl ct_lnl), sl_lnl⟩) (v_lnl : PySem.W.codeIn K cd_lnl "_law_lines" = true) (k_lnl : PySem.W.keepIn K (.ref g_lnl) = true)
    {g_fresh : Addr} {od_fresh an_fresh : Option Addr} {sl_fresh : Array (Option Value)} {oc_fresh kV_fresh dc_fresh pm_fresh cd_fresh ct_fresh : Value}
    (u_fresh : PySem.W.nsIn K mainGlobals "_law_fresh_clash" = some (some (.ref g_fresh))) (l_fresh : K.lookup g_fresh = some ⟨oc_fresh, od_fresh, .func (PySem.W.fnOf "_law_fresh_clash" "_law_fresh_clash" (defArgs sFresh) (defBody sFresh) (defScope sFresh) .none kV_fresh dc_fresh pm_fresh an_fresh cd_fresh ct_fresh), sl_fresh⟩) (v_fresh : PySem.W.codeIn K cd_fresh "_law_fresh_clash" = true) (k_fresh : PySem.W.keepIn K (.ref g_fresh) = true)
    {g_tokens : Addr} {od_tokens an_tokens : Option Addr} {sl_tokens : Array (Option Value)} {oc_tokens kV_tokens dc_tokens pm_tokens cd_tokens ct_tokens : Value}
    (u_tokens : PySem.W.nsIn K mainGlobals "_law_tokens" = some (some (.ref g_tokens))) (l_tokens : K.lookup g_tokens = some ⟨oc_tokens, od_tokens, .func (PySem.W.fnOf "_law_tokens" "_law_tokens" (defArgs sTokens) (defBody sTokens) (defScope sTokens) .none kV_tokens dc_tokens pm_tokens an_tokens cd_tokens ct_tokens), sl_tokens⟩) (v_tokens : PySem.W.codeIn K cd_tokens "_law_tokens" = true) (k_tokens : PySem.W.keepIn K (.ref g_tokens) = true)
    {g_side : Addr} {od_side an_side : Option Addr} {sl_side : Array (Option Value)} {oc_side kV_side dc_side pm_side cd_side ct_side : Value}
    (u_side : PySem.W.nsIn K mainGlobals "_law_side" = some (some (.ref g_side))) (l_side : K.lookup g_side = some ⟨oc_side, od_side, .func (PySem.W.fnOf "_law_side" "_law_side" (defArgs sSideP) (defBody sSideP) (defScope sSideP) .none kV_side dc_side pm_side an_side cd_side ct_side), sl_side⟩) (v_side : PySem.W.codeIn K cd_side "_law_side" = true) (k_side : PySem.W.keepIn K (.ref g_side) = true)
    {g_llo : Addr} {od_llo an_llo : Option Addr} {sl_llo : Array (Option Value)} {oc_llo kV_llo dc_llo pm_llo cd_llo ct_llo : Value}
    (u_llo : PySem.W.nsIn K mainGlobals "_law_lines_of" = some (some (.ref g_llo))) (l_llo : K.lookup g_llo = some ⟨oc_llo, od_llo, .func (PySem.W.fnOf "_law_lines_of" "_law_lines_of" (defArgs sLlo) (defBody sLlo) (defScope sLlo) .none kV_llo dc_llo pm_llo an_llo cd_llo ct_llo), sl_llo⟩) (v_llo : PySem.W.codeIn K cd_llo "_law_lines_of" = true) (k_llo : PySem.W.keepIn K (.ref g_llo) = true)
    {g_due : Addr} {od_due an_due : Option Addr} {sl_due : Array (Option Value)} {oc_due kV_due dc_due pm_due cd_due ct_due : Value}
    (u_due : PySem.W.nsIn K mainGlobals "_law_due" = some (some (.ref g_due))) (l_due : K.lookup g_due = some ⟨oc_due, od_due, .func (PySem.W.fnOf "_law_due" "_law_due" (defArgs sDue) (defBody sDue) (defScope sDue) .none kV_due dc_due pm_due an_due cd_due ct_due), sl_due⟩) (v_due : PySem.W.codeIn K cd_due "_law_due" = true) (k_due : PySem.W.keepIn K (.ref g_due) = true)
    {g_call : Addr} {od_call an_call : Option Addr} {sl_call : Array (Option Value)} {oc_call kV_call dc_call pm_call cd_call ct_call : Value}
    (u_call : PySem.W.nsIn K mainGlobals "_law_call" = some (some (.ref g_call))) (l_call : K.lookup g_call = some ⟨oc_call, od_call, .func (PySem.W.fnOf "_law_call" "_law_call" (defArgs sCall) (defBody sCall) (defScope sCall) .none kV_call dc_call pm_call an_call cd_call ct_call), sl_call⟩) (v_call : PySem.W.codeIn K cd_call "_law_call" = true) (k_call : PySem.W.keepIn K (.ref g_call) = true)
    {g_asked : Addr} {od_asked an_asked : Option Addr} {sl_asked : Array (Option Value)} {oc_asked kV_asked dc_asked pm_asked cd_asked ct_asked : Value}
    (u_asked : PySem.W.nsIn K mainGlobals "_law_asked" = some (some (.ref g_asked))) (l_asked : K.lookup g_asked = some ⟨oc_asked, od_asked, .func (PySem.W.fnOf "_law_asked" "_law_asked" (defArgs sAsked) (defBody sAsked) (defScope sAsked) .none kV_asked dc_asked pm_asked an_asked cd_asked ct_asked), sl_asked⟩) (v_asked : PySem.W.codeIn K cd_asked "_law_asked" = true) (k_asked : PySem.W.keepIn K (.ref g_asked) = true)
    {g_manyr : Addr} {od_manyr an_manyr : Option Addr} {sl_manyr : Array (Option Value)} {oc_manyr kV_manyr dc_manyr pm_manyr cd_manyr ct_manyr : Value}
    (u_manyr : PySem.W.nsIn K mainGlobals "_law_many_right" = some (some (.ref g_manyr))) (l_manyr : K.lookup g_manyr = some ⟨oc_manyr, od_manyr, .func (PySem.W.fnOf "_law_many_right" "_law_many_right" (defArgs sManyR) (defBody sManyR) (defScope sManyR) .none kV_manyr dc_manyr pm_manyr an_manyr cd_manyr ct_manyr), sl_manyr⟩) (v_manyr : PySem.W.codeIn K cd_manyr "_law_many_right" = true) (k_manyr : PySem.W.keepIn K (.ref g_manyr) = true)
    {g_right : Addr} {od_right an_right : Option Addr} {sl_right : Array (Option Value)} {oc_right kV_right dc_right pm_right cd_right ct_right : Value}
    (u_right : PySem.W.nsIn K mainGlobals "_law_right" = some (some (.ref g_right))) (l_right : K.lookup g_right = some ⟨oc_right, od_right, .func (PySem.W.fnOf "_law_right" "_law_right" (defArgs sRight) (defBody sRight) (defScope sRight) .none kV_right dc_right pm_right an_right cd_right ct_right), sl_right⟩) (v_right : PySem.W.codeIn K cd_right "_law_right" = true) (k_right : PySem.W.keepIn K (.ref g_right) = true)
    {g_law : Addr} {od_law an_law : Option Addr} {sl_law : Array (Option Value)} {oc_law kV_law dc_law pm_law cd_law ct_law : Value}
    (u_law : PySem.W.nsIn K mainGlobals "law" = some (some (.ref g_law))) (l_law : K.lookup g_law = some ⟨oc_law, od_law, .func (PySem.W.fnOf "law" "law" (defArgs sLaw) (defBody sLaw) (defScope sLaw) .none kV_law dc_law pm_law an_law cd_law ct_law), sl_law⟩) (v_law : PySem.W.codeIn K cd_law "law" = true) (k_law : PySem.W.keepIn K (.ref g_law) = true)
    (zz : (["len", "abs", "max", "min", "int", "divmod", "repr", "isinstance", "enumerate", "range", "all", "super", "tuple", "bool", "str", "list", "zip", "ValueError"].map fun x => PySem.W.nsIn K mainGlobals (Str.ofString x)) = [some none, some none, some none, some none, some none, some none, some none, some none, some none, some none, some none, some none, some none, some none, some none, some none, some none, some none])
    {t_MOST : Nat} (c_MOST : PySem.W.nsIn K mainGlobals "MOST" = some (some (.int 60 t_MOST)))
    {t_MOST_TOKENS : Nat} (c_MOST_TOKENS : PySem.W.nsIn K mainGlobals "MOST_TOKENS" = some (some (.int 180 t_MOST_TOKENS)))
    {CB : Addr}
    (x_cb : PySem.W.nsIn K mainGlobals "InputError" = some (some (.ref CB)))
    (x_ap : Apart5 K C_InvalidRow C_InvalidResolution CB)
    : ∃ fd : FuncData, (∀ (s : Shared) (v : Value), BindsTo s fd ⟨[v], []⟩ [("_law_script", v)]) ∧ ∀ base : Heap, K.In base → base.Ns mainGlobals mg → FnG prg w K mg base 11 fa fd ["_law_script"] (spLaw K) := by
  have e := hfa.symm.trans (PySem.W.mg_of X G u_law)
  cases e
  have zb : ∀ x ∈ (["len", "abs", "max", "min", "int", "divmod", "repr", "isinstance", "enumerate", "range", "all", "super", "tuple", "bool", "str", "list", "zip", "ValueError"] : List String), mg (Str.ofString x) = none := fun x hx => PySem.W.mg_none_of X G (by
    have e : ∀ y ∈ (["len", "abs", "max", "min", "int", "divmod", "repr", "isinstance", "enumerate", "range", "all", "super", "tuple", "bool", "str", "list", "zip", "ValueError"] : List String), (fun x => PySem.W.nsIn K mainGlobals (Str.ofString x)) y = (fun _ => some none) y := List.map_inj_left.mp (zz.trans rfl)
    exact e x hx)
  have T : Blt mg := ⟨fun x hx => by
    simp only [List.mem_cons, List.not_mem_nil, or_false] at hx
    rcases hx with rfl | rfl | rfl | rfl | rfl | rfl | rfl | rfl | rfl | rfl | rfl | rfl | rfl | rfl | rfl | rfl <;> exact zb _ (by decide)⟩
  have X_InvalidRow := xok_InvalidRow X G a_InvalidRow b_InvalidRow i_InvalidRow S_InvalidRow
  have X_InvalidResolution := xok_InvalidResolution X G a_InvalidResolution b_InvalidResolution i_InvalidResolution S_InvalidResolution
  have M_MOST := PySem.W.mg_of X G c_MOST
  have M_MOST_TOKENS := PySem.W.mg_of X G c_MOST_TOKENS
  have F_whole := fun_mk (st := sWhole) l_whole v_whole k_whole
  have b_whole := F_whole.binds (ps := ["value"]) fun _ _ _ _ _ _ us hl => match us, hl with | [_], _ => rfl
  have m_whole := PySem.W.mg_of X G u_whole
  have F_islist := fun_mk (st := sIsList) l_islist v_islist k_islist
  have b_islist := F_islist.binds (ps := ["value"]) fun _ _ _ _ _ _ us hl => match us, hl with | [_], _ => rfl
  have m_islist := PySem.W.mg_of X G u_islist
  have F_tup := fun_mk (st := sIsTuple) l_tup v_tup k_tup
  have b_tup := F_tup.binds (ps := ["value", "many"]) fun _ _ _ _ _ _ us hl => match us, hl with | [_, _], _ => rfl
  have m_tup := PySem.W.mg_of X G u_tup
  have F_line := fun_mk (st := sLine) l_line v_line k_line
  have b_line := F_line.binds (ps := ["value"]) fun _ _ _ _ _ _ us hl => match us, hl with | [_], _ => rfl
  have m_line := PySem.W.mg_of X G u_line
  have F_isclash := fun_mk (st := sIsClash) l_isclash v_isclash k_isclash
  have b_isclash := F_isclash.binds (ps := ["token"]) fun _ _ _ _ _ _ us hl => match us, hl with | [_], _ => rfl
  have m_isclash := PySem.W.mg_of X G u_isclash
  have F_lines := fun_mk (st := sLines) l_lines v_lines k_lines
  have b_lines := F_lines.binds (ps := ["value"]) fun _ _ _ _ _ _ us hl => match us, hl with | [_], _ => rfl
  have m_lines := PySem.W.mg_of X G u_lines
  have F_clashl := fun_mk (st := sClashL) l_clashl v_clashl k_clashl
  have b_clashl := F_clashl.binds (ps := ["value"]) fun _ _ _ _ _ _ us hl => match us, hl with | [_], _ => rfl
  have m_clashl := PySem.W.mg_of X G u_clashl
  have F_isrow := fun_mk (st := sIsRow) l_isrow v_isrow k_isrow
  have b_isrow := F_isrow.binds (ps := ["value"]) fun _ _ _ _ _ _ us hl => match us, hl with | [_], _ => rfl
  have m_isrow := PySem.W.mg_of X G u_isrow
  have F_chk := fun_mk (st := sChkRow) l_chk v_chk k_chk
  have b_chk := F_chk.binds (ps := ["row"]) fun _ _ _ _ _ _ us hl => match us, hl with | [_], _ => rfl
  have m_chk := PySem.W.mg_of X G u_chk
  have F_clashes := fun_mk (st := sClashes) l_clashes v_clashes k_clashes
  have b_clashes := F_clashes.binds (ps := ["row"]) fun _ _ _ _ _ _ us hl => match us, hl with | [_], _ => rfl
  have m_clashes := PySem.W.mg_of X G u_clashes
  have F_isside := fun_mk (st := sIsSide) l_isside v_isside k_isside
  have b_isside := F_isside.binds (ps := ["value"]) fun _ _ _ _ _ _ us hl => match us, hl with | [_], _ => rfl
  have m_isside := PySem.W.mg_of X G u_isside
  have F_los := fun_mk (st := sLos) l_los v_los k_los
  have b_los := F_los.binds (ps := ["clash", "side"]) fun _ _ _ _ _ _ us hl => match us, hl with | [_, _], _ => rfl
  have m_los := PySem.W.mg_of X G u_los
  have F_resolved := fun_mk (st := sResolved) l_resolved v_resolved k_resolved
  have m_resolved := PySem.W.mg_of X G u_resolved
  have F_pot := fun_mk (st := sPot) l_pot v_pot k_pot
  have b_pot := F_pot.binds (ps := ["_law_script", "_law_index"]) fun _ _ _ _ _ _ us hl => match us, hl with | [_, _], _ => rfl
  have m_pot := PySem.W.mg_of X G u_pot
  have F_draw := fun_mk (st := sDraw) l_draw v_draw k_draw
  have b_draw := F_draw.binds (ps := ["_law_pot_here", "_law_many"]) fun _ _ _ _ _ _ us hl => match us, hl with | [_, _], _ => rfl
  have m_draw := PySem.W.mg_of X G u_draw
  have F_pick := fun_mk (st := sPick) l_pick v_pick k_pick
  have b_pick := F_pick.binds (ps := ["_law_pot_here", "_law_some"]) fun _ _ _ _ _ _ us hl => match us, hl with | [_, _], _ => rfl
  have m_pick := PySem.W.mg_of X G u_pick
  have F_lnl := fun_mk (st := sLinesL) l_lnl v_lnl k_lnl
  have b_lnl := F_lnl.binds (ps := ["_law_pot_here"]) fun _ _ _ _ _ _ us hl => match us, hl with | [_], _ => rfl
  have m_lnl := PySem.W.mg_of X G u_lnl
  have F_fresh := fun_mk (st := sFresh) l_fresh v_fresh k_fresh
  have b_fresh := F_fresh.binds (ps := ["_law_pot_here"]) fun _ _ _ _ _ _ us hl => match us, hl with | [_], _ => rfl
  have m_fresh := PySem.W.mg_of X G u_fresh
  have F_tokens := fun_mk (st := sTokens) l_tokens v_tokens k_tokens
  have b_tokens := F_tokens.binds (ps := ["_law_pot_here", "_law_most"]) fun _ _ _ _ _ _ us hl => match us, hl with | [_, _], _ => rfl
  have m_tokens := PySem.W.mg_of X G u_tokens
  have F_side := fun_mk (st := sSideP) l_side v_side k_side
  have b_side := F_side.binds (ps := ["_law_pot_here"]) fun _ _ _ _ _ _ us hl => match us, hl with | [_], _ => rfl
  have m_side := PySem.W.mg_of X G u_side
  have F_llo := fun_mk (st := sLlo) l_llo v_llo k_llo
  have b_llo := F_llo.binds (ps := ["_law_side_here", "_law_token"]) fun _ _ _ _ _ _ us hl => match us, hl with | [_, _], _ => rfl
  have m_llo := PySem.W.mg_of X G u_llo
  have F_due := fun_mk (st := sDue) l_due v_due k_due
  have b_due := F_due.binds (ps := ["_law_tokens_here", "_law_sides"]) fun _ _ _ _ _ _ us hl => match us, hl with | [_, _], _ => rfl
  have m_due := PySem.W.mg_of X G u_due
  have F_call := fun_mk (st := sCall) l_call v_call k_call
  have b_call := F_call.binds (ps := ["_law_value", "_law_sides"]) fun _ _ _ _ _ _ us hl => match us, hl with | [_, _], _ => rfl
  have m_call := PySem.W.mg_of X G u_call
  have F_asked := fun_mk (st := sAsked) l_asked v_asked k_asked
  have b_asked := F_asked.binds (ps := ["_law_value", "_law_sides"]) fun _ _ _ _ _ _ us hl => match us, hl with | [_, _], _ => rfl
  have m_asked := PySem.W.mg_of X G u_asked
  have F_manyr := fun_mk (st := sManyR) l_manyr v_manyr k_manyr
  have b_manyr := F_manyr.binds (ps := ["_law_pot_here"]) fun _ _ _ _ _ _ us hl => match us, hl with | [_], _ => rfl
  have m_manyr := PySem.W.mg_of X G u_manyr
  have F_right := fun_mk (st := sRight) l_right v_right k_right
  have b_right := F_right.binds (ps := ["_law_pot_here"]) fun _ _ _ _ _ _ us hl => match us, hl with | [_], _ => rfl
  have m_right := PySem.W.mg_of X G u_right
  have F_law := fun_mk (st := sLaw) l_law v_law k_law
  have b_law := F_law.binds (ps := ["_law_script"]) fun _ _ _ _ _ _ us hl => match us, hl with | [_], _ => rfl
  have m_law := PySem.W.mg_of X G u_law
  refine ⟨PySem.W.fnOf "law" "law" (defArgs sLaw) (defBody sLaw) (defScope sLaw) .none kV_law dc_law pm_law an_law cd_law ct_law, fun s v => .of_eq rfl, fun base _ _ => ?_⟩
  have G_lines := ok_lines (P := prg) (w := w) (base := base) F_lines T M_MOST F_line b_line m_line
  have G_clashl := ok_clashL (P := prg) (w := w) (base := base) F_clashl T M_MOST F_tup b_tup m_tup F_whole b_whole m_whole F_lines G_lines b_lines m_lines
  have G_isrow := ok_isRow (P := prg) (w := w) (base := base) F_isrow T M_MOST_TOKENS F_line b_line m_line F_clashl G_clashl b_clashl m_clashl
  have G_chk := ok_chkRow (P := prg) (w := w) (base := base) F_chk (T.all "super" (by decide)) X_InvalidRow F_isrow G_isrow b_isrow m_isrow
  have G_clashes := ok_clashes (P := prg) (w := w) (base := base) F_clashes T F_chk G_chk b_chk m_chk F_isclash b_isclash m_isclash
  have G_isside := ok_isSide (P := prg) (w := w) (base := base) F_isside T F_islist b_islist m_islist F_line b_line m_line
  have G_los := ok_los (P := prg) (w := w) (base := base) F_los T
  have G_resolved := ok_resolved (P := prg) (w := w) (base := base) l_resolved v_resolved (T.all "super" (by decide)) (zb "zip" (by decide)) T X_InvalidResolution F_clashes G_clashes b_clashes m_clashes F_isside G_isside b_isside m_isside F_los G_los b_los m_los
  have G_pot := ok_pot (P := prg) (w := w) (base := base) F_pot T
  have G_draw := ok_draw (P := prg) (w := w) (base := base) F_draw T
  have G_pick := ok_pick (P := prg) (w := w) (base := base) F_pick T F_draw b_draw m_draw
  have DR : Draws prg w K mg base _ _ _ _ := ⟨F_draw, G_draw, b_draw, m_draw, F_pick, G_pick, b_pick, m_pick⟩
  have G_lnl := ok_linesL (P := prg) (w := w) (base := base) F_lnl T DR
  have G_fresh := ok_fresh (P := prg) (w := w) (base := base) F_fresh T DR F_lnl G_lnl b_lnl m_lnl
  have G_tokens := ok_tokens (P := prg) (w := w) (base := base) F_tokens T DR F_fresh G_fresh b_fresh m_fresh
  have G_side := ok_sideP (P := prg) (w := w) (base := base) F_side DR
  have G_llo := ok_llo (P := prg) (w := w) (base := base) F_llo T
  have G_due := ok_due (P := prg) (w := w) (base := base) F_due T F_llo G_llo b_llo m_llo
  have G_call := ok_call (P := prg) (w := w) (base := base) F_call T G_resolved k_resolved m_resolved
  have G_asked := ok_asked (P := prg) (w := w) (base := base) F_asked T x_ap F_call G_call b_call m_call X_InvalidRow X_InvalidResolution (PySem.W.mg_of X G x_cb) (zb "ValueError" (by decide))
  have G_manyr := ok_manyR (P := prg) (w := w) (base := base) F_manyr T DR x_ap F_fresh G_fresh b_fresh m_fresh F_due G_due b_due m_due G_resolved k_resolved m_resolved X_InvalidResolution
  have G_right := ok_right (P := prg) (w := w) (base := base) F_right T DR F_tokens G_tokens b_tokens m_tokens F_side G_side b_side m_side F_due G_due b_due m_due F_asked G_asked b_asked m_asked F_manyr G_manyr b_manyr m_manyr
  exact ok_law F_law T F_pot G_pot b_pot m_pot F_right G_right b_right m_right
theorem walk {l : PySem.W.OpenLaw} {q : Program} {loose : List Str} {XP : (Str → Option Value) → Heap → Prop} {YP : World → Heap → Prop} {d : DefRec} {K : Params → PySem.W.Frag} (hn : l.most = some 63) (hdf : d.params.defaults = [])
    (hY : ∀ (w : World) (h : Heap), YP w h → (K w.params).In h)
    (F : ∀ (w : World) (mg : Str → Option Value) (fa : Addr) (h : Heap), (K w.params).In h → h.Ns mainGlobals mg → mg d.name = some (.ref fa) →
      ∃ fd : FuncData, (∀ (s : Shared) (u : Value), BindsTo s fd ⟨[u], []⟩ [("_law_script", u)]) ∧ ∀ base : Heap, (K w.params).In base → base.Ns mainGlobals mg → FnG l.prog w (K w.params) mg base 11 fa fd ["_law_script"] (spLaw (K w.params))) :
    PySem.W.WalkO q loose XP YP l.row.toRowW d [] (fun f vs => PySem.call f vs) :=
  walkG (n := 63) (k := 11) (x := "_law_script") (sp := fun w => spLaw (K w.params)) hn (by decide) hdf ⟨rfl, by decide, by decide⟩ hY F (fun _ _ a ns hl _ hS => ⟨a, ns, rfl, hS, hl, fun _ => rfl⟩)
end K65
open PySem PySem.W PyProof.Rows
set_option maxRecDepth 100000 in
set_option maxHeartbeats 0 in
theorem PySem.Challenge.cw_alldiffs_k65_clashes_resolved_holds : PySem.Challenge.rw_alldiffs_k65_clashes_resolved.Holds := by
  w_on; o_law; k_headL; (case hw => w_witness2)
  k_fill
  refine K65.walk (l := PySem.Challenge.rw_alldiffs_k65_clashes_resolved) rfl rfl (fun w h Y => PySem.W.kIn_of Y) ?F
  case F =>
    intro w mg fa h KX G hmg
    refine' K65.all_mk KX G hmg ?a_InvalidRow ?b_InvalidRow ?i_InvalidRow ?S_InvalidRow ?a_InvalidResolution ?b_InvalidResolution ?i_InvalidResolution ?S_InvalidResolution ?u_whole ?l_whole ?v_whole ?k_whole ?u_islist ?l_islist ?v_islist ?k_islist ?u_tup ?l_tup ?v_tup ?k_tup ?u_line ?l_line ?v_line ?k_line ?u_isclash ?l_isclash ?v_isclash ?k_isclash ?u_lines ?l_lines ?v_lines ?k_lines ?u_clashl ?l_clashl ?v_clashl ?k_clashl ?u_isrow ?l_isrow ?v_isrow ?k_isrow ?u_chk ?l_chk ?v_chk ?k_chk ?u_clashes ?l_clashes ?v_clashes ?k_clashes ?u_isside ?l_isside ?v_isside ?k_isside ?u_los ?l_los ?v_los ?k_los ?u_resolved ?l_resolved ?v_resolved ?k_resolved ?u_pot ?l_pot ?v_pot ?k_pot ?u_draw ?l_draw ?v_draw ?k_draw ?u_pick ?l_pick ?v_pick ?k_pick ?u_lnl ?l_lnl ?v_lnl ?k_lnl ?u_fresh ?l_fresh ?v_fresh ?k_fresh ?u_tokens ?l_tokens ?v_tokens ?k_tokens ?u_side ?l_side ?v_side ?k_side ?u_llo ?l_llo ?v_llo ?k_llo ?u_due ?l_due ?v_due ?k_due ?u_call ?l_call ?v_call ?k_call ?u_asked ?l_asked ?v_asked ?k_asked ?u_manyr ?l_manyr ?v_manyr ?k_manyr ?u_right ?l_right ?v_right ?k_right ?u_law ?l_law ?v_law ?k_law ?zz ?c_MOST ?c_MOST_TOKENS ?x_cb ?x_ap
    (case a_InvalidRow => k_is); (case b_InvalidRow => k_is); (case i_InvalidRow => exact ⟨_, _, _, _, _, _, _, _, rfl⟩)
    (case a_InvalidResolution => k_is); (case b_InvalidResolution => k_is); (case i_InvalidResolution => exact ⟨_, _, _, _, _, _, _, _, rfl⟩)
    (case u_whole => k_is); (case l_whole => k_is); (case v_whole => k_is); (case k_whole => k_is)
    (case u_islist => k_is); (case l_islist => k_is); (case v_islist => k_is); (case k_islist => k_is)
    (case u_tup => k_is); (case l_tup => k_is); (case v_tup => k_is); (case k_tup => k_is)
    (case u_line => k_is); (case l_line => k_is); (case v_line => k_is); (case k_line => k_is)
    (case u_isclash => k_is); (case l_isclash => k_is); (case v_isclash => k_is); (case k_isclash => k_is)
    (case u_lines => k_is); (case l_lines => k_is); (case v_lines => k_is); (case k_lines => k_is)
    (case u_clashl => k_is); (case l_clashl => k_is); (case v_clashl => k_is); (case k_clashl => k_is)
    (case u_isrow => k_is); (case l_isrow => k_is); (case v_isrow => k_is); (case k_isrow => k_is)
    (case u_chk => k_is); (case l_chk => k_is); (case v_chk => k_is); (case k_chk => k_is)
    (case u_clashes => k_is); (case l_clashes => k_is); (case v_clashes => k_is); (case k_clashes => k_is)
    (case u_isside => k_is); (case l_isside => k_is); (case v_isside => k_is); (case k_isside => k_is)
    (case u_los => k_is); (case l_los => k_is); (case v_los => k_is); (case k_los => k_is)
    (case u_resolved => k_is); (case l_resolved => k_is); (case v_resolved => k_is); (case k_resolved => k_is)
    (case u_pot => k_is); (case l_pot => k_is); (case v_pot => k_is); (case k_pot => k_is)
    (case u_draw => k_is); (case l_draw => k_is); (case v_draw => k_is); (case k_draw => k_is)
    (case u_pick => k_is); (case l_pick => k_is); (case v_pick => k_is); (case k_pick => k_is)
    (case u_lnl => k_is); (case l_lnl => k_is); (case v_lnl => k_is); (case k_lnl => k_is)
    (case u_fresh => k_is); (case l_fresh => k_is); (case v_fresh => k_is); (case k_fresh => k_is)
    (case u_tokens => k_is); (case l_tokens => k_is); (case v_tokens => k_is); (case k_tokens => k_is)
    (case u_side => k_is); (case l_side => k_is); (case v_side => k_is); (case k_side => k_is)
    (case u_llo => k_is); (case l_llo => k_is); (case v_llo => k_is); (case k_llo => k_is)
    (case u_due => k_is); (case l_due => k_is); (case v_due => k_is); (case k_due => k_is)
    (case u_call => k_is); (case l_call => k_is); (case v_call => k_is); (case k_call => k_is)
    (case u_asked => k_is); (case l_asked => k_is); (case v_asked => k_is); (case k_asked => k_is)
    (case u_manyr => k_is); (case l_manyr => k_is); (case v_manyr => k_is); (case k_manyr => k_is)
    (case u_right => k_is); (case l_right => k_is); (case v_right => k_is); (case k_right => k_is)
    (case u_law => k_is); (case l_law => k_is); (case v_law => k_is); (case k_law => k_is)
    (case c_MOST => k_is)
    (case c_MOST_TOKENS => k_is)
    (case S_InvalidRow => exact ⟨by kernel_rfl, by kernel_rfl, by kernel_rfl, by kernel_rfl, by kernel_rfl, by kernel_rfl, by kernel_rfl, by kernel_rfl, by kernel_rfl, by kernel_rfl, by kernel_rfl, by kernel_rfl, by kernel_rfl, by kernel_rfl, by kernel_rfl, by kernel_rfl, by kernel_rfl, by kernel_rfl, by kernel_rfl, by kernel_rfl, by kernel_rfl, by kernel_rfl, by kernel_rfl, by kernel_rfl⟩)
    (case S_InvalidResolution => exact ⟨by kernel_rfl, by kernel_rfl, by kernel_rfl, by kernel_rfl, by kernel_rfl, by kernel_rfl, by kernel_rfl, by kernel_rfl, by kernel_rfl, by kernel_rfl, by kernel_rfl, by kernel_rfl, by kernel_rfl, by kernel_rfl, by kernel_rfl, by kernel_rfl, by kernel_rfl, by kernel_rfl, by kernel_rfl, by kernel_rfl, by kernel_rfl, by kernel_rfl, by kernel_rfl, by kernel_rfl⟩)
    (case zz => kernel_rfl)
    (case x_cb => k_is)
    (case x_ap => exact ⟨by kernel_rfl, by kernel_rfl, by kernel_rfl, by kernel_rfl, by kernel_rfl⟩)
