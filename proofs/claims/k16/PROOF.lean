import PyProof.Rows.All
import Wide.All
import OpenK.AllK
import Wide.FinOn
import KE.OsRunLaw
import KE.KExcIs
import KE.KExcTry
import KE.KExcSuper
import HandS.Exc
import HandS.ExcInit
import HandS.ExcSuper
import HandS.ForMost
import HandS.RaiseMore
import PyProof.ReprRoads
import HandS.ExcIs
import HandS.Walk
import HandS.Style
import HandS.Star
import HandS.IsInst
import HandS.Text
import HandS.Zip
import HandS.TupAny
import HandS.WordsExc
import HandS.DictComp
import KE.KRevSl
import KE.KDictPairs
import HandS.TryMany
import PySem.Challenge.RW_alldiffs_k16_whole_diffs_joined
set_option Elab.async false
set_option maxRecDepth 100000
set_option maxHeartbeats 8000000
set_option linter.all false
/-! An exception of a class of the text, made by a call with positions and keywords. -/
namespace XR
open PySem PySem.W PySem.Calls
section
variable {P : Program} {w : World} {M : Model} {A : Around} {E : Value → Shared → Prop} {R : Result → Shared → Prop} {h : Heap} {g : Array GenState} {d : Drawn} {t : Nat} {os : OsState}
variable {nm q : Str} {C N : Addr} {bs bm bmB : List Value} {hdct : Bool} {sn : List Str} {sub : List Value} {ab : Bool} {col : Option Bool} {dd : Option Addr} {k0 k1 k2 k3 k5 : Option Value} {B newId initId : String}

theorem newChecked (F : ExcBaseFacts B newId initId bmB) (hT : ∀ X : String, bm.contains (.type X) = bmB.contains (.type X)) {us : List Value} {kw : List (Str × Value)} {Q : Unit → Shared → Prop}
    (hC : h.get? C = some (excClassObj nm q C N bs bm hdct sn sub ab col dd k0 k1 k2 k3 k5 newId)) (z : Q () ⟨h, g, d, t, os⟩) : wpAny M A (checkBuiltinCall newId ⟨.ref C :: us, kw⟩) Q E ⟨h, g, d, t, os⟩ := by
  have c1 : (Value.ref C :: bm).contains (.type B) = true := by rw [List.contains_cons, hT, F.hasB, Bool.or_true]
  have c2 := F.noStar
  simp only [checkBuiltinCall, F.newKind, F.newSplit, F.newRow]
  repeat (first
    | refine wpAny_loadPart_at hC ?_
    | (refine wpAny_isSubtype_exc hC ?_; rw [c1])
    | refine wpAny_staticBase_exc hC ?_
    | refine wpAny_madeBy_exc hC ?_
    | simp only [bne_self_eq_false, Bool.false_eq_true, if_false]
    | wp_step)
  exact z

/-- BaseException.__new__ of such a class: the args from the positions alone -/
theorem newRuns (F : ExcBaseFacts B newId initId bmB) (hT : ∀ X : String, bm.contains (.type X) = bmB.contains (.type X)) {us : List Value} {kw : List (Str × Value)}
    (hC : h.get? C = some (excClassObj nm q C N bs bm hdct sn sub ab col dd k0 k1 k2 k3 k5 newId)) (hl : us.length ≤ sizeLine)
    (z : R (.ok (.ret (.ref (h.objs.size + 1)))) ⟨(h.push (kdv_tup us)).push (excObj C h.objs.size none .none), g, d, t, os⟩) :
    codeAny (model P w) A (.builtin newId ⟨.ref C :: us, kw⟩) R ⟨h, g, d, t, os⟩ := by
  have c0 := F.ends
  have c1 : (Value.ref C :: bm).contains (.type B) = true := by rw [List.contains_cons, hT, F.hasB, Bool.or_true]
  have c2 : (Value.ref C :: bm).contains (.type "AttributeError") = false := by rw [List.contains_cons, hT, F.noAttr]; rfl
  have c3 : (Value.ref C :: bm).contains (.type "NameError") = false := by rw [List.contains_cons, hT, F.noName]; rfl
  refine codeAny_builtinAt F.entry ?_
  unfold Builtin.«BaseException.__new__»
  refine wpAt_bind ?_
  show PySem.wpAt _ _ _ (stack >>= _) _ _ _
  refine wpAt_bind (wpAt_stack fun p below => wpAt_of_wpAny ?_)
  wp_walk
  refine wpAt_of_wpAny ?_
  rw [F.owner]
  repeat (first
    | with_reducible refine wpAny_madeHere_exc F.canon hC ?_
    | with_reducible refine wpAny_loadPart_at hC ?_
    | (with_reducible refine wpAny_isSubtype_exc hC ?_; first | rw [c1] | rw [c2] | rw [c3])
    | wp_step)
  show R _ _
  rw [Heap.size_push]
  exact z

theorem typeCall (F : ExcBaseFacts B newId initId bmB) (hT : ∀ X : String, bm.contains (.type X) = bmB.contains (.type X)) {us : List Value} {kw : List (Str × Value)} {fI : Addr} {Q : Fin → Shared → Prop}
    (hC : h.get? C = some (excClassObj nm q C N bs bm hdct sn sub ab col dd k0 k1 k2 k3 k5 newId))
    (hi : Looks (model P w) h (typeLookup (.ref C) "__init__") (some (.ref fI))) (hb : ∀ self, Looks (model P w) h (bindSpecial (.ref fI) self) (.ref fI, [self])) (hl : us.length ≤ sizeLine)
    (z : codeAny (model P w) A (.call (.ref fI) ⟨.ref (h.objs.size + 1) :: us, kw⟩)
      (fun r s' => match r with | .ok (.ret v) => v = .none ∧ Q (.done (.ret (.ref (h.objs.size + 1)))) s' | .ok _ => False | .error e => E e s')
      ⟨(h.push (kdv_tup us)).push (excObj C h.objs.size none .none), g, d, t, os⟩) :
    wpAny (model P w) A (Builtin.«type.__call__» ⟨.ref C :: us, kw⟩) Q E ⟨h, g, d, t, os⟩ := by
  repeat (first
    | with_reducible refine wpAny_loadPart_at hC ?_
    | with_reducible refine wpAny_madeBy_exc hC ?_
    | wp_step)
  refine codeAny_call_builtin_code (Code.quiet_builtin _ F.quiet) (newChecked F hT hC ?_)
  refine newRuns F hT hC hl ?_
  show wpAny _ _ _ _ _ _
  have k : ∀ b o, h.get? b = some o → ((h.push (kdv_tup us)).push (excObj C h.objs.size none .none)).get? b = some o := fun b o e => Heap.get?_push_of_some _ (Heap.get?_push_of_some _ e)
  have c4 := k _ _ hC
  have c5 : ((h.push (kdv_tup us)).push (excObj C h.objs.size none .none)).get? (h.objs.size + 1) = some (excObj C h.objs.size none .none) := by heap_get
  have c6 : (Value.ref C :: bm).contains (.ref C) = true := by simp
  have i1 := hi.keeps k
  have b1 := (hb (.ref (h.objs.size + 1))).keeps k
  unfold isInstance
  repeat (first
    | with_reducible refine wpAny_loadPart_at c5 ?_
    | (with_reducible refine wpAny_isSubtype_exc c4 ?_; rw [c6])
    | wp_step)
  show wpAny _ _ (typeLookup (.ref C) _) _ _ _
  refine i1.at ?_
  refine wpAny_holding (wpAny_bind (b1.at ?_))
  refine wpAny_bind (wpAny_call (codeAny_mono z fun r s' y => ?_))
  rcases r with e | (v | _ | _ | _) <;> first | exact y | exact y.elim | skip
  obtain ⟨rfl, y⟩ := y
  first
    | exact wpAny_pure (wpAny_pure y)
    | (wp_walk; exact y)

theorem callMade (F : ExcBaseFacts B newId initId bmB) (hT : ∀ X : String, bm.contains (.type X) = bmB.contains (.type X)) {us : List Value} {kw : List (Str × Value)} {fI : Addr}
    (hC : h.get? C = some (excClassObj nm q C N bs bm hdct sn sub ab col dd k0 k1 k2 k3 k5 newId))
    (hi : Looks (model P w) h (typeLookup (.ref C) "__init__") (some (.ref fI))) (hb : ∀ self, Looks (model P w) h (bindSpecial (.ref fI) self) (.ref fI, [self])) (hl : us.length ≤ sizeLine)
    (z : codeAny (model P w) (A.under (.builtin "type.__call__" ⟨.ref C :: us, kw⟩)) (.call (.ref fI) ⟨.ref (h.objs.size + 1) :: us, kw⟩) (InitBack (h.objs.size + 1) R)
      ⟨(h.push (kdv_tup us)).push (excObj C h.objs.size none .none), g, d, t, os⟩) :
    codeAny (model P w) A (.call (.ref C) ⟨us, kw⟩) R ⟨h, g, d, t, os⟩ := by
  have f1 := tc_lookup
  have f2 := tc_bind (.ref C)
  have f3 : (⟨h, g, d, t, os⟩ : Shared).TypeIs (.ref C) "type" := ⟨_, hC, rfl⟩
  refine codeAny_of_tree ?_
  show wpAny _ _ (callAny (.ref C) _) _ _ _
  repeat (any_goals (first | assumption | with_reducible refine wpAny_loadPart_at hC ?_ | wp_step))
  refine ⟨rfl, ?_⟩
  refine codeAny_call_builtin_at (Code.quiet_builtin _ (by decide +kernel)) entry_typeCall (wpAny_check_type_call_sub hC (typeCall F hT hC hi hb hl ?_))
  refine codeAny_mono z fun r s' y => ?_
  rcases r with e | (v | _ | _ | _) <;> exact y
end
end XR
namespace XR
open PySem PySem.W PySem.Calls
open Builtin Builtin.ObjectAttr
section
variable {P : Program} {w : World} {M : Model} {A : Around} {E : Value → Shared → Prop} {R : Result → Shared → Prop} {h : Heap} {g : Array GenState} {d : Drawn} {t : Nat} {os : OsState}
variable {K : Frag} {C e t1 dx : Addr} {B : String} {bmB : List Value} {f : Str} {v : Value} {Q : Unit → Shared → Prop}

/-- the first field of an exception: its dict is made -/
theorem storeFirst (SF : StoreFacts B bmB "object.__setattr__" "object") (X : K.In h) (he : h.get? e = some (excObj C t1 none .none)) (sa : findIn K (.ref C) "__setattr__" = some (some (.builtin "object.__setattr__")))
    (ov : excOver K C bmB = true) (di : hasDictIn K C = true) (tk : takerIn K C f = some none)
    (z : ∀ h' tk' dx, (∀ b o, b ≠ e → h.get? b = some o → h'.get? b = some o) → h.objs.size ≤ dx → dx ≠ e → h'.get? e = some (excObj C t1 (some dx) .none) → h'.Ns1 dx (fun y => if y = f then some v else none) → Q () ⟨h', g, d, tk', os⟩) :
    wpAny (model P w) A (setAttr (.ref e) f v) Q E ⟨h, g, d, t, os⟩ := by
  have I : W.InstAt h e (excObj C t1 none .none) C none := ⟨he, rfl, rfl, trivial⟩
  refine set_plain X I sa ?_
  refine osa_openX (r := none) SF X I ov tk fun b => ?_
  obtain ⟨cd, hc, hd'⟩ := any_some di
  have hcls : Looks (model P w) h (classData C) cd := looks_clsIn X hc
  have hes : e ≠ h.objs.size := Nat.ne_of_lt (Heap.lt_size he)
  show wpAny _ _ (storeInOwnDict (.ref e) (.ref C) (.str f t) f v b) _ _ _
  obtain ⟨nm, bs, mro, ns, qn, hd, sn, sb, ab, col, del⟩ := cd
  dsimp only at hd'
  subst hd'
  unfold storeInOwnDict ownDictForStores
  repeat (first
    | with_reducible refine PySem.HandSPX.store_in_new ?_ ?_
    | with_reducible refine wpAny_loadPart_at he ?_
    | with_reducible refine hcls.at ?_
    | wp_step)
  · exact ⟨_, #[], _, (Heap.get?_update_ne _ _ _ _ hes.symm).trans (Heap.get?_push_at rfl rfl), rfl, fun e he => absurd he (by simp), fun _ => rfl⟩
  · intro h' tk' hn' hs
    have h1 : (h.push { cls := .type "dict", data := .dict #[] }).get? e = some (excObj C t1 none .none) := Heap.get?_push_of_some _ he
    refine z h' tk' h.objs.size (fun b o hb ho => ?_) (Nat.le_refl _) hes.symm ?_ hn'
    · exact (hs.2 b (Nat.ne_of_lt (Heap.lt_size ho))).trans ((Heap.get?_update_ne _ _ _ _ hb).trans (Heap.get?_push_of_some _ ho))
    · exact (hs.2 e hes).trans (Heap.get?_update_self _ h1 rfl)

/-- a further one -/
theorem storeNext {m0 : Str → Option Value} {ns : List Str} (SF : StoreFacts B bmB "object.__setattr__" "object") (X : K.In h) (he : h.get? e = some (excObj C t1 (some dx) .none)) (hn : h.Ns1 dx m0) (hw : Within m0 ns) (hz : ns.length ≤ 1000)
    (sa : findIn K (.ref C) "__setattr__" = some (some (.builtin "object.__setattr__"))) (ov : excOver K C bmB = true) (di : hasDictIn K C = true) (tk : takerIn K C f = some none)
    (z : ∀ h' tk', (∀ b o, b ≠ dx → h.get? b = some o → h'.get? b = some o) → h'.Ns1 dx (fun y => if y = f then some v else m0 y) → Q () ⟨h', g, d, tk', os⟩) :
    wpAny (model P w) A (setAttr (.ref e) f v) Q E ⟨h, g, d, t, os⟩ := by
  obtain ⟨oD, esD, epD, hoD, hdD, _⟩ := hn.count hw
  have I : W.InstAt h e (excObj C t1 (some dx) .none) C (some oD) := ⟨he, rfl, rfl, hoD⟩
  refine set_plain X I sa ?_
  refine osa_openX (r := none) SF X I ov tk fun b => ?_
  obtain ⟨cd, hc, hd'⟩ := any_some di
  have hcls : Looks (model P w) h (classData C) cd := looks_clsIn X hc
  show wpAny _ _ (storeInOwnDict (.ref e) (.ref C) (.str f t) f v b) _ _ _
  obtain ⟨nm, bs, mro, nsx, qn, hd, sn, sb, ab, col, del⟩ := cd
  dsimp only at hd'
  subst hd'
  unfold storeInOwnDict ownDictForStores
  repeat (first
    | with_reducible refine PySem.OEX.store_in_old hn hw hz ?_
    | with_reducible refine wpAny_loadPart_at he ?_
    | with_reducible refine hcls.at ?_
    | wp_step)
  intro h' tk' hn' hs
  exact z h' tk' (fun b o hb ho => (hs.2 b hb).trans ho) hn'
end
end XR
namespace XR
open PySem PySem.W PySem.Calls
/-- what the written part says of an exception class over the built-in B, and of its __init__ -/
structure XCls (K : Frag) (P : Program) (C fI cc cda : Addr) (B newId initId : String) (bmB : List Value) (fd : FuncData) : Prop where
  FB : ExcBaseFacts B newId initId bmB
  SF : StoreFacts B bmB "object.__setattr__" "object"
  KF : KxsFacts B initId
  ei : excInitIn K C bmB newId = true
  ov : excOver K C bmB = true
  di : hasDictIn K C = true
  sa : findIn K (.ref C) "__setattr__" = some (some (.builtin "object.__setattr__"))
  su : ks_superIn K C C "__init__" = some (some (.builtin initId))
  sb : subIn K (.ref C) (.type B) = some true
  me : mroIn K C (.ref C) = some true
  op : nsIn K cStatics "thirdparty.any" = some none
  ini : findIn K (.ref C) "__init__" = some (some (.ref fI))
  fn : isFn K (.ref fI) = true
  lk : ∃ oc od osl, K.lookup fI = some ⟨oc, od, .func fd, osl⟩
  cod : codeIn K (.ref cda) fd.qualname = true
  cdl : ∃ a b vs c file tf, K.lookup cda = some ⟨a, b, .fields vs, c⟩ ∧ vs[2]? = some (.str file tf) ∧ ((P.main.file : Str) == file) = true
  cel : ∃ a b c, K.lookup cc = some ⟨a, b, .cell (some (.ref C)), c⟩
  kp : keepIn K (.ref C) = true

/-- a store of a parameter -/
def stS (f p : Str) (a b c d : Pos) : Stmt := .Assign [.Attribute (.Name "self" a) f b] (.Name p c) d
def stSup (txt : Str) (k : Nat) (p0 p1 p2 p3 p4 p5 : Pos) : Stmt := .Expr (.Call (.Attribute (.Call (.Name "super" p0) [] [] p1) "__init__" p2) [.Constant (.str txt) k p3] [] p4) p5

section
variable {P : Program} {w : World} {A : Around} {h : Heap} {g : Array GenState} {d : Drawn} {t : Nat} {os : OsState}
variable {K : Frag} {C fI cc cda e t1 L : Addr} {B newId initId : String} {bmB : List Value} {fd : FuncData} {m mg mb : Str → Option Value} {qual : Str} {scope : Scope}

/-- super().__init__(text): the args are laid anew -/
theorem superRuns {body : List Stmt} {txt : Str} {k : Nat} {p0 p1 p2 p3 p4 p5 : Pos} {ar : Arg} {Q : Flow → Shared → Prop} {E : Value → Shared → Prop} (T : XCls K P C fI cc cda B newId initId bmB fd) (X : K.In h) (he : h.get? e = some (excObj C t1 none .none))
    (hn : h.Ns L m) (hv : m "self" = some (.ref e)) (hm : h.Ns mainGlobals mg) (hb : h.Ns builtinsNs mb) (m1 : mg "super" = none) (m2 : mb "super" = some (.type "super"))
    (hp : (fd.params.posonlyargs ++ fd.params.args).head? = some ar) (har : ar.arg = "self")
    (hks : scope.names.lookup ("super" : Str) = some .globalImplicit) (hkc : scope.names.lookup ("__class__" : Str) = some .free) (hka : scope.names.lookup ("self" : Str) = some .local) (hk : scope.kind = .function)
    (hev : ∃ pl, eval (.Call (.Attribute (.Call (.Name "super" p0) [] [] p1) "__init__" p2) [.Constant (.str txt) k p3] [] p4) (ksEnv qual scope L fI (.ref cda) cc) = (do
      let ov ← attributeBase (.Call (.Name "super" p0) [] [] p1) "__init__" (ksEnv qual scope L fI (.ref cda) cc) (eval (.Call (.Name "super" p0) [] [] p1) (ksEnv qual scope L fI (.ref cda) cc))
      standAt p2.atName
      let (f, first) ← holding [ov] (getMethod ov "__init__" pl)
      callWith p4 f first (backTo p4 (starEach [.Constant (.str txt) k p3] (ksEnv qual scope L fI (.ref cda) cc))) []))
    (htop : (P.main.scope.names.lookup ("super" : Str)).isSome = false) (heL : e ≠ L)
    (z : ∀ h' t2 tk, (∀ b o, b ≠ e → h.get? b = some o → h'.get? b = some o) → h'.get? e = some (excObj C t2 none .none) → Q .next ⟨h', g, d, tk, os⟩) :
    PySem.wpAt (model P w) A (.func body (ksEnv qual scope L fI (.ref cda) cc)) (exec (stSup txt k p0 p1 p2 p3 p4 p5) (ksEnv qual scope L fI (.ref cda) cc)) Q E ⟨h, g, d, t, os⟩ := by
  obtain ⟨kd, nms, ig, ic, mr⟩ := scope
  dsimp only at hk hks hkc hka hev
  obtain ⟨pl, hev⟩ := hev
  subst hk
  have hk : (⟨.function, nms, ig, ic, mr⟩ : Scope).kind = .function := rfl
  obtain ⟨oc, od, osl, lk⟩ := T.lk
  obtain ⟨a1, a2, vs, a3, file, tf, cdl, hvs, hfile⟩ := T.cdl
  obtain ⟨b1, b2, b3, cel⟩ := T.cel
  obtain ⟨nm, N', qn, bs, bm, hdct, sn, sub, ab, col, dd, k0, k1', k2, k3, k5, hC, hT⟩ := excInit_of X T.ei
  have I : W.InstAt h e (excObj C t1 none .none) C none := ⟨he, rfl, rfl, trivial⟩
  refine ks_wpAt_Expr_any ?_
  refine ks_wpAt_MethodCall (pl := pl) ?_ hev
  refine ks_wpAt_super_base (env := ksEnv qual ⟨.function, nms, ig, ic, mr⟩ L fI (.ref cda) cc) (attr := "__init__") hks hkc (by decide) rfl (X _ _ lk) rfl hp rfl (X _ _ cdl) rfl hvs hfile htop ?_
  have hD : ∃ oD cdD, h.get? C = some oD ∧ oD.data = .cls cdD := ⟨_, _, hC, rfl⟩
  obtain ⟨oD, cdD, hD1, hD2⟩ := hD
  refine ks_loadName_global hk hks (loadGlobal_builtin (env := ksEnv qual ⟨.function, nms, ig, ic, mr⟩ L fI (.ref cda) cc) hm m1 hb m2 ⟨rfl, ?_⟩)
  refine wpAny_loadName_free hk hkc rfl ⟨_, X _ _ cel, rfl⟩ ?_
  rw [har]
  refine wpAny_loadName_local hk hka hn hv ?_
  refine ks_wpAny_isType_cls hD1 hD2 ⟨rfl, ?_⟩
  refine ks_wpAny_call_super hD1 hD2 he rfl (fun c e => by cases e) (looks_mroIn X T.me) (fun h1 e1 k1 => ?_)
  have X1 : K.In h1 := X.keeps k1
  have he1 := k1 _ _ he
  obtain ⟨cdx, hcdx, hfx⟩ := Option.bind_eq_some_iff.mp (show (clsIn K C).bind (fun cd => alongIn K "__init__" ((cd.mro.dropWhile (· != .ref C)).drop 1)) = some (some (.builtin initId)) from T.su)
  have I1 : W.InstAt h1 e (excObj C t1 none .none) C none := ⟨he1, rfl, rfl, trivial⟩
  have hI : Looks (model P w) h1 (isInstance (.ref e) (.type B)) true := I1.type.andThen (looks_subIn X1 T.sb)
  refine kxs_getMethod T.KF e1 (looks_opaque X1 T.op) (l₀ := cdx.mro) ?_ rfl X1 hfx hI (ks_ne X1 I1 hcdx) (by decide) ?_
  · exact fun A Q E s k q => wpAny_bind ((looks_clsIn X1 hcdx) A _ E s k (wpAny_pure q))
  refine kxs_callWith (i := initId) (x := e) (by rfl) ?_
  have c1 : (h1.push (kxs_mw initId e)).get? h1.objs.size = some (kxs_mw initId e) := Heap.get?_push_at rfl rfl
  have c2 : ∀ b o, h1.get? b = some o → (h1.push (kxs_mw initId e)).get? b = some o := fun b o q => Heap.get?_push_of_some _ q
  refine evalArgs_plain (spliced_cons (Constant_str (k := k) (pos := p3) (spliced_nil ⟨c1, ?_⟩)))
  refine wpAny_call (codeAny_of_tree ?_)
  show wpAny _ A.in1 (callAny (.ref h1.objs.size) ⟨[.str txt _], []⟩) _ _ _
  simp only [callAny]
  refine wpAny_bind (wpAny_load c1 ?_)
  have c3 : (Value.type "method-wrapper" == Value.type "method" || Value.type "method-wrapper" == Value.type "builtin_function_or_method" || Value.type "method-wrapper" == Value.type "method-wrapper") = true := by decide
  simp only [kxs_mw, c3, if_true]
  refine KFB.if_so (by decide) ?_
  refine wpAny_bind (check_bound_init T.FB.toExcCallFacts (c2 _ _ (k1 _ _ hC)) (c2 _ _ he1) rfl ?_)
  refine wpAny_bind (wpAny_pure (wpAny_pure ?_))
  refine ⟨plainId_quiet T.FB.init.plain _, codeAny_builtin T.FB.initEntry ?_⟩
  refine exc_init_tree (cls := .ref C) (t0 := t1) (dv := none) (c2 := .none) (c3 := .none) (b4 := .bool false) (c2 _ _ he1) (by show 1 ≤ sizeLine; decide) fun h' k' e' t' => ?_
  exact z h' _ _ (fun b o hb q => k' b o hb (c2 b o (k1 b o q))) e'
end
end XR
namespace XR
open PySem PySem.W PySem.Calls
/-- a store of the body: the field, the parameter, its value -/
structure Sto where
  f : Str
  p : Str
  v : Value
  a : Pos
  b : Pos
  c : Pos
  d : Pos
def Sto.st (x : Sto) : Stmt := stS x.f x.p x.a x.b x.c x.d
/-- an exception at e with the fields fs, newest first; its dict stands at n0 or behind, and is not L -/
def Fl (n0 : Nat) (L e C : Addr) (fs : List (Str × Value)) (h : Heap) : Prop :=
  ∃ t1 : Addr, (fs = [] ∧ h.get? e = some (excObj C t1 none .none)) ∨
    ∃ dx : Addr, fs ≠ [] ∧ n0 ≤ dx ∧ dx ≠ e ∧ dx ≠ L ∧ h.get? e = some (excObj C t1 (some dx) .none) ∧ h.Ns1 dx (fun y => fs.lookup y)
theorem lookup_cons' (f y : Str) (v : Value) (fs : List (Str × Value)) : (if y = f then some v else fs.lookup y) = ((f, v) :: fs).lookup y := by
  by_cases q : y = f
  · subst q; simp [List.lookup]
  · have q' : (y == f) = false := by simpa using q
    rw [if_neg q]; simp [List.lookup, q']
theorem within_lookup : ∀ (fs : List (Str × Value)), Within (fun y => fs.lookup y) (fs.map (·.1))
  | [] => fun y hy => absurd rfl hy
  | (f, v) :: fs => fun y hy => by
    by_cases q : y = f
    · rw [q]; exact List.mem_cons_self ..
    · refine List.mem_cons_of_mem _ (within_lookup fs y ?_)
      have q' : (y == f) = false := by simpa using q
      simpa [List.lookup, q'] using hy
section
variable {P : Program} {w : World} {A : Around} {g : Array GenState} {d : Drawn} {os : OsState}
variable {K : Frag} {C fI cc cda e L : Addr} {n0 : Nat} {B newId initId : String} {bmB : List Value} {fd : FuncData} {m : Str → Option Value} {env : Env} {Q : Flow → Shared → Prop} {E : Value → Shared → Prop}

theorem storesRun (T : XCls K P C fI cc cda B newId initId bmB fd) (hK : ∀ b o, K.lookup b = some o → b < n0) (he0 : n0 ≤ e) (hL0 : n0 ≤ L) (heL : e ≠ L) (hl : env.locals = L) (hk : env.scope.kind = .function)
    (hself : env.kindOf "self" = some .local) (hv : m "self" = some (.ref e)) :
    ∀ (l : List Sto) (fs : List (Str × Value)) (h : Heap) (t : Nat), (∀ x ∈ l, m x.p = some x.v ∧ env.kindOf x.p = some .local ∧ (x.p == ("__debug__" : Str)) = false ∧ takerIn K C x.f = some none ∧ swapsWith (.Name x.p x.c) (some (.Attribute (.Name "self" x.a) x.f x.b)) x.d.line env = pure false) →
      fs.length + l.length ≤ 900 → K.In h → h.Ns L m → Fl n0 L e C fs h →
      (∀ h' tk, (∀ b o, b < n0 → h.get? b = some o → h'.get? b = some o) → Fl n0 L e C ((l.map fun x => (x.f, x.v)).reverse ++ fs) h' → Q .next ⟨h', g, d, tk, os⟩) →
      wpAny (model P w) A (execs (l.map Sto.st) env) Q E ⟨h, g, d, t, os⟩
  | [], fs, h, t, _, _, _, _, hF, z => wpAny_execs_nil (z h t (fun _ _ _ q => q) hF)
  | x :: l, fs, h, t, hx, hlen, X, hn, hF, z => by
    obtain ⟨x1, x2, x3, x4, x5⟩ := hx x (List.mem_cons_self ..)
    have hn' : h.Ns env.locals m := by rw [hl]; exact hn
    refine wpAny_execs_cons ?_
    show wpAny _ _ (exec (.Assign [.Attribute (.Name "self" x.a) x.f x.b] (.Name x.p x.c) x.d) env) _ _ _
    refine plainObj_wpAny_Assign_Attribute (wpAny_Name (wpAny_loadName_local hk x2 hn' x1 (wpAny_Name (wpAny_loadName_local hk hself hn' hv ?_) (by decide))) x3) x5
    have step : ∀ (h' : Heap) (tk : Nat), (∀ b o, (b < n0 ∨ b = L) → h.get? b = some o → h'.get? b = some o) → Fl n0 L e C ((x.f, x.v) :: fs) h' → wpAny (model P w) A (execs (l.map Sto.st) env) Q E ⟨h', g, d, tk, os⟩ := fun h' tk k hF' => by
      have X' : K.In h' := fun b o q => k b o (.inl (hK b o q)) (X b o q)
      have hn2 : h'.Ns L m := by
        obtain ⟨o, es, ep, ho, r⟩ := hn
        exact ⟨o, es, ep, k _ _ (.inr rfl) ho, r⟩
      refine storesRun T hK he0 hL0 heL hl hk hself hv l ((x.f, x.v) :: fs) h' tk (fun y hy => hx y (List.mem_cons_of_mem _ hy)) (by simp only [List.length_cons] at hlen ⊢; omega) X' hn2 hF' fun h2 tk2 k2 hF2 => ?_
      refine z h2 tk2 (fun b o hb q => k2 b o hb (k b o (.inl hb) q)) ?_
      simpa using hF2
    obtain ⟨t1, ⟨hf, he⟩ | ⟨dx, hf, hd0, hde, hdL, he, hns⟩⟩ := hF
    · subst hf
      refine storeFirst T.SF X he T.sa T.ov T.di x4 fun h' tk' dx k k0 kne hx' hn' => ?_
      refine step h' tk' (fun b o hb q => k b o ?_ q) ⟨t1, .inr ⟨dx, by simp, ?_, kne, ?_, hx', ?_⟩⟩
      · rcases hb with hb | hb
        · exact Nat.ne_of_lt (Nat.lt_of_lt_of_le hb he0)
        · rw [hb]; exact heL.symm
      · exact Nat.le_trans (Nat.le_trans he0 (Nat.le_of_lt (Heap.lt_size he))) k0
      · have : L < h.objs.size := by obtain ⟨o, _, _, ho, _⟩ := hn; exact Heap.lt_size ho
        exact (Nat.ne_of_lt (Nat.lt_of_lt_of_le this k0)).symm
      · have e1 : (fun y => if y = x.f then some x.v else none) = (fun y => [(x.f, x.v)].lookup y) := by funext y; exact lookup_cons' x.f y x.v []
        rw [e1] at hn'; exact hn'
    · refine storeNext T.SF X he hns (within_lookup fs) (by rw [List.length_map]; simp only [List.length_cons] at hlen; omega) T.sa T.ov T.di x4 fun h' tk' k hn' => ?_
      refine step h' tk' (fun b o hb q => k b o ?_ q) ⟨t1, .inr ⟨dx, by simp, hd0, hde, hdL, k _ _ hde.symm he, ?_⟩⟩
      · rcases hb with hb | hb
        · exact Nat.ne_of_lt (Nat.lt_of_lt_of_le hb hd0)
        · rw [hb]; exact hdL.symm
      · have e1 : (fun y => if y = x.f then some x.v else fs.lookup y) = (fun y => ((x.f, x.v) :: fs).lookup y) := by funext y; exact lookup_cons' x.f y x.v fs
        rw [e1] at hn'; exact hn'
end
end XR
namespace XR
open PySem PySem.W PySem.Calls
section
variable {P : Program} {w : World} {A : Around} {g : Array GenState} {d : Drawn} {t : Nat} {os : OsState} {hp h : Heap}
variable {K : Frag} {C fI cc cda e t1 : Addr} {n0 : Nat} {B newId initId : String} {bmB : List Value} {fd : FuncData} {mg mb : Str → Option Value} {R : Result → Shared → Prop} {Q : Value → Shared → Prop} {E : Value → Shared → Prop}

/-- how the text of an __init__ stands: super().__init__(txt), then the stores l -/
structure Shape (P : Program) (fd : FuncData) (fI cda cc : Addr) (txt : Str) (k : Nat) (p0 p1 p2 p3 p4 p5 : Pos) (l : List Sto) : Prop where
  eq : ∃ x qual params scope dV kV doc pm an ct, fd = ksFn x qual params (stSup txt k p0 p1 p2 p3 p4 p5 :: l.map Sto.st) scope dV kV doc pm an (.ref cda) ct cc ∧
    (∃ ar, (params.posonlyargs ++ params.args).head? = some ar ∧ ar.arg = "self") ∧ scope.names.lookup ("super" : Str) = some .globalImplicit ∧ scope.names.lookup ("__class__" : Str) = some .free ∧ scope.names.lookup ("self" : Str) = some .local ∧ scope.kind = .function ∧
    (∀ L : Addr, ∃ pl, eval (.Call (.Attribute (.Call (.Name "super" p0) [] [] p1) "__init__" p2) [.Constant (.str txt) k p3] [] p4) (ksEnv qual scope L fI (.ref cda) cc) = (do
      let ov ← attributeBase (.Call (.Name "super" p0) [] [] p1) "__init__" (ksEnv qual scope L fI (.ref cda) cc) (eval (.Call (.Name "super" p0) [] [] p1) (ksEnv qual scope L fI (.ref cda) cc))
      standAt p2.atName
      let (f, first) ← holding [ov] (getMethod ov "__init__" pl)
      callWith p4 f first (backTo p4 (starEach [.Constant (.str txt) k p3] (ksEnv qual scope L fI (.ref cda) cc))) [])) ∧
    (∀ x ∈ scope.names, x.2 ≠ .cell) ∧ scope.isCoroutine = false ∧ scope.isGenerator = false ∧
    (∀ L : Addr, ∀ x ∈ l, scope.names.lookup x.p = some .local ∧ (x.p == ("__debug__" : Str)) = false ∧ swapsWith (.Name x.p x.c) (some (.Attribute (.Name "self" x.a) x.f x.b)) x.d.line (ksEnv qual scope L fI (.ref cda) cc) = pure false)
  top : (P.main.scope.names.lookup ("super" : Str)).isSome = false

theorem initRuns {txt : Str} {k : Nat} {p0 p1 p2 p3 p4 p5 : Pos} {l : List Sto} {args : Args} {binds : List (Str × Value)} (T : XCls K P C fI cc cda B newId initId bmB fd) (S : Shape P fd fI cda cc txt k p0 p1 p2 p3 p4 p5 l)
    (hK : ∀ b o, K.lookup b = some o → b < n0) (he0 : n0 ≤ e) (hl : l.length ≤ 900)
    (X : K.In hp) (hm : hp.Ns mainGlobals mg) (hb : hp.Ns builtinsNs mb) (m1 : mg "super" = none) (m2 : mb "super" = some (.type "super")) (lim : hp.NoLimit) (room : A.depth < recursionLimit)
    (bt : BindsTo ⟨hp, g, d, t, os⟩ fd args binds) (hloc : ∀ x ∈ binds, fd.scope.names.lookup x.1 = some .local) (hself : binds.reverse.lookup ("self" : Str) = some (Value.ref e))
    (hx : ∀ x ∈ l, binds.reverse.lookup x.p = some x.v ∧ takerIn K C x.f = some none)
    (he : hp.get? e = some (excObj C t1 none .none))
    (z : ∀ h' tk, (∀ b o, b < n0 → hp.get? b = some o → h'.get? b = some o) → Fl n0 hp.objs.size e C (l.map fun x => (x.f, x.v)).reverse h' → R (.ok (.ret .none)) ⟨h', g, d, tk, os⟩) :
    codeAny (model P w) A (.call (.ref fI) args) R ⟨hp, g, d, t, os⟩ := by
  obtain ⟨x, qual, params, scope, dV, kV, doc, pm, an, ct, rfl, ⟨ar, hp1, har⟩, hks, hkc, hka, hk, hev, hcell, hco, hgen, hsw⟩ := S.eq
  obtain ⟨oc, od, osl, lk⟩ := T.lk
  have heL : e ≠ hp.objs.size := Nat.ne_of_lt (Heap.lt_size he)
  have hL0 : n0 ≤ hp.objs.size := Nat.le_trans he0 (Nat.le_of_lt (Heap.lt_size he))
  refine ks_codeAny_call_defAt (fd := ksFn x qual params (stSup txt k p0 p1 p2 p3 p4 p5 :: l.map Sto.st) scope dV kV doc pm an (.ref cda) ct cc) (body := stSup txt k p0 p1 p2 p3 p4 p5 :: l.map Sto.st) (binds := binds) room (X _ _ lk) rfl lim (codeRec_of X T.cod) rfl bt hcell hloc (fun h1 hns hk1 => ?_) hco hgen hk
  refine ks_wpAt_execs_cons ?_
  show PySem.wpAt (model P w) (A.deeper (ksEnv qual scope hp.objs.size fI (.ref cda) cc)) (.func (stSup txt k p0 p1 p2 p3 p4 p5 :: l.map Sto.st) (ksEnv qual scope hp.objs.size fI (.ref cda) cc)) (exec (stSup txt k p0 p1 p2 p3 p4 p5) (ksEnv qual scope hp.objs.size fI (.ref cda) cc)) _ _ _
  refine superRuns (t1 := t1) T (X.keeps hk1) (hk1 _ _ he) hns hself (hm.keeps hk1) (hb.keeps hk1) m1 m2 hp1 har hks hkc hka hk (hev _) S.top heL fun h2 t2 tk k2 he2 => ?_
  dsimp only
  refine wpAt_of_wpAny ?_
  have K2 : ∀ b o, b ≠ e → hp.get? b = some o → h2.get? b = some o := fun b o hb q => k2 b o hb (hk1 b o q)
  have X2 : K.In h2 := fun b o q => K2 b o (Nat.ne_of_lt (Nat.lt_of_lt_of_le (hK b o q) he0)) (X b o q)
  have hns2 : h2.Ns hp.objs.size (fun x => binds.reverse.lookup x) := by
    obtain ⟨o, es, ep, ho, r⟩ := hns
    exact ⟨o, es, ep, k2 _ _ heL.symm ho, r⟩
  refine storesRun (env := ksEnv qual scope hp.objs.size fI (.ref cda) cc) (m := fun x => binds.reverse.lookup x) T hK he0 hL0 heL rfl hk hka hself l [] h2 tk (fun y hy => ⟨(hx y hy).1, (hsw 0 y hy).1, (hsw 0 y hy).2.1, (hx y hy).2, (hsw _ y hy).2.2⟩) (by simpa using hl) X2 hns2 ⟨t2, .inl ⟨rfl, he2⟩⟩ fun h3 tk3 k3 F3 => ?_
  refine z h3 tk3 (fun b o hb q => k3 b o hb (K2 b o (Nat.ne_of_lt (Nat.lt_of_lt_of_le hb he0)) q)) ?_
  simpa using F3

/-- C(..): the exception stands with its fields -/
theorem made {txt : Str} {k : Nat} {p0 p1 p2 p3 p4 p5 : Pos} {l : List Sto} {us : List Value} {kw : List (Str × Value)} {binds : List (Str × Value)} (T : XCls K P C fI cc cda B newId initId bmB fd) (S : Shape P fd fI cda cc txt k p0 p1 p2 p3 p4 p5 l) (hl : l.length ≤ 900)
    (X : K.In h) (hm : h.Ns mainGlobals mg) (hb : h.Ns builtinsNs mb) (m1 : mg "super" = none) (m2 : mb "super" = some (.type "super")) (lim : h.NoLimit) (room : (A.under (.builtin "type.__call__" ⟨.ref C :: us, kw⟩)).depth < recursionLimit) (hus : us.length ≤ sizeLine)
    (bt : ∀ s, BindsTo s fd ⟨.ref (h.objs.size + 1) :: us, kw⟩ binds) (hloc : ∀ x ∈ binds, fd.scope.names.lookup x.1 = some .local) (hself : binds.reverse.lookup ("self" : Str) = some (Value.ref (h.objs.size + 1)))
    (hx : ∀ x ∈ l, binds.reverse.lookup x.p = some x.v ∧ takerIn K C x.f = some none)
    (z : ∀ h' tk L, (∀ b o, h.get? b = some o → h'.get? b = some o) → Fl h.objs.size L (h.objs.size + 1) C (l.map fun x => (x.f, x.v)).reverse h' → Q (.ref (h.objs.size + 1)) ⟨h', g, d, tk, os⟩) :
    wpAny (model P w) A (call (.ref C) us kw) Q E ⟨h, g, d, t, os⟩ := by
  obtain ⟨nm, N', qn, bs, bm, hdct, sn, sub, ab, col, dd, k0, k1, k2, k3, k5, hC, hT⟩ := excInit_of X T.ei
  obtain ⟨oI, hoI, hcI⟩ : ∃ oI, h.get? fI = some oI ∧ oI.cls = .type "function" := by
    obtain ⟨o, ho, hc⟩ := Option.map_eq_some_iff.mp (show (K.lookup fI).map (·.cls) = some (.type "function") from beq_iff_eq.mp T.fn)
    exact ⟨o, X _ _ ho, hc⟩
  have kk : ∀ b o, h.get? b = some o → ((h.push (kdv_tup us)).push (excObj C h.objs.size none .none)).get? b = some o := fun b o q => Heap.get?_push_of_some _ (Heap.get?_push_of_some _ q)
  have c5 : ((h.push (kdv_tup us)).push (excObj C h.objs.size none .none)).get? (h.objs.size + 1) = some (excObj C h.objs.size none .none) := by heap_get
  refine wpAny_call (callMade T.FB hT hC (looks_findIn X T.ini) (fun self => exc_bind hoI hcI self) hus ?_)
  refine initRuns T S (n0 := h.objs.size) (fun b o q => Heap.lt_size (X b o q)) (Nat.le_succ _) hl (X.keeps kk) (hm.keeps kk) (hb.keeps kk) m1 m2 (lim.keeps kk) room (bt _) hloc hself hx c5 fun h' tk k' F' => ?_
  refine ⟨rfl, ?_⟩
  exact z h' tk _ (fun b o q => k' b o (Heap.lt_size q) (kk b o q)) F'
end
end XR
/-! repr of data that stands in the abstract heap: none, bools, ints, texts, lists, tuples, dicts with int and text keys. -/
namespace XR
open PySem PySem.Spec L2
mutual
inductive Dq (K : PySem.W.Frag) (H : Hp) : V → PyData → Prop
  | non : Dq K H .non .none
  | bl (b : Bool) : Dq K H (.bl b) (.bool b)
  | int (i : Int) : Dq K H (.int i) (.int i)
  | str (x : Str) : Dq K H (.str x) (.str x)
  | lst {a : Addr} {xs : List V} {ds : List PyData} : SqL K H a xs → DqAll K H xs ds → Dq K H (.ref a) (.list ds)
  | tup {a : Addr} {xs : List V} {ds : List PyData} : SqT K H a xs → DqAll K H xs ds → Dq K H (.ref a) (.tuple ds)
  | dct {a : Addr} {kvs : List (Key × V)} {ds : List (PyData × PyData)} : H a = some (.dK kvs) → DqAll K H (kvs.map fun p => kV p.1) (ds.map (·.1)) → DqAll K H (kvs.map (·.2)) (ds.map (·.2)) → Dq K H (.ref a) (.dict ds)
inductive DqAll (K : PySem.W.Frag) (H : Hp) : List V → List PyData → Prop
  | nil : DqAll K H [] []
  | cons {v : V} {vs : List V} {d : PyData} {ds : List PyData} : Dq K H v d → DqAll K H vs ds → DqAll K H (v :: vs) (d :: ds)
end
theorem DqAll.length {K : PySem.W.Frag} {H : Hp} : ∀ {vs : List V} {ds : List PyData}, DqAll K H vs ds → vs.length = ds.length
  | _, _, .nil => rfl
  | _, _, .cons _ h => by simp [h.length]
theorem DqAll.append {K : PySem.W.Frag} {H : Hp} : ∀ {vs ws : List V} {ds es : List PyData}, DqAll K H vs ds → DqAll K H ws es → DqAll K H (vs ++ ws) (ds ++ es)
  | _, _, _, _, .nil, h => h
  | _, _, _, _, .cons a b, h => .cons a (b.append h)
theorem DqAll.rep {K : PySem.W.Frag} {H : Hp} {v : V} {d : PyData} (h : Dq K H v d) : ∀ n : Nat, DqAll K H (List.replicate n v) (List.replicate n d)
  | 0 => .nil
  | n + 1 => by
    rw [List.replicate_succ, List.replicate_succ]
    exact .cons h (DqAll.rep h n)
theorem Same.tup {K : PySem.W.Frag} {H H' : Hp} {a : Addr} {xs : List V} (e : Same H H') (h : SqT K H a xs) : SqT K H' a xs := by
  rcases h with (h | ⟨o, h⟩) | h
  · exact .inl (.inl (e _ _ h))
  · exact .inl (.inr ⟨o, e _ _ h⟩)
  · exact .inr h
mutual
theorem Dq.same {K : PySem.W.Frag} {H H' : Hp} (e : Same H H') : ∀ {v : V} {d : PyData}, Dq K H v d → Dq K H' v d
  | _, _, .non => .non
  | _, _, .bl b => .bl b
  | _, _, .int i => .int i
  | _, _, .str x => .str x
  | _, _, .lst h1 h2 => .lst (e.seq h1) (DqAll.same e h2)
  | _, _, .tup h1 h2 => .tup (Same.tup e h1) (DqAll.same e h2)
  | _, _, .dct h1 h2 h3 => .dct (e _ _ h1) (DqAll.same e h2) (DqAll.same e h3)
theorem DqAll.same {K : PySem.W.Frag} {H H' : Hp} (e : Same H H') : ∀ {vs : List V} {ds : List PyData}, DqAll K H vs ds → DqAll K H' vs ds
  | _, _, .nil => .nil
  | _, _, .cons a b => .cons (Dq.same e a) (DqAll.same e b)
end
/-- the entries of a dict: their keys and values -/
theorem pairs_keys {P : Program} {w : World} : ∀ {kvs : List (Key × V)} {vs : List (Key × Value)} {es : List DictEntry}, KV kvs vs → Pairs (mixKind P w) es vs →
    Vals (kvs.map fun p => kV p.1) (es.map (·.key)) ∧ Vals (kvs.map (·.2)) (es.map (·.val))
  | _, _, _, .nil, h => by
    cases h
    exact ⟨.nil, .nil⟩
  | _, _, _, .cons r t, h => by
    cases h with
    | cons h1 h2 h3 =>
      obtain ⟨a, b⟩ := pairs_keys t h3
      obtain ⟨r1, r2⟩ := r
      refine ⟨.cons ?_ a, .cons ?_ b⟩
      · dsimp only
        rw [r1]
        rcases keyIs_shape (show keyIs _ _ = true from h1) with ⟨i, t, q1, q2⟩ | ⟨x, t, q1, q2⟩
        · rw [q1, q2]; exact ⟨t, rfl⟩
        · rw [q1, q2]; exact ⟨t, rfl⟩
      · dsimp only
        rw [h2]; exact r2
section
variable {X : Cx} {pins : List (Addr × Obj)} {σ : St} {H : Hp} {s : Shared}
mutual
theorem Dq.both (I : Inv X pins σ H s) : ∀ {v : V} {d : PyData} {u : Value}, Dq X.K H v d → RelV v u → d.showable = true → d.shown.length ≤ sizeLine →
    ∃ as bs, Reads s.heap u d as ∧ ReadAtMost s.heap d.depth bs ∧ ReprK X.prog X.w bs s.heap d.depth u d.shown
  | _, _, _, .non, r, _, _ => by
    cases r
    exact ⟨_, [], .none, (fun _ h => nomatch h), by simp only [PyData.shown]; exact .of_is ReprIs.none _ _ _⟩
  | _, _, _, .bl b, r, _, _ => by
    cases r
    exact ⟨_, [], .bool b, (fun _ h => nomatch h), by simp only [PyData.shown]; exact .of_is (ReprIs.bool b) _ _ _⟩
  | _, _, _, .int i, r, hs, _ => by
    obtain ⟨t, rfl⟩ := r
    exact ⟨_, [], .int i t, (fun _ h => nomatch h), by simp only [PyData.shown]; exact .of_is (ReprIs.int t (by simpa [PyData.showable] using hs)) _ _ _⟩
  | _, _, _, .str x, r, _, hz => by
    obtain ⟨t, rfl⟩ := r
    exact ⟨_, [], .str x t, (fun _ h => nomatch h), by simp only [PyData.shown]; exact .of_is (ReprIs.str x t (by simpa only [PyData.shown] using hz)) _ _ _⟩
  | _, _, _, .lst (a := a) (ds := ds) h1 h2, r, hs, hz => by
    cases r
    have hz' : (listText (PyData.shownAll ds)).length ≤ sizeLine := by simpa only [PyData.shown] using hz
    obtain ⟨its, rv, ⟨o, n, ho, hc, _, hd⟩, _⟩ := I.list h1
    obtain ⟨as, bs, q1, q2, q3⟩ := DqAll.both I h2 rv (by simpa [PyData.showable] using hs) (fun t ht => Nat.le_trans (listText_mem_le ht) hz')
    have rr : Reads s.heap (.ref a) (.list ds) _ := .list ho hc hd q1
    have hna : a ∉ bs := not_mem_of_deeper rr (by simp only [PyData.depth]; omega) q2
    refine ⟨_, a :: bs, rr, ReadAtMost.cons rr (by simp only [PyData.depth]; omega) q2, ?_⟩
    simp only [PyData.depth, PyData.shown]
    cases its with
    | nil =>
      cases q1
      simp only [PyData.shownAll, listText_nil]
      exact ReprK.listEmpty ho hc hd
    | cons y l => exact ReprK.list ho hc hd hna (by simpa using q3.length_eq) (fun i y e => q3.item i y (by simpa using e))
  | _, _, _, .tup (a := a) (ds := ds) h1 h2, r, hs, hz => by
    cases r
    have hz' : (tupleText (PyData.shownAll ds)).length ≤ sizeLine := by simpa only [PyData.shown] using hz
    obtain ⟨its, rv, ⟨o, ho, hc, n, hd⟩, _⟩ := I.tuple h1
    obtain ⟨as, bs, q1, q2, q3⟩ := DqAll.both I h2 rv (by simpa [PyData.showable] using hs) (fun t ht => Nat.le_trans (tupleText_mem_le ht) hz')
    have rr : Reads s.heap (.ref a) (.tuple ds) _ := .tuple ho hc hd q1
    have hna : a ∉ bs := not_mem_of_deeper rr (by simp only [PyData.depth]; omega) q2
    refine ⟨_, a :: bs, rr, ReadAtMost.cons rr (by simp only [PyData.depth]; omega) q2, ?_⟩
    simp only [PyData.depth, PyData.shown]
    exact ReprK.tuple ho hc hd hna q3
  | _, _, _, .dct (a := a) (kvs := kvs) (ds := ds) h1 h2 h3, r, hs, hz => by
    cases r
    have hz' : (dictText (PyData.shownKv ds)).length ≤ sizeLine := by simpa only [PyData.shown] using hz
    obtain ⟨hl, hsys, vs, rk, o, es, ep, ho, ⟨hc, _⟩, hd, _, hp, _⟩ := (show ObjOk X.prog X.w H s.heap a (.dK kvs) from I.hok a _ h1)
    obtain ⟨r1, r2⟩ := pairs_keys rk hp
    obtain ⟨s1, s2⟩ := PyData.showableKv_split ds (by simpa [PyData.showable] using hs)
    obtain ⟨a1, b1, q1, q2, q3⟩ := DqAll.both I h2 r1 s1 (fun t ht => let ⟨p, hp, hl⟩ := PyData.shownKv_key_le ds t ht; Nat.le_trans hl (Nat.le_trans (dictText_mem_le hp) hz'))
    obtain ⟨a2, b2, t1, t2, t3⟩ := DqAll.both I h3 r2 s2 (fun t ht => let ⟨p, hp, hl⟩ := PyData.shownKv_val_le ds t ht; Nat.le_trans hl (Nat.le_trans (dictText_mem_le hp) hz'))
    have rr : Reads s.heap (.ref a) (.dict ds) _ := .dict ho hc hd q1 t1
    have hb : ReadAtMost s.heap (PyData.depthKv ds) (b1 ++ b2) := (q2.mono (PyData.depthAll_keys_le ds)).append (t2.mono (PyData.depthAll_vals_le ds))
    have hna : a ∉ b1 ++ b2 := not_mem_of_deeper rr (by simp only [PyData.depth]; omega) hb
    refine ⟨_, a :: (b1 ++ b2), rr, ReadAtMost.cons rr (by simp only [PyData.depth]; omega) hb, ?_⟩
    simp only [PyData.depth, PyData.shown, PyData.shownKv_eq]
    exact ReprK.dict ho hc hd hsys hna (ReprEntriesK.of_two es.toList _ _
      (q3.more_le (fun b hb => List.mem_append_left _ hb) (PyData.depthAll_keys_le ds)) (t3.more_le (fun b hb => List.mem_append_right _ hb) (PyData.depthAll_vals_le ds)))
theorem DqAll.both (I : Inv X pins σ H s) : ∀ {vs : List V} {ds : List PyData} {us : List Value}, DqAll X.K H vs ds → Vals vs us → PyData.showableAll ds = true → (∀ t ∈ PyData.shownAll ds, t.length ≤ sizeLine) →
    ∃ as bs, ReadsAll s.heap us ds as ∧ ReadAtMost s.heap (PyData.depthAll ds) bs ∧ ReprAllK X.prog X.w bs s.heap (PyData.depthAll ds) us (PyData.shownAll ds)
  | _, _, _, .nil, r, _, _ => by
    cases r
    exact ⟨_, [], .nil, (fun _ h => nomatch h), .nil⟩
  | _, _, _, .cons (d := d) (ds := ds) h1 h2, r, hs, hz => by
    cases r with
    | cons r1 r2 =>
      have hs' : d.showable = true ∧ PyData.showableAll ds = true := by simpa [PyData.showableAll] using hs
      obtain ⟨a1, b1, q1, q2, q3⟩ := Dq.both I h1 r1 hs'.1 (hz _ (by simp only [PyData.shownAll]; exact List.mem_cons_self ..))
      obtain ⟨a2, b2, t1, t2, t3⟩ := DqAll.both I h2 r2 hs'.2 (fun t ht => hz t (by simp only [PyData.shownAll]; exact List.mem_cons_of_mem _ ht))
      refine ⟨_, b1 ++ b2, .cons q1 t1, ?_, ?_⟩
      · simp only [PyData.depthAll]
        exact (q2.mono (Nat.le_max_left _ _)).append (t2.mono (Nat.le_max_right _ _))
      · simp only [PyData.depthAll, PyData.shownAll]
        exact .cons ((q3.more fun b hb => List.mem_append_left _ hb).level_le (Nat.le_max_left _ _)) (t3.more_le (fun b hb => List.mem_append_right _ hb) (Nat.le_max_right _ _))
end
end
section
variable {X : Cx}
def rRepr (K : PySem.W.Frag) : List V → Hp → VK → Prop := fun xs H Q => ∃ x d, xs = [x] ∧ Dq K H x d ∧ d.showable = true ∧ d.shown.length ≤ sizeLine ∧ d.depth ≤ 60 ∧ Q (.str d.shown) H
/-- repr(x), x data; no repr is under way around -/
theorem call_reprQ (hg : X.A.guards = some []) (hu : X.A.units + 64 < cLine) : CallR X (.builtin "repr") (rRepr X.K) := by
  intro pins s σ H xs us Q I r h
  obtain ⟨x, d, rfl, hd, hs, hz, hdp, q⟩ := h
  obtain ⟨u, rfl, ru⟩ := vals1 r
  have fin : ∀ (h' : Heap) (t tk : Nat), (∀ b o, s.heap.get? b = some o → h'.get? b = some o) → EP X pins σ Q (.str d.shown t) { s with heap := h', toks := tk } := fun h' t tk k => ⟨.str d.shown, H, I.kept k, ⟨t, rfl⟩, q⟩
  cases hd with
  | non =>
    cases ru
    refine PySem.P.repr_of_none ?_
    have e := fin s.heap s.toks (s.toks + 1) fun _ _ q => q
    simpa only [PyData.shown] using e
  | bl b =>
    cases ru
    refine PySem.P.repr_of_bool ?_
    have e := fin s.heap s.toks (s.toks + 1) fun _ _ q => q
    simpa only [PyData.shown] using e
  | int i =>
    obtain ⟨t, rfl⟩ := ru
    refine PySem.P.repr_of_int (by simpa [PyData.showable] using hs) ?_
    have e := fin s.heap s.toks (s.toks + 1) fun _ _ q => q
    simpa only [PyData.shown] using e
  | str y =>
    obtain ⟨t, rfl⟩ := ru
    refine PySem.P.repr_of_str ?_ (by simpa only [PyData.shown] using hz)
    have e := fin s.heap s.toks (s.toks + 1) fun _ _ q => q
    simpa only [PyData.shown] using e
  | @lst a xs ds h1 h2 =>
    cases ru
    have hz' : (listText (PyData.shownAll ds)).length ≤ sizeLine := by simpa only [PyData.shown] using hz
    obtain ⟨its, rv, ⟨o, n, ho, hc, _, hd'⟩, _⟩ := I.list h1
    obtain ⟨as, bs, q1, q2, q3⟩ := DqAll.both I h2 rv (by simpa [PyData.showable] using hs) (fun t ht => Nat.le_trans (listText_mem_le ht) hz')
    have hna : a ∉ bs := not_mem_of_deeper (.list ho hc hd' q1) (by simp only [PyData.depth]; omega) q2
    simp only [PyData.depth] at hdp
    simp only [PyData.shown] at fin
    refine call_repr_slot (by omega) ⟨o, ho, hc⟩ F.slot_list_repr.toG ?_
    cases its with
    | nil =>
      cases q1
      simp only [PyData.shownAll, listText_nil] at fin
      exact call_list_repr_empty ⟨o, ho, hc⟩ ho hd' ⟨_, _, rfl, fin s.heap _ _ fun _ _ q => q⟩
    | cons y l =>
      exact call_list_reprK ho hc hd' hna (by simpa using q3.length_eq) (fun i y e => q3.item i y (by simpa using e)) (show X.A.in1.guards = some [] from hg) (fun b _ => Clear.nil b) (by show X.A.units + 1 + _ < cLine; omega) (fun _ _ q => q) (fun h' u tk k => ⟨_, _, rfl, fin h' u tk k⟩) hz'
  | @tup a xs ds h1 h2 =>
    cases ru
    have hz' : (tupleText (PyData.shownAll ds)).length ≤ sizeLine := by simpa only [PyData.shown] using hz
    obtain ⟨its, rv, ⟨o, ho, hc, n, hd'⟩, _⟩ := I.tuple h1
    obtain ⟨as, bs, q1, q2, q3⟩ := DqAll.both I h2 rv (by simpa [PyData.showable] using hs) (fun t ht => Nat.le_trans (tupleText_mem_le ht) hz')
    have hna : a ∉ bs := not_mem_of_deeper (.tuple ho hc hd' q1) (by simp only [PyData.depth]; omega) q2
    simp only [PyData.depth] at hdp
    simp only [PyData.shown] at fin
    refine call_repr_slot (by omega) ⟨o, ho, hc⟩ F.slot_tuple_repr ?_
    exact call_tuple_reprK ho hc hd' hna q3 (show X.A.in1.guards = some [] from hg) (fun b _ => Clear.nil b) (by show X.A.units + 1 + _ < cLine; omega) (fun _ _ q => q) (fun h' u tk k => ⟨_, _, rfl, fin h' u tk k⟩) hz'
  | @dct a kvs ds h1 h2 h3 =>
    cases ru
    have hz' : (dictText (PyData.shownKv ds)).length ≤ sizeLine := by simpa only [PyData.shown] using hz
    obtain ⟨hl, hsys, vs, rk, o, es, ep, ho, ⟨hc, _⟩, hd', _, hp, _⟩ := (show ObjOk X.prog X.w H s.heap a (.dK kvs) from I.hok a _ h1)
    obtain ⟨r1, r2⟩ := pairs_keys rk hp
    obtain ⟨s1, s2⟩ := PyData.showableKv_split ds (by simpa [PyData.showable] using hs)
    obtain ⟨a1, b1, q1, q2, q3⟩ := DqAll.both I h2 r1 s1 (fun t ht => let ⟨p, hp, hl⟩ := PyData.shownKv_key_le ds t ht; Nat.le_trans hl (Nat.le_trans (dictText_mem_le hp) hz'))
    obtain ⟨a2, b2, t1, t2, t3⟩ := DqAll.both I h3 r2 s2 (fun t ht => let ⟨p, hp, hl⟩ := PyData.shownKv_val_le ds t ht; Nat.le_trans hl (Nat.le_trans (dictText_mem_le hp) hz'))
    have hb : ReadAtMost s.heap (PyData.depthKv ds) (b1 ++ b2) := (q2.mono (PyData.depthAll_keys_le ds)).append (t2.mono (PyData.depthAll_vals_le ds))
    have hna : a ∉ b1 ++ b2 := not_mem_of_deeper (.dict ho hc hd' q1 t1) (by simp only [PyData.depth]; omega) hb
    simp only [PyData.depth] at hdp
    simp only [PyData.shown, PyData.shownKv_eq] at fin
    refine call_repr_slot (by omega) ⟨o, ho, hc⟩ F.slot_dict_repr ?_
    exact call_dict_reprK ho hc hd' hsys hna (ReprEntriesK.of_two es.toList _ _
      (q3.more_le (fun b hb => List.mem_append_left _ hb) (PyData.depthAll_keys_le ds)) (t3.more_le (fun b hb => List.mem_append_right _ hb) (PyData.depthAll_vals_le ds)))
      (show X.A.in1.guards = some [] from hg) (fun b _ => Clear.nil b) (by show X.A.units + 1 + _ < cLine; omega) (fun _ _ q => q) (fun h' u tk k => ⟨_, _, rfl, fin h' u tk k⟩) (by rw [← PyData.shownKv_eq]; exact hz')
end
end XR
/-! Defs that ask for a repr: their promise where no repr is under way around the call. -/
namespace XR
open PySem PySem.Spec L2
open PyProof.Rows hiding St
structure FnG (P : Program) (w : World) (K : PySem.W.Frag) (mg : Str → Option Value) (base : Heap) (k : Nat) (f : Addr) (fd : FuncData) (ps : List Str) (sp : Sp) : Prop where
  len : ∀ vs H Q E, sp vs H Q E → vs.length = ps.length
  run : ∀ (A : Around) (outer : List Env) (s : Shared) (H : Hp) (args : Args) (us : List Value) (vs : List V) (Q : VK) (E : XK), A.guards = some [] → Room k A → Env0 P w K mg base A outer s H → BindsTo s fd args (ps.zip us) → Vals vs us → sp vs H Q E →
    codeAny (model P w) A (.call (.ref f) args) (CR CX0 outer P w H s Q E) s
section
variable {P : Program} {w : World} {K : PySem.W.Frag} {mg : Str → Option Value} {base : Heap}
theorem FnG.of {k : Nat} {f : Addr} {fd : FuncData} {ps : List Str} {sp : Sp} (F : FnOk P w K mg base CX0 k f fd ps sp) : FnG P w K mg base k f fd ps sp :=
  ⟨F.len, fun A outer s H args us vs Q E _ hr he hb hv hs => F.run A outer s H args us vs Q E hr he hb hv hs⟩
/-- a def by its body; in the body the guards are none -/
theorem okG {x qual : Str} {st : Stmt} {f : Addr} {fd : FuncData} {N ps : List Str} {k : Nat} {sp : Sp} (F : Fun K x qual st f fd) (S : FnScope N ps (defScope st)) (len : ∀ vs H Q E, sp vs H Q E → vs.length = ps.length)
    (hbody : ∀ (cdv : Value) (A : Around) (outer : List Env) (s : Shared) (H : Hp) (vs : List V) (Q : VK) (E : XK), Room k (A.deeper (envOfC qual (defScope st) s.heap.objs.size f cdv)) → A.guards = some [] → sp vs H Q E →
      ∃ t, PSs (cxOf CX0 P w K mg base N qual (defScope st) f cdv A outer s H E).nox (defBody st) t ∧ t { nx := fun _ H' => Q .non H', rt := Q } (start N vs) H) : FnG P w K mg base (k + 1) f fd ps sp := by
  obtain ⟨oc, od, kV, doc, pm, an, cdv, ct, osl, rfl, lk, hcd⟩ := F.ex
  refine ⟨len, fun A outer s H args us vs Q E hg hr e0 hb r hsp => ?_⟩
  have hl := len _ _ _ _ hsp
  have k0 : ∀ b o, base.get? b = some o → s.heap.get? b = some o := fun b o e => (e0.bs b o e).1
  have KX : K.In s.heap := e0.mod.kin.keeps k0
  have par : ∀ y ∈ ps.zip us, (defScope st).names.lookup y.1 = some .local ∨ ((defScope st).names.lookup y.1 = some .cell ∧ ((cellsFrom (s.heap.objs.size + 1) (defScope st).names []).lookup y.1).isSome = true) := by
    rintro ⟨n, v⟩ hy
    rcases S.par n (List.of_mem_zip hy).1 with q | q
    · exact .inl q
    · exact .inr ⟨q, PySem.W.cellsFrom_some _ _ _ (.inl q)⟩
  refine codeAny_call_function hr.depth (KX _ _ lk) rfl S.co S.gen rfl
    (PySem.W.codeRec_of KX hcd) (hb _ _ _ _ ?_)
  refine wpAny_newFunctionEnv_cells S.kind par fun env he s1 xx => ?_
  subst he
  refine ⟨(e0.mod.nolimit.keeps k0).keeps xx.toInCall.keep, codeAny_func ?_⟩
  obtain ⟨t, ht, hq⟩ := hbody cdv A outer s H vs Q E (hr.deeper _) hg hsp
  have I : Inv (cxOf CX0 P w K mg base N qual (defScope st) f cdv A outer s H E) [] (start N vs) H s1 :=
    inv_start S hr.hd e0 hl r xx
  have tb := ht.nox
  refine wpAny_mono (tb.run [] s1 (start N vs) H _ I hq) (fun fl s' hs => ?_) fun e s' hs => hs
  cases fl with
  | ret u =>
    obtain ⟨v, σ', H', J, rv, q⟩ := hs
    exact ⟨v, H', J.os, J.bare, J.base, J.hok, rv, q⟩
  | next =>
    obtain ⟨σ', H', J, q⟩ := hs
    exact ⟨V.non, H', J.os, J.bare, J.base, J.hok, rfl, q⟩
  | brk =>
    obtain ⟨_, _, _, q⟩ := hs
    exact q.elim
  | cont =>
    obtain ⟨_, _, _, q⟩ := hs
    exact q.elim
end
section
variable {X : Cx} {k : Nat} {f : Addr} {fd : FuncData} {ps : List Str} {sp : Sp} {E : XK} {x : Str} {p pos : Pos} {e : Expr} {es : List Expr} {t : TA}
/-- the call of such a def -/
theorem pe_callG (F : FnG X.prog X.w X.K X.mg X.base k f fd ps sp) (hg : X.A.guards = some []) (hr : Room k X.A) (hgl : Gl X x) (hm : X.mg x = some (.ref f)) (hk : PySem.W.keepIn X.K (.ref f) = true) (hb : Binds X.K fd ps []) (ha : PA X (e :: es) t)
    (hdb : (x == ("__debug__" : Str)) = false := by decide) (he : starEach (e :: es) X.env = (false, eval e X.env) :: starEach es X.env := by rfl) (hpl : (backTo pos (starEach es X.env)).any (·.1) = false := by rfl) :
    PE X (.Call (.Name x p) (e :: es) [] pos) (tCall sp [] E0 t) := by
  refine ⟨fun pins s σ H Q I h => ?_⟩
  refine wpAny_Call_Name_kw (ld_glob I hgl hm ?_ hdb)
  refine PySem.W.callWith_K (h₀ := X.base) I.ok.mod.kin hk (thn (ha.run pos pins s σ H _ I h) fun us s1 ⟨vs, H1, I1, r, q⟩ => ⟨I1.kIn, ?_⟩) he hpl
  have q : sp vs H1 Q E0 := by simpa using q
  have hl : (us ++ []).length = ps.length := by rw [List.append_nil, ← r.length]; exact F.len _ _ _ _ q
  have hbt := hb s1 us I1.kIn hl
  rw [List.append_nil] at hbt
  refine wpAny_call (codeAny_mono (F.run X.A X.stack s1 H1 ⟨us, []⟩ us vs Q E0 hg hr I1.env0 hbt r q) fun r' s' hq => ?_)
  cases r' with
  | error e => exact False.elim hq
  | ok fl =>
    cases fl with
    | ret u => exact I1.after hq
    | next => exact False.elim hq
    | brk => exact False.elim hq
    | cont => exact False.elim hq
end
/-- the call of the law over the heap behind the top -/
theorem lawCallG {P : Program} {w : World} {K : PySem.W.Frag} {mg mb : Str → Option Value} {k : Nat} {fa a : Addr} {fd : FuncData} {x : Str} {sp : Sp} {s₁ : Shared} {vs : List Value} {ns : List Int}
    (KX : K.In s₁.heap) (h1 : s₁.heap.Ns mainGlobals mg) (h2 : s₁.heap.Ns builtinsNs mb) (h3 : ∀ x : Str, x ≠ "__name__" → mb x = bootBuiltins x) (h4 : s₁.heap.NoLimit) (h5 : s₁.gens = #[])
    (ha : s₁.heap.get? a = some { cls := .type "list", data := .seq vs.toArray }) (hi : IntsAre vs ns) (hl : ns.length ≤ sizeLine) (hr : Room k callerA)
    (F : ∀ base : Heap, K.In base → base.Ns mainGlobals mg → FnG P w K mg base k fa fd [x] sp) (hbind : ∀ (s : Shared) (u : Value), BindsTo s fd ⟨[u], []⟩ [(x, u)])
    (hsp : ∀ H : Hp, Only H → SqL K H a (ns.map V.int) → sp [.ref a] H (fun v _ => v = .bl true) fun _ _ _ => False) :
    codeAny (model P w) callerA (.call (.ref fa) ⟨[.ref a], []⟩) (fun r s' => r = .ok (.ret (.bool true)) ∧ OldK s₁.heap s'.heap ∧ s'.os = s₁.os ∧ AllBare s'.gens) s₁ := by
  have rv := vals_ints hi
  have lenV := hi.length
  have main : ∀ H : Hp, Only H → SqL K H a (ns.map V.int) → HOk P w H s₁.heap → (∀ b, H b ≠ none → b = a ∧ K.lookup a = none) →
      codeAny (model P w) callerA (.call (.ref fa) ⟨[.ref a], []⟩) (fun r s' => r = .ok (.ret (.bool true)) ∧ OldK s₁.heap s'.heap ∧ s'.os = s₁.os ∧ AllBare s'.gens) s₁ := by
    intro H hO hS hok hA
    have free : ∀ {b : Addr}, b ≠ a → H b = none := fun {b} hb => by
      cases q : H b with
      | none => rfl
      | some u => exact absurd (hA b (by rw [q]; exact Option.some_ne_none u)).1 hb
    have ns' : ∀ {b : Addr} {m : Str → Option Value}, s₁.heap.Ns b m → (hidT s₁.heap H).Ns b m := by
      rintro b m ⟨o, es, ep, e, d, r⟩
      have hb : b ≠ a := by
        rintro rfl
        rw [ha] at e
        cases e
        cases d
      exact ⟨o, es, ep, hidT_get e (free hb), d, r⟩
    have kb : K.In (hidT s₁.heap H) := fun b o e => by
      refine hidT_get (KX b o e) ?_
      cases q : H b with
      | none => rfl
      | some u =>
        obtain ⟨e1, e2⟩ := hA b (by rw [q]; exact Option.some_ne_none u)
        rw [e1, e2] at e
        cases e
    obtain ⟨mc, l1, l2⟩ := h4
    have M : Mod K mg (hidT s₁.heap H) := ⟨kb, ns' h1, ⟨mb, ns' h2, h3⟩, ⟨mc, ns' l1, l2⟩⟩
    have e0 : Env0 P w K mg (hidT s₁.heap H) callerA [] s₁ H :=
      ⟨rfl, M, fun b o e => of_hidT e, Nat.le_of_eq (hidT_size _ _), trivial, fun b hb => (List.not_mem_nil (a := b) hb).elim, hok, .of_eq h5⟩
    have run := (F _ kb (ns' h1)).run callerA [] s₁ H ⟨[.ref a], []⟩ [.ref a] [.ref a] _ _ rfl hr e0 (hbind s₁ (.ref a)) (.cons rfl .nil) (hsp H hO hS)
    refine codeAny_mono run fun r s' h => ?_
    cases r with
    | error e => exact False.elim h
    | ok fl =>
      cases fl with
      | next => exact False.elim h
      | brk => exact False.elim h
      | cont => exact False.elim h
      | ret u =>
        obtain ⟨v, H', os, bare, un, hok', r', q⟩ := h
        obtain rfl : v = V.bl true := q
        obtain rfl : u = Value.bool true := r'
        refine ⟨rfl, OldK.of_keep fun b o e => ?_, os, bare⟩
        rcases hO b with z | ⟨ob, xs, z⟩
        · exact un.keep b o e z (List.not_mem_nil (a := b)) (List.not_mem_nil (a := b))
        · obtain ⟨e1, _⟩ := hok b _ z
          obtain ⟨e2, _⟩ := hok' b _ (un.frzs b ob _ z)
          rw [e] at e1
          cases e1
          exact e2
  cases hk : K.lookup a with
  | some o =>
    have e := KX a o hk
    rw [ha] at e
    cases e
    exact main (fun _ => none) (fun _ => .inl rfl) (.inr ⟨_, vs.toArray, _, hk, rfl, rfl, rfl, by rw [List.size_toArray, lenV]; exact hl, by simpa using rv⟩) (fun b u z => nomatch z) fun b z => absurd rfl z
  | none =>
    have hT : ∀ {b : Addr} {u : HO}, (if b = a then some (HO.frz { cls := .type "list", data := .seq vs.toArray } (.lst (ns.map V.int))) else none) = some u → b = a ∧ u = .frz { cls := .type "list", data := .seq vs.toArray } (.lst (ns.map V.int)) := fun {b u} z => by
      by_cases hb : b = a
      · rw [if_pos hb] at z
        exact ⟨hb, (Option.some.inj z).symm⟩
      · rw [if_neg hb] at z
        cases z
    refine main (fun b => if b = a then some (.frz { cls := .type "list", data := .seq vs.toArray } (.lst (ns.map V.int))) else none) (fun b => ?_) (.inl (.inr ⟨_, if_pos rfl⟩)) (fun b u z => ?_) fun b z => ?_
    · by_cases hb : b = a
      · exact .inr ⟨_, _, if_pos hb⟩
      · exact .inl (if_neg hb)
    · obtain ⟨rfl, rfl⟩ := hT z
      exact ⟨ha, by rw [List.length_map]; exact hl, vs, _, rv, ha⟩
    · obtain ⟨u, hu⟩ := Option.ne_none_iff_exists'.mp z
      exact ⟨(hT hu).1, hk⟩
/-- the law's end, for such a promise -/
theorem walkG {l : PySem.W.OpenLaw} {n k : Nat} {q : Program} {loose : List Str} {XP : (Str → Option Value) → Heap → Prop} {YP : World → Heap → Prop} {d : DefRec} {K : Params → PySem.W.Frag} {sp : World → Sp} {x : Str}
    (hn : l.most = some n) (hn2 : n ≤ sizeLine) (hdf : d.params.defaults = []) (hr : Room k callerA) (hY : ∀ (w : World) (h : Heap), YP w h → (K w.params).In h)
    (F : ∀ (w : World) (mg : Str → Option Value) (fa : Addr) (h : Heap), (K w.params).In h → h.Ns mainGlobals mg → mg d.name = some (.ref fa) →
      ∃ fd : FuncData, (∀ (s : Shared) (u : Value), BindsTo s fd ⟨[u], []⟩ [(x, u)]) ∧ ∀ base : Heap, (K w.params).In base → base.Ns mainGlobals mg → FnG l.prog w (K w.params) mg base k fa fd [x] (sp w))
    (hsp : ∀ (w : World) (H : Hp) (a : Addr) (ns : List Int), ns.length ≤ n → Only H → SqL (K w.params) H a (ns.map V.int) → sp w [.ref a] H (fun v _ => v = .bl true) fun _ _ _ => False) :
    PySem.W.WalkO q loose XP YP l.row.toRowW d [] (fun f vs => PySem.call f vs) := by
  refine Att.attach_call hn hdf fun w s₀ s₁ mg mb fa o pm cd doc a vs ns G Y ho hd hcd hmg hobj hints hlen hg => ?_
  obtain ⟨fd, hb, hF⟩ := F w mg fa _ (hY w _ Y) G.T.g hmg
  exact lawCallG (hY w _ Y) G.T.g G.T.b G.T.builtins G.T.nolimit hg hobj hints (Nat.le_trans hlen hn2) hr hF hb fun H hO hS => hsp w H a ns hlen hO hS
end XR
/-! Exceptions of the text as values: made, their fields read, isinstance of them. -/
namespace XR
open PySem PySem.Spec L2
/-- an exception of the class at C with the fields fs, newest first -/
def ExAt (H : Hp) (e C : Addr) (fs : List (Str × V)) : Prop := (fs = [] ∧ H e = some (exo e C none)) ∨ ∃ dx, H e = some (exo e C (some dx)) ∧ H dx = some (exd dx fs)
theorem ExAt.same {H H' : Hp} {e C : Addr} {fs : List (Str × V)} (s : Same H H') (h : ExAt H e C fs) : ExAt H' e C fs := by
  rcases h with ⟨h1, h2⟩ | ⟨dx, h1, h2⟩
  · exact .inl ⟨h1, s _ _ h2⟩
  · exact .inr ⟨dx, s _ _ h1, s _ _ h2⟩
abbrev FV : List (Str × V) → List (Str × Value) → Prop := Paired fun p q => p.1 = q.1 ∧ RelV p.2 q.2
theorem FV.rel : ∀ {fs : List (Str × V)} {gs : List (Str × Value)}, FV fs gs → ∀ f, RelO (fs.lookup f) (gs.lookup f)
  | _, _, .nil, _ => True.intro
  | (a, v) :: fs, (b, u) :: gs, .cons ⟨h1, h2⟩ t, f => by
    have h1 : a = b := h1
    subst h1
    by_cases q : f = a
    · subst q
      simp only [List.lookup, beq_self_eq_true]
      exact h2
    · have q' : (f == a) = false := by simpa using q
      simp only [List.lookup, q']
      exact FV.rel t f
theorem FV.nil_iff {fs : List (Str × V)} {gs : List (Str × Value)} (h : FV fs gs) : gs = [] → fs = [] := fun e => by
  subst e
  cases h
  rfl
section
variable {X : Cx} {pins : List (Addr × Obj)} {σ : St} {H : Hp} {h h' : Heap} {g : Array GenState} {d : Drawn} {t tk : Nat} {os : OsState} {e C L : Addr} {fs : List (Str × V)} {gs : List (Str × Value)}
theorem laidX (I : Inv X pins σ H ⟨h, g, d, t, os⟩) (k : ∀ b o, h.get? b = some o → h'.get? b = some o) (he : h.objs.size ≤ e) (F : Fl h.objs.size L e C gs h') (r : FV fs gs) :
    ∃ H2, Same H H2 ∧ ExAt H2 e C fs ∧ Inv X pins σ H2 ⟨h', g, d, tk, os⟩ := by
  have ne : H e = none := I.hok.fresh he
  obtain ⟨t1, ⟨hf, ho⟩ | ⟨dx, hf, hd0, hde, hdL, ho, hns⟩⟩ := F
  · subst hf
    have e2 := r.nil_iff rfl
    subst e2
    refine ⟨upd H e (exo e C none), fun b o q => by rw [upd_ne (ne_of_none q ne)]; exact q, .inl ⟨rfl, upd_same⟩, ?_⟩
    exact I.laid (t' := tk) k he (exo_ok ho)
  · have nd : H dx = none := I.hok.fresh hd0
    have sm : Same H (upd (upd H dx (exd dx fs)) e (exo e C (some dx))) := fun b o q => by
      rw [upd_ne (ne_of_none q ne), upd_ne (ne_of_none q nd)]
      exact q
    refine ⟨_, sm, .inr ⟨dx, upd_same, by rw [upd_ne hde]; exact upd_same⟩, ?_⟩
    have lt : ∀ {b : Addr} {o : Obj}, h.get? b = some o → b ≠ e ∧ b ≠ dx := fun {b o} q => ⟨Nat.ne_of_lt (Nat.lt_of_lt_of_le (Heap.lt_size q) he), Nat.ne_of_lt (Nat.lt_of_lt_of_le (Heap.lt_size q) hd0)⟩
    have U : Un X.fs [] H (upd (upd H dx (exd dx fs)) e (exo e C (some dx))) h h' := {
      keep := fun b o q _ _ _ => k b o q
      slot := fun b o q _ _ _ => ⟨o.slots, k b o q⟩
      free := fun b o q n _ => by rw [upd_ne (lt q).1, upd_ne (lt q).2]; exact n
      there := fun b o q _ => ⟨o, k b o q⟩
      tups := fun b xs q => sm _ _ q
      frzs := fun b o u q => sm _ _ q
      tbls := fun b ps q => ⟨#[], by rw [sm _ _ q]; simp⟩ }
    refine I.un (t' := tk) U fun b o q => ?_
    by_cases hb : b = e
    · subst hb
      rw [upd_same] at q
      cases q
      exact exo_ok ho
    · rw [upd_ne hb] at q
      by_cases hd : b = dx
      · subst hd
        rw [upd_same] at q
        cases q
        exact exd_ok hns r.rel
      · rw [upd_ne hd] at q
        exact (I.hok b o q).stay (fun c v _ z => k c v z) (fun c z => sm _ _ z) fun c xs z => sm _ _ z
end
/-- how the class at C is made by a call with n arguments: by position, or by the keywords ks -/
def argsX (kw : Option (List Str)) (e : Addr) (us : List Value) : Args := match kw with
  | none => ⟨.ref e :: us, []⟩
  | some ks => ⟨[.ref e], ks.zip us⟩
structure MkX (K : PySem.W.Frag) (P : Program) (C : Addr) (kw : Option (List Str)) (n : Nat) (fv : List V → List (Str × V)) : Prop where
  n1 : n ≤ 100
  ex : ∃ fI cc cda B newId initId bmB fd txt k p0 p1 p2 p3 p4 p5, ∃ (l : List Value → List Sto) (gb : List Value → List (Str × Value)), XCls K P C fI cc cda B newId initId bmB fd ∧
    (∀ us, us.length = n → Shape P fd fI cda cc txt k p0 p1 p2 p3 p4 p5 (l us) ∧ (l us).length ≤ 900 ∧ (∀ e s, BindsTo s fd (argsX kw e us) (("self", .ref e) :: gb us)) ∧
      (∀ e, ∀ x ∈ (((("self" : Str), Value.ref e) :: gb us) : List (Str × Value)), fd.scope.names.lookup x.1 = some .local) ∧ (∀ e : Addr, (((("self" : Str), Value.ref e) :: gb us) : List (Str × Value)).reverse.lookup ("self" : Str) = some (Value.ref e)) ∧
      (∀ e : Addr, ∀ x ∈ l us, (((("self" : Str), Value.ref e) :: gb us) : List (Str × Value)).reverse.lookup x.p = some x.v ∧ PySem.W.takerIn K C x.f = some none) ∧
      ∀ vs, Vals vs us → FV (fv vs) ((l us).map fun x => (x.f, x.v)).reverse)
section
variable {X : Cx} {k n : Nat} {C : Addr} {fv : List V → List (Str × V)} {x : Str} {p pos : Pos} {e : Expr} {es : List Expr} {t tk : TA} {ks : List Str} {kws : List Keyword} {mb : Str → Option Value}
/-- the call of the class, its arguments at hand -/
theorem runX {pins : List (Addr × Obj)} {σ : St} {H : Hp} {s : Shared} {Q : VK} {kw : Option (List Str)} {us : List Value} {vs : List V} (T : MkX X.K X.prog C kw n fv) (hr : Room 2 X.A) (hsup : X.mg "super" = none) (I : Inv X pins σ H s) (r : Vals vs us) (hl : us.length = n)
    (q : ∀ H2 e, Same H H2 → H e = none → ExAt H2 e C (fv vs) → Q (.ref e) H2) :
    wpAny (model X.prog X.w) X.A (match kw with | none => call (.ref C) us | some ks => call (.ref C) [] (ks.zip us)) (EP X pins σ Q) X.xe s := by
  obtain ⟨fI, cc, cda, B, newId, initId, bmB, fd, txt, kk, p0, p1, p2, p3, p4, p5, l, gb, T1, T2⟩ := T.ex
  obtain ⟨S, hl9, bt, hloc, hself, hx, hfv⟩ := T2 us hl
  obtain ⟨mb, hb, hbb⟩ := I.ok.mod.blt
  have hn : us.length ≤ sizeLine := by rw [hl, sizeLine_eq]; have := T.n1; omega
  have m2 : mb "super" = some (.type "super") := (hbb _ (by decide +kernel)).trans (by decide +kernel)
  obtain ⟨h, g, d, t, os⟩ := s
  have hm := I.ok.mod.glob.keeps I.bk
  have hb' := hb.keeps I.bk
  have dep : ∀ us kw, (X.A.under (.builtin "type.__call__" ⟨.ref C :: us, kw⟩)).depth < recursionLimit := fun us kw => by
    have := hr.dp
    rw [make_depth]
    omega
  have fin : ∀ h' tk L, (∀ b o, h.get? b = some o → h'.get? b = some o) → Fl h.objs.size L (h.objs.size + 1) C ((l us).map fun x => (x.f, x.v)).reverse h' → EP X pins σ Q (.ref (h.objs.size + 1)) ⟨h', g, d, tk, os⟩ := fun h' tk L kp F => by
    obtain ⟨H2, sm, ea, J⟩ := laidX (tk := tk) I kp (Nat.le_succ _) F (hfv vs r)
    exact ⟨.ref (h.objs.size + 1), H2, J, rfl, q H2 _ sm (I.hok.fresh (Nat.le_succ _)) ea⟩
  cases kw with
  | none => exact made T1 S hl9 I.kIn hm hb' hsup m2 I.nolimit (dep _ _) hn (bt _) (hloc _) (hself _) (hx _) fin
  | some ks => exact made (us := []) T1 S hl9 I.kIn hm hb' hsup m2 I.nolimit (dep _ _) (Nat.zero_le _) (bt _) (hloc _) (hself _) (hx _) fin
def tMkX (C : Addr) (n : Nat) (fv : List V → List (Str × V)) (t : TA) : TE := fun σ H Q => t σ H fun vs H1 => vs.length = n ∧ ∀ H2 e, Same H1 H2 → H1 e = none → ExAt H2 e C (fv vs) → Q (.ref e) H2
/-- C(e, ..) -/
theorem pe_mkX (T : MkX X.K X.prog C none n fv) (hk : PySem.W.keepIn X.K (.ref C) = true) (hr : Room 2 X.A) (hsup : X.mg "super" = none) (hg : Gl X x) (hm : X.mg x = some (.ref C)) (ha : PA X (e :: es) t)
    (hdb : (x == ("__debug__" : Str)) = false := by decide) (he : starEach (e :: es) X.env = (false, eval e X.env) :: starEach es X.env := by rfl) (hpl : (backTo pos (starEach es X.env)).any (·.1) = false := by rfl) :
    PE X (.Call (.Name x p) (e :: es) [] pos) (tMkX C n fv t) := by
  refine ⟨fun pins s σ H Q I h => ?_⟩
  refine wpAny_Call_Name_kw (ld_glob I hg hm ?_ hdb)
  refine PySem.W.callWith_K (h₀ := X.base) I.ok.mod.kin hk (thn (ha.run pos pins s σ H _ I h) fun us s1 ⟨vs, H1, I1, r, hl, q⟩ => ⟨I1.kIn, ?_⟩) he hpl
  exact runX (kw := none) T hr hsup I1 r (r.length.symm.trans hl) q
/-- C() -/
theorem pe_mkX0 (T : MkX X.K X.prog C none 0 fv) (hk : PySem.W.keepIn X.K (.ref C) = true) (hr : Room 2 X.A) (hsup : X.mg "super" = none) (hg : Gl X x) (hm : X.mg x = some (.ref C))
    (hdb : (x == ("__debug__" : Str)) = false := by decide) : PE X (.Call (.Name x p) [] [] pos) (tMkX C 0 fv tNil) := by
  refine ⟨fun pins s σ H Q I h => ?_⟩
  refine wpAny_Call_Name_kw (ld_glob I hg hm ?_ hdb)
  obtain ⟨_, q⟩ := h
  exact PySem.W.callWith_K0 I.kIn hk (runX T hr hsup I .nil rfl q)
/-- C(k = e, ..) -/
theorem pe_mkXK (T : MkX X.K X.prog C (some ks) n fv) (hk : PySem.W.keepIn X.K (.ref C) = true) (hr : Room 2 X.A) (hsup : X.mg "super" = none) (hg : Gl X x) (hm : X.mg x = some (.ref C)) (hkw : PK X kws tk)
    (hall : (backToKw pos (keywordEach kws X.env)).all (·.1.isSome) = true := by rfl) (hks : (backToKw pos (keywordEach kws X.env)).filterMap (·.1) = ks := by rfl)
    (hdb : (x == ("__debug__" : Str)) = false := by decide) (hpl : ((backTo pos (starEach [] X.env)).any (·.1) || (backToKw pos (keywordEach kws X.env)).any (·.1.isNone)) = false := by rfl) :
    PE X (.Call (.Name x p) [] kws pos) (tMkX C n fv tk) := by
  refine ⟨fun pins s σ H Q I h => ?_⟩
  refine wpAny_Call_Name_kw (ld_glob I hg hm ?_ hdb)
  refine PySem.W.callWith_KW0 (h₀ := X.base) I.ok.mod.kin hk hall (thn (hkw.run pos pins s σ H _ I h) fun us s1 ⟨vs, H1, I1, r, hl, q⟩ => ⟨I1.kIn, ?_⟩) hpl
  rw [hks]
  exact runX (kw := some ks) T hr hsup I1 r (r.length.symm.trans hl) q
end
/-- what the written part says of a class of exceptions, for its fields and isinstance -/
structure ClsR (K : PySem.W.Frag) (C : Addr) : Prop where
  cl : (PySem.W.clsIn K C).isSome = true
  ga : PySem.W.findIn K (.ref C) "__getattribute__" = some (some (.builtin "BaseException.__getattribute__"))
  gt : PySem.W.findIn K (.ref C) "__getattr__" = some none
  sb : PySem.W.subIn K (.ref C) (.type "BaseException") = some true
  di : PySem.W.hasDictIn K C = true
  ca : PySem.W.findIn K (.ref C) "__class__" = some (some (.builtin "object.__class__"))
  sp : PySem.W.specialIn K (.builtin "object.__class__") "__get__" = some (some (.builtin "getset_descriptor.__get__"))
  tk : PySem.W.takesIn K (.builtin "object.__class__") = some true
  mo : PySem.W.mroIn K C (.type "object") = some true
section
variable {X : Cx} {pins : List (Addr × Obj)} {σ : St} {H : Hp} {s : Shared} {a C : Addr} {fs : List (Str × V)}
theorem instX (I : Inv X pins σ H s) (h : ExAt H a C fs) : ∃ (ox : Obj) (od : Option Obj), PySem.W.InstAt s.heap a ox C od ∧ ∀ v, fs.lookup v ≠ none → ∃ o, od = some o ∧ ∃ m : Str → Option Value, (∀ f, RelO (fs.lookup f) (m f)) ∧ ∀ f, PySem.W.lookIn f o = some (m f) := by
  rcases h with ⟨rfl, h⟩ | ⟨dx, h1, h2⟩
  · obtain ⟨t1, ho⟩ := exo_at I.hok h
    exact ⟨_, none, ⟨ho, rfl, rfl, trivial⟩, fun v hv => absurd rfl hv⟩
  · obtain ⟨t1, ho⟩ := exo_at I.hok h1
    obtain ⟨m, hn, hr⟩ := exd_at I.hok h2
    obtain ⟨od, hod, hl⟩ := lookIn_ns hn
    exact ⟨_, some od, ⟨ho, rfl, rfl, hod⟩, fun v _ => ⟨od, rfl, m, hr, hl⟩⟩
variable {e : Expr} {f : Str} {pos : Pos} {ta : TE}
def tExF (K : PySem.W.Frag) (ta : TE) (f : Str) : TE := fun σ H Q => ta σ H fun x H1 => ∃ a C fs v, x = .ref a ∧ ExAt H1 a C fs ∧ ClsR K C ∧ PySem.W.findIn K (.ref C) f = some none ∧ fs.lookup f = some v ∧ Q v H1
/-- e.f of an exception -/
theorem pe_exf (he : PE X e ta) (hb : attributeBase e f X.env (eval e X.env) = eval e X.env) : PE X (.Attribute e f pos) (tExF X.K ta f) := by
  refine ⟨fun pins s σ H Q I h => ?_⟩
  refine attr_of hb (thn (he.run pins s σ H _ I h) fun u s1 ⟨x, H1, I1, rx, a, C, fs, v, ex, ea, T, nf, l, q⟩ => ?_)
  subst ex
  obtain rfl : u = Value.ref a := rx
  obtain ⟨ox, od, J, hf⟩ := instX I1 ea
  obtain ⟨o, rfl, m, hr, hl⟩ := hf f (by rw [l]; exact Option.some_ne_none v)
  have hm := hr f
  rw [l] at hm
  obtain ⟨u, hu, ru⟩ := RelO.some_of hm
  have hl' := hl f
  rw [hu] at hl'
  refine PySem.PX.exc_get I1.kIn J T.ga T.gt T.sb (PySem.W.findObj_own T.di nf rfl hl') (handed_of ru) ?_
  exact ⟨v, H1, I1.tok _, ru, q⟩
/-- isinstance(e, c) -/
def rIsX (K : PySem.W.Frag) : List V → Hp → VK → Prop := fun xs H Q => ∃ (a C : Addr) (fs : List (Str × V)) (c : V) (cv : Value) (b : Bool), xs = [.ref a, c] ∧ ExAt H a C fs ∧ ClsR K C ∧ (∀ u, RelV c u → u = cv) ∧ PySem.W.kitOne K (.ref C) cv = some b ∧ Q (.bl b) H
theorem call_isX : CallR X (.builtin "isinstance") (rIsX X.K) := by
  intro pins s σ H xs us Q I r h
  obtain ⟨a, C, fs, c, cv, b, rfl, ea, T, hc, e, q⟩ := h
  obtain ⟨u1, u2, rfl, r1, r2⟩ := vals2 r
  cases r1
  obtain rfl := hc _ r2
  obtain ⟨ox, od, J, _⟩ := instX I ea
  exact PySem.W.kia_one (PySem.W.kitx_exc T.cl T.ga T.gt T.sb T.ca T.sp T.tk T.mo) I.kIn J e (fun z => nomatch z) fun tk => ⟨.bl b, H, I.kept (t' := tk) fun _ _ z => z, rfl, q⟩
end
end XR
/-! Law-independent: heaps alike but for one address, the pot of a law, what its draws promise. -/
namespace XR
open PySem L2
/-- all but a is as it was -/
def But (a : Addr) (H H' : Hp) : Prop := ∀ b o, H b = some o → b ≠ a → H' b = some o
theorem But.refl (a : Addr) (H : Hp) : But a H H := fun _ _ h _ => h
theorem But.trans {a : Addr} {H H1 H2 : Hp} (x : But a H H1) (y : But a H1 H2) : But a H H2 := fun b o h n => y b o (x b o h n) n
theorem But.same {a : Addr} {H H1 H2 : Hp} (x : But a H H1) (y : Same H1 H2) : But a H H2 := fun b o h n => y b o (x b o h n)
theorem same_upd {H : Hp} {p : Addr} {o : HO} (h : H p = none) : Same H (upd H p o) := fun b u e => by
  rw [upd_ne (ne_of_none e h)]
  exact e
theorem But.del {a : Addr} {H H' : Hp} (x : But a H H') : Same (L2.del H a) (L2.del H' a) := fun b o h => by
  by_cases e : b = a
  · rw [e, del_same] at h; cases h
  · rw [del_ne e] at h ⊢
    exact x b o h e
theorem del_sub {a : Addr} {H : Hp} : Same (L2.del H a) H := fun b o h => by
  by_cases e : b = a
  · rw [e, del_same] at h; cases h
  · rw [del_ne e] at h
    exact h
def PotAt (H : Hp) (a : Addr) : Prop := ∃ p q : Int, H a = some (.lst [.int p, .int q]) ∧ 0 ≤ p ∧ 0 ≤ q ∧ q < 2147483647
def spPot (K : PySem.W.Frag) : Sp := fun vs H Q _ => ∃ (a : Addr) (ns : List Int) (k : Nat), vs = [.ref a, .int k] ∧ SqL K H a (ns.map V.int) ∧ ns.length ≤ 63 ∧ k ≤ 100 ∧
  ∀ p H', Same H H' → H p = none → PotAt H' p → Q (.ref p) H'
def spDraw : Sp := fun vs H Q _ => ∃ (a : Addr) (m : Int), vs = [.ref a, .int m] ∧ PotAt H a ∧ 0 < m ∧ m ≤ 1000 ∧
  ∀ (r : Int) H', 0 ≤ r → r < m → PotAt H' a → But a H H' → Q (.int r) H'
def spPick : Sp := fun vs H Q _ => ∃ (a b : Addr) (xs : List V), vs = [.ref a, .ref b] ∧ PotAt H a ∧ H b = some (.lst xs) ∧ a ≠ b ∧ 0 < xs.length ∧ xs.length ≤ 1000 ∧
  ∀ (x : V) H', x ∈ xs → PotAt H' a → But a H H' → Q x H'
theorem int_of_map {ns : List Int} {i : Nat} (h : i < ns.length) : (ns.map V.int)[i]? = some (V.int (ns.getD i 0)) := by
  rw [List.getElem?_map, List.getD_eq_getElem?_getD]
  rw [List.getElem?_eq_getElem h]
  rfl
end XR
namespace K16
open PySem L2 XR
def top (i : Nat) : Stmt := PySem.Challenge.pw_alldiffs_k16_whole_diffs_joined.main.body.getD i (.Pass ⟨0, 0, 0, 0⟩)
abbrev sPot : Stmt := top 26
abbrev sDraw : Stmt := top 27
abbrev sPick : Stmt := top 28
structure Blt (mg : Str → Option Value) : Prop where
  all : ∀ x : Str, x ∈ (["len", "abs", "max", "min", "int", "divmod", "repr", "isinstance", "enumerate", "range", "all", "super", "zip", "tuple", "dict", "bool", "str", "list"] : List Str) → mg x = none
def Blt.len {mg : Str → Option Value} (T : Blt mg) : mg "len" = none := T.all _ (by decide)
def Blt.abs {mg : Str → Option Value} (T : Blt mg) : mg "abs" = none := T.all _ (by decide)
def Blt.max {mg : Str → Option Value} (T : Blt mg) : mg "max" = none := T.all _ (by decide)
def Blt.min {mg : Str → Option Value} (T : Blt mg) : mg "min" = none := T.all _ (by decide)
def Blt.int {mg : Str → Option Value} (T : Blt mg) : mg "int" = none := T.all _ (by decide)
def Blt.divmod {mg : Str → Option Value} (T : Blt mg) : mg "divmod" = none := T.all _ (by decide)
def Blt.range {mg : Str → Option Value} (T : Blt mg) : mg "range" = none := T.all _ (by decide)
def Blt.enum {mg : Str → Option Value} (T : Blt mg) : mg "enumerate" = none := T.all _ (by decide)
section
variable {P : Program} {w : World} {K : PySem.W.Frag} {mg : Str → Option Value} {base : Heap}
theorem scPot : FnScope ["_law_script", "_law_index", "_law_cell"] ["_law_script", "_law_index"] (defScope sPot) := ⟨rfl, rfl, rfl, by decide +kernel, rfl, by decide +kernel, by decide +kernel⟩
theorem ok_pot {f : Addr} {fd : FuncData} (F : Fun K "_law_pot" "_law_pot" sPot f fd) (T : Blt mg) : FnOk P w K mg base CX0 1 f fd ["_law_script", "_law_index"] (spPot K) := by
  refine F.ok scPot (fun vs H Q E h => ?_) (fun cdv A outer s H vs Q E hr h => ?_)
  · obtain ⟨a, ns, k, rfl, _⟩ := h
    rfl
  · obtain ⟨a, ns, k, rfl, hS, hn, hk, q⟩ := h
    refine ⟨_, pss_cons (ps_set (i := 2) scPot.nd rfl (.inl rfl) (pe_ifExp (pt_cmpR op_lt (pv 1) (pe_callB call_len_seq (by rfl) T.len PySem.boot_len (pa_cons (pv 0) pa_nil)) (nomark _))
        (pe_callB call_abs (by rfl) T.abs (by decide +kernel) (pa_cons (pe_ix ix_list (pv 0) (pv 1) (fun _ _ => rfl)) pa_nil))
        (pe_op op_add (pe_op op_mul pe_int (pv 1)) pe_int)))
      (pss_one (ps_ret (pe_lst (pa_cons (pe_callB (call_max2 rfl) (by rfl) T.max (by decide +kernel) (pa_cons pe_int (pa_cons (pe_op op_sub (pv 2) (pe_op op_pow pe_int pe_int)) pa_nil)))
        (pa_cons (pe_op op_mod (pe_callTy call_int1 (by rfl) T.int (by decide +kernel) (pa_cons (pe_op op_add (pe_op op_add (pe_op op_mul (pe_op op_mod (pe_callTy call_int1 (by rfl) T.int (by decide +kernel) (pa_cons (pv 2) pa_nil)) pe_int) pe_int) (pe_op op_mul pe_int (pv 1))) pe_int) pa_nil)) pe_int) pa_nil))))), ?_⟩
    refine ⟨_, rfl, _, rfl, a, _, rfl, .inl hS, _, _, rfl, rfl, _, rfl, ?_⟩
    refine ite2 (fun h1 => ?_) (fun h1 => ?_)
    · have h2 : k < ns.length := by
        have h3 := of_decide_eq_true h1
        rw [List.length_map] at h3
        omega
      refine ⟨_, rfl, _, rfl, a, _, _, _, rfl, rfl, hS, atI_nat (int_of_map h2), _, rfl, ?_⟩
      have hc : (0 : Int) ≤ (if ns.getD k 0 < 0 then -(ns.getD k 0) else ns.getD k 0) := by split <;> omega
      revert hc
      generalize (if ns.getD k 0 < 0 then -(ns.getD k 0) else ns.getD k 0) = c
      intro hc
      refine ⟨_, rfl, _, _, rfl, rfl, ⟨by decide, by decide, by decide⟩, _, _, rfl, rfl, _, _, rfl, _, rfl, .inl ⟨_, rfl, _, _, rfl, rfl, by show (0 : Int) < 2147483629; decide, _, _, rfl, rfl, .inr ⟨by decide, by decide⟩, _, rfl, _, _, rfl, rfl, .inl ⟨by decide, by decide⟩, _, _, rfl, rfl, _, _, rfl, rfl,
        .inl ⟨_, rfl, _, _, rfl, rfl, by show (0 : Int) < 2147483647; decide, by show 2 ≤ sizeLine; decide, fun p hp => ?_⟩⟩⟩
      refine q p _ (same_upd hp) hp ⟨_, _, upd_same, ?_, Int.emod_nonneg _ (by decide), Int.emod_lt_of_pos _ (by decide)⟩

      split <;> omega
    · refine ⟨_, rfl, _, _, rfl, rfl, .inl ⟨by decide, by decide⟩, _, _, rfl, rfl, ?_⟩
      refine ⟨_, rfl, _, _, rfl, rfl, ⟨by decide, by decide, by decide⟩, _, _, rfl, rfl, _, _, rfl, _, rfl, .inl ⟨_, rfl, _, _, rfl, rfl, by show (0 : Int) < 2147483629; decide, _, _, rfl, rfl, .inr ⟨by decide, by decide⟩, _, rfl, _, _, rfl, rfl, .inl ⟨by decide, by decide⟩, _, _, rfl, rfl, _, _, rfl, rfl,
        .inl ⟨_, rfl, _, _, rfl, rfl, by show (0 : Int) < 2147483647; decide, by show 2 ≤ sizeLine; decide, fun p hp => ?_⟩⟩⟩
      refine q p _ (same_upd hp) hp ⟨_, _, upd_same, ?_, Int.emod_nonneg _ (by decide), Int.emod_lt_of_pos _ (by decide)⟩

      split <;> omega
theorem scDraw : FnScope ["_law_pot_here", "_law_many", "_law_digit"] ["_law_pot_here", "_law_many"] (defScope sDraw) := ⟨rfl, rfl, rfl, by decide +kernel, rfl, by decide +kernel, by decide +kernel⟩
theorem ok_draw {f : Addr} {fd : FuncData} (F : Fun K "_law_draw" "_law_draw" sDraw f fd) (T : Blt mg) : FnOk P w K mg base CX0 1 f fd ["_law_pot_here", "_law_many"] spDraw := by
  refine F.ok scDraw (fun vs H Q E h => ?_) (fun cdv A outer s H vs Q E hr h => ?_)
  · obtain ⟨a, m, rfl, _⟩ := h
    rfl
  · obtain ⟨a, m, rfl, ⟨p, q, ha, hp, hq, hq2⟩, hm, hm2, z⟩ := h
    refine ⟨_, pss_cons (ps_if (pt_cmpR op_gt (pe_ix ix_list (pv 0) pe_int (fun _ _ => rfl)) pe_int (nomark _))
        (pss_cons (ps_asg (pe_callB call_divmod (by rfl) T.divmod (by decide +kernel) (pa_cons (pe_ix ix_list (pv 0) pe_int (fun _ _ => rfl)) (pa_cons (pv 1) pa_nil)))
            (pg_tup rfl (pgs_cons (pg_sub (pv 0) pe_int set_list) (pgs_cons (pg_name (i := 2) scDraw.nd rfl (.inl rfl)) pgs_nil))))
          (pss_one (ps_ret (pv 2))))
        pss_nil)
      (pss_cons (ps_asg (pe_op op_mod (pe_callTy call_int1 (by rfl) T.int (by decide +kernel) (pa_cons (pe_op op_add (pe_op op_mul (pe_ix ix_list (pv 0) pe_int (fun _ _ => rfl)) pe_int) pe_int) pa_nil)) pe_int) (pg_sub (pv 0) pe_int set_list))
      (pss_one (ps_ret (pe_op op_mod (pe_callTy call_int1 (by rfl) T.int (by decide +kernel) (pa_cons (pe_op op_fdiv (pe_op op_mod (pe_callTy call_int1 (by rfl) T.int (by decide +kernel) (pa_cons (pe_op op_mul (pe_ix ix_list (pv 0) pe_int (fun _ _ => rfl)) (pe_ix ix_list (pv 0) pe_int (fun _ _ => rfl))) pa_nil)) pe_int) pe_int) pa_nil)) (pv 1))))), ?_⟩
    refine ⟨_, rfl, a, _, _, _, rfl, rfl, .inl (.inl ha), atI_nat (j := 0) rfl, _, _, rfl, rfl, _, rfl, ?_⟩
    refine ite2 (fun h1 => ?_) (fun h1 => ?_)
    · refine ⟨_, rfl, a, _, _, _, rfl, rfl, .inl (.inl ha), atI_nat (j := 0) rfl, _, rfl, _, _, rfl, ⟨hm, by omega⟩, fun t ht => ?_⟩
      refine ⟨t, _, rfl, .inl (.inl upd_same), rfl, ?_⟩
      have hat : a ≠ t := ne_of_none ha ht
      refine ⟨_, _, rfl, _, rfl, a, _, _, 0, rfl, rfl, (by rw [upd_ne hat]; exact ha), rfl, ?_⟩
      refine ⟨_, _, rfl, rfl, _, rfl, ?_⟩
      have hp1 : (0 : Int) < p := of_decide_eq_true h1
      refine z (p % m) _ (Int.emod_nonneg _ (by omega)) (Int.emod_lt_of_pos _ hm) ⟨p / m, q, upd_same, Int.ediv_nonneg hp (by omega), hq, hq2⟩ fun b o hb hn => ?_
      rw [upd_ne hn, upd_ne (ne_of_none hb ht)]
      exact hb
    · have m1 : (0 : Int) < 2147483629 := by decide
      have m2 : (0 : Int) < 2147483563 := by decide
      refine ⟨_, rfl, a, _, _, _, rfl, rfl, .inl (.inl ha), atI_nat (j := 1) rfl, _, _, rfl, rfl, .inr ⟨by decide, by decide⟩, _, _, rfl, rfl, .inl ⟨_, rfl, _, _, rfl, rfl, m1, _, rfl, a, _, _, 1, rfl, rfl, ha, rfl, ?_⟩⟩
      have q0 : 0 ≤ (q * 39373 + 12227) % 2147483629 := Int.emod_nonneg _ (by decide)
      have q1 : (q * 39373 + 12227) % 2147483629 < 2147483629 := Int.emod_lt_of_pos _ (by decide)
      refine ⟨_, rfl, a, _, _, _, rfl, rfl, .inl (.inl upd_same), atI_nat (j := 1) rfl, _, rfl, a, _, _, _, rfl, rfl, .inl (.inl upd_same), atI_nat (j := 1) rfl, _, _, rfl, rfl, .inl ⟨by omega, by omega⟩, .inl ⟨_, rfl, _, _, rfl, rfl, m2, _, _, rfl, rfl, ⟨by decide, by decide⟩, .inl ⟨_, rfl, _, rfl, _, _, rfl, rfl, hm, ?_⟩⟩⟩
      refine z _ _ (Int.emod_nonneg _ (by omega)) (Int.emod_lt_of_pos _ hm) ⟨p, (q * 39373 + 12227) % 2147483629, upd_same, hp, q0, by omega⟩ fun b o hb hn => ?_
      rw [upd_ne hn]
      exact hb
theorem scPick : FnScope ["_law_pot_here", "_law_some"] ["_law_pot_here", "_law_some"] (defScope sPick) := ⟨rfl, rfl, rfl, by decide +kernel, rfl, by decide +kernel, by decide +kernel⟩
theorem ok_pick {f fD : Addr} {fd fdD : FuncData} (F : Fun K "_law_pick" "_law_pick" sPick f fd) (T : Blt mg) (FD : Fun K "_law_draw" "_law_draw" sDraw fD fdD) (bD : Binds K fdD ["_law_pot_here", "_law_many"] []) (mD : mg "_law_draw" = some (.ref fD)) : FnOk P w K mg base CX0 2 f fd ["_law_pot_here", "_law_some"] spPick := by
  have GD : FnOk P w K mg base CX0 1 fD fdD ["_law_pot_here", "_law_many"] spDraw := ok_draw FD T
  refine F.ok scPick (fun vs H Q E h => ?_) (fun cdv A outer s H vs Q E hr h => ?_)
  · obtain ⟨a, b, xs, rfl, _⟩ := h
    rfl
  · obtain ⟨a, b, xs, rfl, hpot, hb, hab, h0, h1, z⟩ := h
    refine ⟨_, pss_one (ps_ret (pe_ix ix_list (pv 1) (pe_call GD hr rfl mD FD.kp bD .nil pass0 (pa_cons (pv 0) (pa_cons (pe_callB call_len_seq (by rfl) T.len PySem.boot_len (pa_cons (pv 1) pa_nil)) pa_nil))) (fun _ _ => rfl))), ?_⟩
    refine ⟨_, rfl, _, rfl, _, rfl, b, xs, rfl, .inl (.inl (.inl hb)), a, _, rfl, hpot, by omega, by omega, fun r H' r0 r1 hp' but => ?_⟩
    have hlt : r.toNat < xs.length := by omega
    have er : ((r.toNat : Nat) : Int) = r := by omega
    have ea : atI xs ((r.toNat : Nat) : Int) = some xs[r.toNat] := atI_nat (List.getElem?_eq_getElem hlt)
    rw [er] at ea
    exact ⟨b, xs, r, xs[r.toNat], rfl, rfl, .inl (.inl (but b _ hb (Ne.symm hab))), ea, z _ H' (List.getElem_mem hlt) hp' but⟩
end
end K16
namespace XR
open PySem L2
/-- the lines that a law draws -/
def words : List Str := ["a", "b", "c", "", " ", "a ", "keep", "-", "+a", "ab", "A", "new"]
def Wd (ss : List Str) : Prop := ∀ s, s ∈ ss → s ∈ words
theorem ll20 {n : Nat} (h : n ≤ 20) : n ≤ sizeLine := Nat.le_trans h (by decide)
/-- a drawn text: a new list of words -/
def spText : Sp := fun vs H Q _ => ∃ (a : Addr) (m : Int), vs = [.ref a, .int m] ∧ PotAt H a ∧ 0 ≤ m ∧ m ≤ 100 ∧
  ∀ (p : Addr) (ss : List Str) H', PotAt H' a → But a H H' → H p = none → H' p = some (.lst (ss.map V.str)) → Wd ss → (ss.length : Int) ≤ m → Q (.ref p) H'
theorem But.new {a p : Addr} {H H' : Hp} {o : HO} (b : But a H H') (h : H' p = none) : But a H (upd H' p o) := fun x u hx n => by
  have := b x u hx n
  rw [upd_ne (ne_of_none this h)]
  exact this
theorem PotAt.same {a : Addr} {H H' : Hp} (s : Same H H') (h : PotAt H a) : PotAt H' a := by
  obtain ⟨p, q, e, r⟩ := h
  exact ⟨p, q, s _ _ e, r⟩
theorem PotAt.ne {a p : Addr} {H : Hp} (h : PotAt H a) (n : H p = none) : a ≠ p := by
  obtain ⟨_, _, e, _⟩ := h
  exact ne_of_none e n
theorem PotAt.upd {a p : Addr} {H : Hp} {o : HO} (h : PotAt H a) (n : a ≠ p) : PotAt (L2.upd H p o) a := by
  obtain ⟨p', q, e, r⟩ := h
  exact ⟨p', q, by rw [upd_ne n]; exact e, r⟩
theorem Same.but {a : Addr} {H H' : Hp} (s : Same H H') : But a H H' := fun b o h _ => s b o h
end XR
namespace K16
open PySem L2 XR
abbrev sText : Stmt := top 29
section
variable {P : Program} {w : World} {K : PySem.W.Frag} {mg : Str → Option Value} {base : Heap}
theorem scText : FnScope ["_law_pot_here", "_law_most", "_law_words", "_law_turn"] ["_law_pot_here", "_law_most"] (defScope sText) := ⟨rfl, rfl, rfl, by decide +kernel, rfl, by decide +kernel, by decide +kernel⟩
structure Draws (P : Program) (w : World) (K : PySem.W.Frag) (mg : Str → Option Value) (base : Heap) (fD fP : Addr) (fdD fdP : FuncData) : Prop where
  FD : Fun K "_law_draw" "_law_draw" sDraw fD fdD
  GD : FnOk P w K mg base CX0 1 fD fdD ["_law_pot_here", "_law_many"] spDraw
  bD : Binds K fdD ["_law_pot_here", "_law_many"] []
  mD : mg "_law_draw" = some (.ref fD)
  FP : Fun K "_law_pick" "_law_pick" sPick fP fdP
  GP : FnOk P w K mg base CX0 2 fP fdP ["_law_pot_here", "_law_some"] spPick
  bP : Binds K fdP ["_law_pot_here", "_law_some"] []
  mP : mg "_law_pick" = some (.ref fP)
theorem ok_text {f fD fP : Addr} {fd fdD fdP : FuncData} (F : Fun K "_law_text" "_law_text" sText f fd) (T : Blt mg) (D : Draws P w K mg base fD fP fdD fdP) : FnOk P w K mg base CX0 3 f fd ["_law_pot_here", "_law_most"] spText := by
  refine F.ok scText (fun vs H Q E h => ?_) (fun cdv A outer s H vs Q E hr h => ?_)
  · obtain ⟨a, m, rfl, _⟩ := h
    rfl
  · obtain ⟨a, m, rfl, hpot, m0, m1, z⟩ := h
    refine ⟨_, pss_cons (ps_set (i := 2) scText.nd rfl (.inr rfl) (pe_call D.GP hr rfl D.mP D.FP.kp D.bP .nil pass0 (pa_cons (pv 0) (pa_cons (pe_lst
          (pa_cons (pe_lst (pa_cons pe_str (pa_cons pe_str pa_nil)))
          (pa_cons (pe_lst (pa_cons pe_str (pa_cons pe_str (pa_cons pe_str pa_nil))))
          (pa_cons (pe_lst (pa_cons pe_str (pa_cons pe_str (pa_cons pe_str (pa_cons pe_str (pa_cons pe_str pa_nil))))))
          (pa_cons (pe_lst (pa_cons pe_str (pa_cons pe_str (pa_cons pe_str (pa_cons pe_str (pa_cons pe_str pa_nil)))))) pa_nil))))) pa_nil))))
      (pss_one (ps_ret (pe_lc (own := [("_law_turn", 3)]) (g := gName 3) (tt := tYes) (te := tCall spPick [] E0 (tCons (tVar 0) (tCons (tVar 2) tNil))) rfl scText.nd
          (pi_range1 rfl T.range (pa_cons (pe_call D.GD (hr.mono (by decide)) rfl D.mD D.FD.kp D.bD .nil pass0 (pa_cons (pv 0) (pa_cons (pe_op op_add (pv 1) pe_int) pa_nil))) pa_nil))
          (blkOk_by (own := [("_law_turn", 3)]) (N := ["_law_pot_here", "_law_most", "_law_words", "_law_turn"]) (sc := defScope sText) (by decide +kernel))
          (fun _ _ _ _ _ => pg_name (i := 3) scText.nd rfl (Or.inl rfl)) (fun _ _ _ _ _ => pts_nil)
          (fun _ _ _ _ _ => pe_call D.GP hr rfl D.mP D.FP.kp D.bP .nil pass0 (pa_cons (pv 0) (pa_cons (pv 2) pa_nil)))))), ?_⟩
    refine ⟨_, rfl, ll20 (by show 2 ≤ 20; decide), fun p0 n0 => ⟨ll20 (by show 3 ≤ 20; decide), fun p1 n1 => ⟨ll20 (by show 5 ≤ 20; decide), fun p2 n2 => ⟨ll20 (by show 5 ≤ 20; decide), fun p3 n3 => ⟨ll20 (by show 4 ≤ 20; decide), fun p4 n4 => ?_⟩⟩⟩⟩⟩
    have s0 := same_upd (o := .lst [V.str "a", V.str "b"]) n0
    have s1 := same_upd (o := .lst [V.str "a", V.str "b", V.str "c"]) n1
    have s2 := same_upd (o := .lst [V.str "a", V.str "", V.str " ", V.str "a ", V.str "keep"]) n2
    have s3 := same_upd (o := .lst [V.str "-", V.str "+a", V.str "ab", V.str "a", V.str "A"]) n3
    have s4 := same_upd (o := .lst [V.ref p0, V.ref p1, V.ref p2, V.ref p3]) n4
    have g4 := upd_same (H := upd (upd (upd (upd H p0 (.lst [V.str "a", V.str "b"])) p1 (.lst [V.str "a", V.str "b", V.str "c"])) p2 (.lst [V.str "a", V.str "", V.str " ", V.str "a ", V.str "keep"])) p3 (.lst [V.str "-", V.str "+a", V.str "ab", V.str "a", V.str "A"])) (a := p4) (o := .lst [V.ref p0, V.ref p1, V.ref p2, V.ref p3])
    have a0 := hpot.ne n0
    have a1 := (hpot.same s0).ne n1
    have a2 := ((hpot.same s0).same s1).ne n2
    have a3 := (((hpot.same s0).same s1).same s2).ne n3
    have a4 := ((((hpot.same s0).same s1).same s2).same s3).ne n4
    have g0 := s4 _ _ (s3 _ _ (s2 _ _ (s1 _ _ (upd_same (H := H) (a := p0) (o := .lst [V.str "a", V.str "b"])))))
    have g1 := s4 _ _ (s3 _ _ (s2 _ _ (upd_same (a := p1) (o := .lst [V.str "a", V.str "b", V.str "c"]))))
    have g2 := s4 _ _ (s3 _ _ (upd_same (a := p2) (o := .lst [V.str "a", V.str "", V.str " ", V.str "a ", V.str "keep"])))
    have g3 := s4 _ _ (upd_same (a := p3) (o := .lst [V.str "-", V.str "+a", V.str "ab", V.str "a", V.str "A"]))
    have sm := s0.trans (s1.trans (s2.trans (s3.trans s4)))
    have hpG := hpot.same sm
    refine ⟨a, p4, [V.ref p0, V.ref p1, V.ref p2, V.ref p3], rfl, hpG, g4, a4, by show 0 < 4; decide, by show 4 ≤ 1000; decide, fun x H1 hx hp1 b1 => ?_⟩
    clear s0 s1 s2 s3 s4 n1 n2 n3 n4
    generalize upd (upd (upd (upd (upd H p0 (.lst [V.str "a", V.str "b"])) p1 (.lst [V.str "a", V.str "b", V.str "c"])) p2 (.lst [V.str "a", V.str "", V.str " ", V.str "a ", V.str "keep"])) p3 (.lst [V.str "-", V.str "+a", V.str "ab", V.str "a", V.str "A"])) p4 (.lst [V.ref p0, V.ref p1, V.ref p2, V.ref p3]) = G at g0 g1 g2 g3 g4 sm hpG b1
    obtain ⟨pw, ws, rfl, hw, hne, w0, w5, hwd⟩ : ∃ pw ws, x = .ref pw ∧ G pw = some (.lst (ws.map V.str)) ∧ a ≠ pw ∧ 0 < ws.length ∧ ws.length ≤ 5 ∧ Wd ws := by
      simp only [List.mem_cons, List.not_mem_nil, or_false] at hx
      rcases hx with rfl | rfl | rfl | rfl
      · exact ⟨p0, ["a", "b"], rfl, g0, a0, by decide, by decide, by unfold Wd; decide⟩
      · exact ⟨p1, ["a", "b", "c"], rfl, g1, a1, by decide, by decide, by unfold Wd; decide⟩
      · exact ⟨p2, ["a", "", " ", "a ", "keep"], rfl, g2, a2, by decide, by decide, by unfold Wd; decide⟩
      · exact ⟨p3, ["-", "+a", "ab", "a", "A"], rfl, g3, a3, by decide, by decide, by unfold Wd; decide⟩
    have hw1 := b1 _ _ hw hne.symm
    refine ⟨_, rfl, _, rfl, _, _, rfl, rfl, a, m + 1, rfl, hp1, by omega, by omega, fun r H2 r0 r1 hp2 b2 => ?_⟩
    have hw2 := b2 _ _ hw1 hne.symm
    refine ⟨r, rfl, by omega, by omega, fun c nc => ?_⟩
    have hac := hp2.ne nc
    have hHc : H c = none := by
      cases e : H c with
      | none => rfl
      | some o =>
        have := b2 _ _ (b1 _ _ (sm _ _ e) hac.symm) hac.symm
        rw [nc] at this; cases this
    refine lc_range (n := r.toNat) (fun j H' => PotAt H' a ∧ But a H2 H' ∧ ∃ ss : List Str, H' c = some (.lst (ss.map V.str)) ∧ Wd ss ∧ ss.length = j) ⟨hp2.upd hac, (But.refl a H2).new nc, [], upd_same, (fun s h => by cases h), rfl⟩ ?_ ?_
    · rintro j H' hj ⟨hp', b', ss, hc, hwd', hl⟩
      refine ⟨rfl, ?_⟩
      unfold tYes
      dsimp only
      rw [if_pos rfl]
      have hw' := b' _ _ hw2 hne.symm
      refine ⟨_, rfl, _, rfl, a, pw, ws.map V.str, rfl, hp', hw', hne, by rw [List.length_map]; exact w0, by rw [List.length_map]; omega, fun x H3 hx hp3 b3 => ?_⟩
      obtain ⟨s, hs, rfl⟩ := List.mem_map.mp hx
      have hc3 := b3 _ _ hc hac.symm
      refine ⟨_, hc3, ?_, hp3.upd hac, ?_, ss ++ [s], ?_, ?_, ?_⟩
      · rw [List.length_map, hl]
        exact Nat.lt_of_lt_of_le hj (Nat.le_trans (show r.toNat ≤ 101 by omega) (by decide))
      · intro b o hb hn
        have hb' := b3 _ _ (b' _ _ hb hn) hn
        by_cases e : b = c
        · subst e; rw [nc] at hb; cases hb
        · rw [upd_ne e]; exact hb'
      · rw [upd_same, List.map_append]; rfl
      · intro y hy
        rcases List.mem_append.mp hy with hy | hy
        · exact hwd' y hy
        · rw [List.mem_singleton.mp hy]; exact hwd s hs
      · rw [List.length_append, hl]; rfl
    · rintro H' ⟨hp', b', ss, hc, hwd', hl⟩
      exact z c ss H' hp' (fun b o hb hn => b' _ _ (b2 _ _ (b1 _ _ (sm _ _ hb) hn) hn) hn) hHc hc hwd' (by omega)
end
end K16
namespace XR
open PySem L2
theorem But.fresh {a p : Addr} {H H' : Hp} (b : But a H H') (h : PotAt H' a) (n : H' p = none) : H p = none := by
  cases e : H p with
  | none => rfl
  | some o =>
    have := b _ _ e (h.ne n).symm
    rw [n] at this; cases this
theorem cut_to (ss : List Str) {m : Int} (h : 0 ≤ m) : cutV (ss.map V.str) none (some m) = (ss.take m.toNat).map V.str := by
  unfold cutV HT.sIx
  simp only [List.drop_zero, Nat.sub_zero, if_neg (show ¬ m < 0 by omega), List.length_map]
  rw [← List.map_take]
  congr 1
  by_cases q : m.toNat ≤ ss.length
  · rw [Nat.min_eq_left q]
  · rw [Nat.min_eq_right (by omega), List.take_of_length_le (Nat.le_refl _), List.take_of_length_le (by omega)]
theorem Wd.take {ss : List Str} (h : Wd ss) (n : Nat) : Wd (ss.take n) := fun s hs => h s (List.mem_of_mem_take hs)
theorem Wd.append {ss ts : List Str} (h : Wd ss) (k : Wd ts) : Wd (ss ++ ts) := fun s hs => by
  rcases List.mem_append.mp hs with hs | hs
  · exact h s hs
  · exact k s hs
theorem Wd.one {s : Str} (h : s ∈ words) : Wd [s] := fun x hx => by rw [List.mem_singleton.mp hx]; exact h
theorem Wd.two {s t : Str} (h : s ∈ words) (k : t ∈ words) : Wd [s, t] := fun x hx => by
  simp only [List.mem_cons, List.not_mem_nil, or_false] at hx
  rcases hx with rfl | rfl
  · exact h
  · exact k
/-- a text near another one -/
def spNear : Sp := fun vs H Q _ => ∃ (a l : Addr) (ls : List Str) (m : Int), vs = [.ref a, .ref l, .int m] ∧ PotAt H a ∧ H l = some (.lst (ls.map V.str)) ∧ a ≠ l ∧ Wd ls ∧ ls.length ≤ 60 ∧ 0 ≤ m ∧ m ≤ 100 ∧
  ∀ (p : Addr) (ss : List Str) H', PotAt H' a → But a H H' → H p = none → H' p = some (.lst (ss.map V.str)) → Wd ss → (ss.length : Int) ≤ m → Q (.ref p) H'
end XR
namespace K16
open PySem L2 XR
abbrev sNear : Stmt := top 30
section
variable {P : Program} {w : World} {K : PySem.W.Frag} {mg : Str → Option Value} {base : Heap}
theorem scNear : FnScope ["_law_pot_here", "_law_lines", "_law_most", "_law_found", "_law_line", "_law_way"] ["_law_pot_here", "_law_lines", "_law_most"] (defScope sNear) := ⟨rfl, rfl, rfl, by decide +kernel, rfl, by decide +kernel, by decide +kernel⟩
theorem ok_near {f fD fP : Addr} {fd fdD fdP : FuncData} (F : Fun K "_law_near" "_law_near" sNear f fd) (T : Blt mg) (D : Draws P w K mg base fD fP fdD fdP) : FnOk P w K mg base CX0 3 f fd ["_law_pot_here", "_law_lines", "_law_most"] spNear := by
  refine F.ok scNear (fun vs H Q E h => ?_) (fun cdv A outer s H vs Q E hr h => ?_)
  · obtain ⟨a, l, ls, m, rfl, _⟩ := h
    rfl
  · obtain ⟨a, l, ls, m, rfl, hpot, hl, hal, wl, l60, m0, m1, z⟩ := h
    refine ⟨_, pss_cons (ps_set (i := 3) scNear.nd rfl (.inl rfl) (pe_lst pa_nil))
      (pss_cons (ps_for PassesOwn.never rfl (pi_list (pv 1)) (pg_name (i := 4) scNear.nd rfl (.inl rfl))
        (pss_cons (ps_set (i := 5) scNear.nd rfl (.inl rfl) (pe_call D.GD (hr.mono (by decide)) rfl D.mD D.FD.kp D.bD .nil pass0 (pa_cons (pv 0) (pa_cons pe_int pa_nil))))
        (pss_one (ps_set (i := 3) scNear.nd rfl (.inl rfl) (pe_op op_cat (pv 3) (pe_ix ix_list (pe_lst
          (pa_cons (pe_lst (pa_cons (pv 4) pa_nil)) (pa_cons (pe_lst (pa_cons (pv 4) pa_nil)) (pa_cons (pe_lst (pa_cons (pv 4) pa_nil)) (pa_cons (pe_lst pa_nil) (pa_cons (pe_lst (pa_cons (pv 4) (pa_cons (pv 4) pa_nil)))
          (pa_cons (pe_lst (pa_cons (pe_call D.GP hr rfl D.mP D.FP.kp D.bP .nil pass0 (pa_cons (pv 0) (pa_cons (pe_lst (pa_cons pe_str (pa_cons pe_str (pa_cons pe_str pa_nil)))) pa_nil))) (pa_cons (pv 4) pa_nil))) pa_nil))))))) (pv 5) (fun _ _ => rfl)))))))
      (pss_one (ps_ret (pe_slice sl_list (pv 3) po_none (po_some (pv 2)))))), ?_⟩
    refine ⟨ll20 (by decide), fun p0 n0 => ?_⟩
    refine ⟨_, rfl, l, rfl, ⟨_, SqL.of ((same_upd n0) _ _ hl)⟩, ?_⟩
    refine for_list (xs := ls.map V.str) (fun i σ H' => PotAt H' a ∧ But a H H' ∧ ∃ pf fs x4 x5, σ = [some (V.ref a), some (V.ref l), some (V.int m), some (V.ref pf), x4, x5] ∧ H pf = none ∧ H' pf = some (.lst (fs.map V.str)) ∧ Wd fs ∧ fs.length ≤ 2 * i)
      ⟨hpot.upd (hpot.ne n0), (But.refl a H).new n0, p0, [], _, _, rfl, n0, upd_same, (fun s h => by cases h), Nat.le_refl _⟩ (fun i σ H' hi ⟨_, hb, _⟩ => SqL.of (hb _ _ hl hal.symm)) ?_ ?_
    · rintro i x σ G hx ⟨hp, hb, pf, fs, x4, x5, rfl, npf, hpf, wf, lf⟩
      rw [List.getElem?_map] at hx
      obtain ⟨ln, hln, rfl⟩ := Option.map_eq_some_iff.mp hx
      have hi : i < ls.length := (List.getElem?_eq_some_iff.mp hln).1
      have lnw : ln ∈ words := wl _ (List.mem_of_getElem? hln)
      have haf : a ≠ pf := by
        intro e
        obtain ⟨_, _, e2, _⟩ := hpot
        rw [e, npf] at e2; cases e2
      refine ⟨_, rfl, a, 6, rfl, hp, by decide, by decide, fun r G1 r0 r1 hp1 b1 => ?_⟩
      have hf1 := b1 _ _ hpf haf.symm
      refine ⟨_, rfl, _, rfl, ll20 (by show 1 ≤ 20; decide), fun q0 k0 => ⟨_, rfl, ll20 (by show 1 ≤ 20; decide), fun q1 k1 => ⟨_, rfl, ll20 (by show 1 ≤ 20; decide), fun q2 k2 => ⟨ll20 (by decide), fun q3 k3 => ⟨_, rfl, _, rfl, ll20 (by show 2 ≤ 20; decide), fun q4 k4 => ⟨_, rfl, ll20 (by show 3 ≤ 20; decide), fun q5 k5 => ?_⟩⟩⟩⟩⟩⟩
      have s0 := same_upd (o := .lst [V.str ln]) k0
      have s1 := same_upd (o := .lst [V.str ln]) k1
      have s2 := same_upd (o := .lst [V.str ln]) k2
      have s3 := same_upd (o := .lst []) k3
      have s4 := same_upd (o := .lst [V.str ln, V.str ln]) k4
      have s5 := same_upd (o := .lst [V.str "a", V.str "b", V.str "new"]) k5
      have g0 := s5 _ _ (s4 _ _ (s3 _ _ (s2 _ _ (s1 _ _ (upd_same (H := G1) (a := q0) (o := .lst [V.str ln]))))))
      have g1 := s5 _ _ (s4 _ _ (s3 _ _ (s2 _ _ (upd_same (a := q1) (o := .lst [V.str ln])))))
      have g2 := s5 _ _ (s4 _ _ (s3 _ _ (upd_same (a := q2) (o := .lst [V.str ln]))))
      have g3 := s5 _ _ (s4 _ _ (upd_same (a := q3) (o := .lst [])))
      have g4 := s5 _ _ (upd_same (a := q4) (o := .lst [V.str ln, V.str ln]))
      have g5 := upd_same (H := upd (upd (upd (upd (upd G1 q0 (.lst [V.str ln])) q1 (.lst [V.str ln])) q2 (.lst [V.str ln])) q3 (.lst [])) q4 (.lst [V.str ln, V.str ln])) (a := q5) (o := .lst [V.str "a", V.str "b", V.str "new"])
      have a0 := hp1.ne k0
      have a1 := (hp1.same s0).ne k1
      have a2 := ((hp1.same s0).same s1).ne k2
      have a3 := (((hp1.same s0).same s1).same s2).ne k3
      have a4 := ((((hp1.same s0).same s1).same s2).same s3).ne k4
      have a5 := (((((hp1.same s0).same s1).same s2).same s3).same s4).ne k5
      have sm := s0.trans (s1.trans (s2.trans (s3.trans (s4.trans s5))))
      have hpG := hp1.same sm
      have hfG := sm _ _ hf1
      refine ⟨a, q5, [V.str "a", V.str "b", V.str "new"], rfl, hpG, g5, a5, by show 0 < 3; decide, by show 3 ≤ 1000; decide, fun x G3 hx3 hp3 b3 => ?_⟩
      clear s0 s1 s2 s3 s4 s5 k0 k1 k2 k3 k4 k5
      generalize upd (upd (upd (upd (upd (upd G1 q0 (.lst [V.str ln])) q1 (.lst [V.str ln])) q2 (.lst [V.str ln])) q3 (.lst [])) q4 (.lst [V.str ln, V.str ln])) q5 (.lst [V.str "a", V.str "b", V.str "new"]) = G2 at g0 g1 g2 g3 g4 g5 sm hpG hfG b3
      obtain ⟨xs, rfl, xw⟩ : ∃ xs : Str, x = .str xs ∧ xs ∈ words := by
        simp only [List.mem_cons, List.not_mem_nil, or_false] at hx3
        rcases hx3 with rfl | rfl | rfl
        · exact ⟨_, rfl, by decide⟩
        · exact ⟨_, rfl, by decide⟩
        · exact ⟨_, rfl, by decide⟩
      refine ⟨_, rfl, ll20 (by show 2 ≤ 20; decide), fun q6 k6 => ⟨ll20 (by show 6 ≤ 20; decide), fun q7 k7 => ?_⟩⟩
      have s6 := same_upd (o := .lst [V.str xs, V.str ln]) k6
      have s7 := same_upd (o := .lst [V.ref q0, V.ref q1, V.ref q2, V.ref q3, V.ref q4, V.ref q6]) k7
      have s67 := s6.trans s7
      have h0 := s67 _ _ (b3 _ _ g0 a0.symm)
      have h1 := s67 _ _ (b3 _ _ g1 a1.symm)
      have h2 := s67 _ _ (b3 _ _ g2 a2.symm)
      have h3 := s67 _ _ (b3 _ _ g3 a3.symm)
      have h4 := s67 _ _ (b3 _ _ g4 a4.symm)
      have h6 := s7 _ _ (upd_same (H := G3) (a := q6) (o := .lst [V.str xs, V.str ln]))
      have h7 := upd_same (H := upd G3 q6 (.lst [V.str xs, V.str ln])) (a := q7) (o := .lst [V.ref q0, V.ref q1, V.ref q2, V.ref q3, V.ref q4, V.ref q6])
      have hf7 := s67 _ _ (b3 _ _ hfG haf.symm)
      have hp7 := hp3.same s67
      have b7 : But a H (upd (upd G3 q6 (.lst [V.str xs, V.str ln])) q7 (.lst [V.ref q0, V.ref q1, V.ref q2, V.ref q3, V.ref q4, V.ref q6])) := fun b o e n => s67 _ _ (b3 _ _ (sm _ _ (b1 _ _ (hb _ _ e n) n)) n)
      clear s6 s7 s67 k6 k7
      generalize upd (upd G3 q6 (.lst [V.str xs, V.str ln])) q7 (.lst [V.ref q0, V.ref q1, V.ref q2, V.ref q3, V.ref q4, V.ref q6]) = G7 at h0 h1 h2 h3 h4 h6 h7 hf7 hp7 b7
      obtain ⟨v, pl, lz, hv, rfl, hz, wz, lz2⟩ : ∃ v pl lz, ([V.ref q0, V.ref q1, V.ref q2, V.ref q3, V.ref q4, V.ref q6] : List V)[r.toNat]? = some v ∧ v = .ref pl ∧ G7 pl = some (.lst (lz.map V.str)) ∧ Wd lz ∧ lz.length ≤ 2 := by
        have hr6 : r.toNat = 0 ∨ r.toNat = 1 ∨ r.toNat = 2 ∨ r.toNat = 3 ∨ r.toNat = 4 ∨ r.toNat = 5 := by omega
        rcases hr6 with e | e | e | e | e | e <;> rw [e]
        · exact ⟨_, q0, [ln], rfl, rfl, h0, .one lnw, by show 1 ≤ 2; decide⟩
        · exact ⟨_, q1, [ln], rfl, rfl, h1, .one lnw, by show 1 ≤ 2; decide⟩
        · exact ⟨_, q2, [ln], rfl, rfl, h2, .one lnw, by show 1 ≤ 2; decide⟩
        · exact ⟨_, q3, [], rfl, rfl, h3, (fun s h => by cases h), by decide⟩
        · exact ⟨_, q4, [ln, ln], rfl, rfl, h4, .two lnw lnw, by show 2 ≤ 2; decide⟩
        · exact ⟨_, q6, [xs, ln], rfl, rfl, h6, .two xw lnw, by show 2 ≤ 2; decide⟩
      have er : ((r.toNat : Nat) : Int) = r := by omega
      have ea := atI_nat hv
      rw [er] at ea
      refine ⟨_, rfl, q7, _, r, _, rfl, rfl, SqL.of h7, ea, ?_⟩
      refine ⟨pf, pl, _, _, rfl, rfl, hf7, hz, ?_, fun q8 k8 => ?_⟩
      · rw [List.length_map, List.length_map]
        exact Nat.le_trans (show fs.length + lz.length ≤ 200 by omega) (by decide)
      · refine ⟨hp7.upd (hp7.ne k8), b7.new k8, q8, fs ++ lz, _, _, rfl, b7.fresh hp7 k8, ?_, wf.append wz, ?_⟩
        · rw [upd_same, List.map_append]
        · rw [List.length_append]; omega
    · rintro σ G ⟨hp, hb, pf, fs, x4, x5, rfl, npf, hpf, wf, lf⟩
      refine ⟨_, rfl, _, rfl, m, rfl, pf, fs.map V.str, rfl, SqL.of hpf, fun q nq => ?_⟩
      refine z q (fs.take m.toNat) _ (hp.upd (hp.ne nq)) (hb.new nq) (hb.fresh hp nq) ?_ (wf.take _) ?_
      · rw [upd_same, cut_to fs m0]
      · rw [List.length_take]; omega
end
end K16
namespace XR
open PySem L2
/-- two drawn texts, in a new tuple -/
def spTwo : Sp := fun vs H Q _ => ∃ (a : Addr) (m : Int), vs = [.ref a, .int m] ∧ PotAt H a ∧ 0 ≤ m ∧ m ≤ 60 ∧
  ∀ (t p1 p2 : Addr) (ss1 ss2 : List Str) H', PotAt H' a → But a H H' → H t = none → H p1 = none → H p2 = none → H' t = some (.tup [.ref p1, .ref p2]) → H' p1 = some (.lst (ss1.map V.str)) → H' p2 = some (.lst (ss2.map V.str)) →
    Wd ss1 → Wd ss2 → (ss1.length : Int) ≤ m → (ss2.length : Int) ≤ m → Q (.ref t) H'
theorem But.ne {a p : Addr} {H H' : Hp} (b : But a H H') (h : PotAt H a) (n : H p = none) : a ≠ p := h.ne n
end XR
namespace K16
open PySem L2 XR
abbrev sTwo : Stmt := top 31
section
variable {P : Program} {w : World} {K : PySem.W.Frag} {mg : Str → Option Value} {base : Heap}
theorem scTwo : FnScope ["_law_pot_here", "_law_most", "_law_elder"] ["_law_pot_here", "_law_most"] (defScope sTwo) := ⟨rfl, rfl, rfl, by decide +kernel, rfl, by decide +kernel, by decide +kernel⟩
theorem ok_two {f fD fP fT fN : Addr} {fd fdD fdP fdT fdN : FuncData} (F : Fun K "_law_two" "_law_two" sTwo f fd) (T : Blt mg) (D : Draws P w K mg base fD fP fdD fdP)
    (FT : Fun K "_law_text" "_law_text" sText fT fdT) (bT : Binds K fdT ["_law_pot_here", "_law_most"] []) (mT : mg "_law_text" = some (.ref fT))
    (FN : Fun K "_law_near" "_law_near" sNear fN fdN) (bN : Binds K fdN ["_law_pot_here", "_law_lines", "_law_most"] []) (mN : mg "_law_near" = some (.ref fN)) : FnOk P w K mg base CX0 4 f fd ["_law_pot_here", "_law_most"] spTwo := by
  have GT := ok_text (P := P) (w := w) (base := base) FT T D
  have GN := ok_near (P := P) (w := w) (base := base) FN T D
  refine F.ok scTwo (fun vs H Q E h => ?_) (fun cdv A outer s H vs Q E hr h => ?_)
  · obtain ⟨a, m, rfl, _⟩ := h
    rfl
  · obtain ⟨a, m, rfl, hpot, m0, m1, z⟩ := h
    refine ⟨_, pss_cons (ps_set (i := 2) scTwo.nd rfl (.inl rfl) (pe_call GT hr rfl mT FT.kp bT .nil pass0 (pa_cons (pv 0) (pa_cons (pv 1) pa_nil))))
      (pss_one (ps_ret (pe_tup (pa_cons (pv 2) (pa_cons (pe_ifExp (pt_cmpR op_eq (pe_call D.GD (hr.mono (by decide)) rfl D.mD D.FD.kp D.bD .nil pass0 (pa_cons (pv 0) (pa_cons pe_int pa_nil))) pe_int (nomark _))
        (pe_call GT hr rfl mT FT.kp bT .nil pass0 (pa_cons (pv 0) (pa_cons (pv 1) pa_nil)))
        (pe_call GN hr rfl mN FN.kp bN .nil pass0 (pa_cons (pv 0) (pa_cons (pv 2) (pa_cons (pv 1) pa_nil))))) pa_nil))))), ?_⟩
    refine ⟨_, rfl, _, rfl, a, m, rfl, hpot, m0, by omega, fun p1 ss1 H1 hp1 b1 n1 h1 w1 l1 => ?_⟩
    have a1 := hpot.ne n1
    refine ⟨_, rfl, _, rfl, a, 3, rfl, hp1, by decide, by decide, fun r H2 r0 r1 hp2 b2 => ⟨rfl, _, rfl, ?_⟩⟩
    have h2 := b2 _ _ h1 a1.symm
    have fin : ∀ (p2 : Addr) (ss2 : List Str) H3, PotAt H3 a → But a H2 H3 → H2 p2 = none → H3 p2 = some (.lst (ss2.map V.str)) → Wd ss2 → (ss2.length : Int) ≤ m →
        ∀ t, H3 t = none → Q (.ref t) (upd H3 t (.tup [.ref p1, .ref p2])) := fun p2 ss2 H3 hp3 b3 n2 h3 w2 l2 t nt => by
      have s := same_upd (o := .tup [V.ref p1, V.ref p2]) nt
      have b13 : But a H H3 := (b1.trans b2).trans b3
      exact z t p1 p2 ss1 ss2 _ (hp3.same s) (b13.same s) (b13.fresh hp3 nt) n1 ((b1.trans b2).fresh hp2 n2) upd_same (s _ _ (b3 _ _ h2 a1.symm)) (s _ _ h3) w1 w2 l1 l2
    refine ite2 (fun _ => ?_) (fun _ => ?_)
    · refine ⟨_, rfl, _, rfl, a, m, rfl, hp2, m0, by omega, fun p2 ss2 H3 hp3 b3 n2 h3 w2 l2 => ⟨ll20 (by show 2 ≤ 20; decide), fun t nt => fin p2 ss2 H3 hp3 b3 n2 h3 w2 l2 t nt⟩⟩
    · refine ⟨_, rfl, _, rfl, _, rfl, a, p1, ss1, m, rfl, hp2, h2, a1, w1, by omega, m0, by omega, fun p2 ss2 H3 hp3 b3 n2 h3 w2 l2 => ⟨ll20 (by show 2 ≤ 20; decide), fun t nt => fin p2 ss2 H3 hp3 b3 n2 h3 w2 l2 t nt⟩⟩
end
end K16
namespace XR
open PySem L2
/-- a diff of two texts, as pairs of numbers -/
def IsDf (ss1 ss2 : List Str) (ps : List (Nat × Nat)) : Prop :=
  (∀ q, q ∈ ps → 1 ≤ q.1 ∧ q.1 ≤ ss1.length ∧ 1 ≤ q.2 ∧ q.2 ≤ ss2.length ∧ ∃ s : Str, ss1[q.1 - 1]? = some s ∧ ss2[q.2 - 1]? = some s) ∧ ps.Pairwise fun x y => x.1 < y.1 ∧ x.2 < y.2
def tupV (q : Nat × Nat) : HO := .tup [.int (q.1 : Int), .int (q.2 : Int)]
/-- rs: where the pairs stand -/
def PsAt (H : Hp) (rs : List Addr) (ps : List (Nat × Nat)) : Prop := rs.length = ps.length ∧ ∀ (i : Nat) (q : Nat × Nat), ps[i]? = some q → ∃ r : Addr, rs[i]? = some r ∧ H r = some (tupV q)
def refs (rs : List Addr) : List V := rs.map V.ref
/-- the diff at t -/
def DfAt (H : Hp) (t : Addr) (ps : List (Nat × Nat)) : Prop := ∃ rs, H t = some (.tup (refs rs)) ∧ PsAt H rs ps
theorem PsAt.same {H H' : Hp} {rs : List Addr} {ps : List (Nat × Nat)} (s : Same H H') (h : PsAt H rs ps) : PsAt H' rs ps :=
  ⟨h.1, fun i q hq => let ⟨r, h1, h2⟩ := h.2 i q hq; ⟨r, h1, s _ _ h2⟩⟩
theorem PsAt.but {a : Addr} {H H' : Hp} {rs : List Addr} {ps : List (Nat × Nat)} (b : But a H H') (hp : PotAt H a) (h : PsAt H rs ps) : PsAt H' rs ps :=
  ⟨h.1, fun i q hq => let ⟨r, h1, h2⟩ := h.2 i q hq; ⟨r, h1, b _ _ h2 (fun e => by obtain ⟨_, _, e2, _⟩ := hp; rw [e] at h2; rw [e2] at h2; cases h2)⟩⟩
theorem DfAt.same {H H' : Hp} {t : Addr} {ps : List (Nat × Nat)} (s : Same H H') (h : DfAt H t ps) : DfAt H' t ps :=
  let ⟨rs, h1, h2⟩ := h; ⟨rs, s _ _ h1, h2.same s⟩
theorem DfAt.but {a t : Addr} {H H' : Hp} {ps : List (Nat × Nat)} (b : But a H H') (hp : PotAt H a) (h : DfAt H t ps) : DfAt H' t ps :=
  let ⟨rs, h1, h2⟩ := h
  ⟨rs, b _ _ h1 (fun e => by obtain ⟨_, _, e2, _⟩ := hp; rw [e, e2] at h1; cases h1), h2.but b hp⟩
theorem PsAt.snoc {H : Hp} {rs : List Addr} {ps : List (Nat × Nat)} {r : Addr} {q : Nat × Nat} (h : PsAt H rs ps) (k : H r = some (tupV q)) : PsAt H (rs ++ [r]) (ps ++ [q]) := by
  refine ⟨by rw [List.length_append, List.length_append, h.1]; rfl, fun i q' hq => ?_⟩
  by_cases hi : i < ps.length
  · rw [List.getElem?_append_left hi] at hq
    obtain ⟨r', h1, h2⟩ := h.2 i q' hq
    exact ⟨r', by rw [List.getElem?_append_left (by rw [h.1]; exact hi)]; exact h1, h2⟩
  · have e : i = ps.length := by
      have := (List.getElem?_eq_some_iff.mp hq).1
      rw [List.length_append] at this
      have h2 : i < ps.length + 1 := this
      omega
    subst e
    rw [List.getElem?_append_right (Nat.le_refl _), Nat.sub_self] at hq
    have e2 : q = q' := Option.some.inj hq
    subst e2
    exact ⟨r, by rw [← h.1, List.getElem?_append_right (Nat.le_refl _), Nat.sub_self]; rfl, k⟩
theorem IsDf.snoc {ss1 ss2 : List Str} {ps : List (Nat × Nat)} {i j : Nat} {s : Str} (h : IsDf ss1 ss2 ps) (h1 : ss1[i]? = some s) (hj : 1 ≤ j) (h2 : ss2[j - 1]? = some s) (lt : ∀ q, q ∈ ps → q.1 < i + 1 ∧ q.2 < j) : IsDf ss1 ss2 (ps ++ [(i + 1, j)]) := by
  refine ⟨fun q hq => ?_, ?_⟩
  · rcases List.mem_append.mp hq with hq | hq
    · exact h.1 q hq
    · rw [List.mem_singleton.mp hq]
      have l1 := (List.getElem?_eq_some_iff.mp h1).1
      have l2 := (List.getElem?_eq_some_iff.mp h2).1
      refine ⟨by show 1 ≤ i + 1; omega, by show i + 1 ≤ _; omega, hj, by show j ≤ _; omega, s, ?_, h2⟩
      show ss1[i + 1 - 1]? = some s
      rw [Nat.add_sub_cancel]; exact h1
  · rw [List.pairwise_append]
    refine ⟨h.2, List.pairwise_singleton _ _, fun x hx y hy => ?_⟩
    rw [List.mem_singleton.mp hy]
    exact lt x hx
/-- a drawn diff, new -/
def spDiff : Sp := fun vs H Q _ => ∃ (a p1 p2 : Addr) (ss1 ss2 : List Str), vs = [.ref a, .ref p1, .ref p2] ∧ PotAt H a ∧ H p1 = some (.lst (ss1.map V.str)) ∧ H p2 = some (.lst (ss2.map V.str)) ∧ ss1.length ≤ 60 ∧ ss2.length ≤ 60 ∧
  ∀ (t : Addr) (ps : List (Nat × Nat)) H', PotAt H' a → But a H H' → H t = none → DfAt H' t ps → IsDf ss1 ss2 ps → Q (.ref t) H'
theorem lst_ne {a p : Addr} {H : Hp} {ss : List Str} (h : PotAt H a) (k : H p = some (.lst (ss.map V.str))) : a ≠ p := fun e => by
  obtain ⟨x, y, e2, _⟩ := h
  rw [← e, e2] at k
  have k2 := Option.some.inj k
  injection k2 with k2
  cases ss with
  | nil => cases k2
  | cons s ss => injection k2 with k3 _; cases k3
theorem lay_all : ∀ js : List Int, PyData.canLayAll0 (js.map PyData.int) = true ∧ PyData.depthAll (js.map PyData.int) ≤ 1
  | [] => ⟨by simp [PyData.canLayAll0], by simp [PyData.depthAll]⟩
  | j :: js => by
    obtain ⟨h1, h2⟩ := lay_all js
    exact ⟨by simp [PyData.canLayAll0, PyData.canLay0, h1], by simp [PyData.depthAll, PyData.depth]; omega⟩
theorem int_lay (js : List Int) : SeqAt.shaped (.list (js.map PyData.int)) = true := by
  obtain ⟨h1, h2⟩ := lay_all js
  unfold SeqAt.shaped
  rw [Bool.and_eq_true]
  refine ⟨by simp only [PyData.canLay0, h1], ?_⟩
  rw [decide_eq_true_eq]
  have e : (PyData.list (js.map PyData.int)).depth = PyData.depthAll (js.map PyData.int) + 1 := by simp only [PyData.depth]
  have e2 : (64 : Nat) = 64 := rfl
  omega
theorem dpInts {K : PySem.W.Frag} {H : Hp} : ∀ js : List Int, DpAll K H (js.map V.int) (js.map PyData.int)
  | [] => .nil
  | j :: js => .cons (.int j) (dpInts js)
end XR
namespace K16
open PySem L2 XR
abbrev sDiff : Stmt := top 32
section
variable {P : Program} {w : World} {K : PySem.W.Frag} {mg : Str → Option Value} {base : Heap}
theorem scDiff : FnScope ["_law_pot_here", "_law_elder", "_law_newer", "_law_found", "_law_last", "_law_far", "_law_k", "_law_line", "_law_some", "_law_j"] ["_law_pot_here", "_law_elder", "_law_newer"] (defScope sDiff) := ⟨rfl, rfl, rfl, by decide +kernel, rfl, by decide +kernel, by decide +kernel⟩
end
end K16
namespace XR
open PySem L2
theorem PotAt.lst_ne {a p : Addr} {H : Hp} {xs : List V} (h : PotAt H a) (k : H p = some (.tup xs)) : a ≠ p := fun e => by
  obtain ⟨x, y, e2, _⟩ := h
  rw [← e, e2] at k
  cases k
theorem cut_ints (js : List Int) {m : Int} (h : 0 ≤ m) : cutV (js.map V.int) none (some m) = (js.take m.toNat).map V.int := by
  unfold cutV HT.sIx
  simp only [List.drop_zero, Nat.sub_zero, if_neg (show ¬ m < 0 by omega), List.length_map]
  rw [← List.map_take]
  congr 1
  by_cases q : m.toNat ≤ js.length
  · rw [Nat.min_eq_left q]
  · rw [Nat.min_eq_right (by omega), List.take_of_length_le (Nat.le_refl _), List.take_of_length_le (by omega)]
theorem str_of_map {ss : List Str} {i : Nat} {v : V} (h : (ss.map V.str)[i]? = some v) : ∃ s : Str, v = .str s ∧ ss[i]? = some s := by
  rw [List.getElem?_map] at h
  obtain ⟨s, h1, rfl⟩ := Option.map_eq_some_iff.mp h
  exact ⟨s, rfl, h1⟩
theorem PsAt.nil {H : Hp} : PsAt H [] [] := ⟨rfl, fun i q h => by simp at h⟩
theorem IsDf.nil {ss1 ss2 : List Str} : IsDf ss1 ss2 [] := ⟨fun q h => (by cases h), List.Pairwise.nil⟩
theorem PsAt.updL {H : Hp} {rs : List Addr} {ps : List (Nat × Nat)} {p : Addr} {xs ys : List V} (h : PsAt H rs ps) (k : H p = some (.lst xs)) : PsAt (upd H p (.lst ys)) rs ps :=
  ⟨h.1, fun i q hq => let ⟨r, h1, h2⟩ := h.2 i q hq; ⟨r, h1, by rw [upd_ne (fun e => by rw [e, k] at h2; cases h2)]; exact h2⟩⟩
theorem eqv_nil (x : PyData) (xs : List PyData) : PyData.eqv (.list (x :: xs)) (.list []) = false := by simp [PyData.eqv, PyData.eqvAll]
theorem eqv_nil0 : PyData.eqv (.list []) (.list []) = true := by simp [PyData.eqv, PyData.eqvAll]
end XR
namespace K16
open PySem L2 XR
section
variable {P : Program} {w : World} {K : PySem.W.Frag} {mg : Str → Option Value} {base : Heap}
theorem ok_diff {f fD fP : Addr} {fd fdD fdP : FuncData} (F : Fun K "_law_diff" "_law_diff" sDiff f fd) (T : Blt mg) (D : Draws P w K mg base fD fP fdD fdP) : FnOk P w K mg base CX0 3 f fd ["_law_pot_here", "_law_elder", "_law_newer"] spDiff := by
  refine F.ok scDiff (fun vs H Q E h => ?_) (fun cdv A outer s H vs Q E hr h => ?_)
  · obtain ⟨a, p1, p2, ss1, ss2, rfl, _⟩ := h
    rfl
  · obtain ⟨a, p1, p2, ss1, ss2, rfl, hpot, hl1, hl2, l1, l2, z⟩ := h
    refine ⟨_, pss_cons (ps_par3 (i := 3) (j := 4) (l := 5) rfl scDiff.nd rfl rfl rfl (by decide) (by decide) (by decide) rfl rfl rfl (pa_cons (pe_lst pa_nil) (pa_cons pe_int (pa_cons (pe_call D.GP hr rfl D.mP D.FP.kp D.bP .nil pass0 (pa_cons (pv 0) (pa_cons (pe_lst (pa_cons pe_int (pa_cons pe_int (pa_cons pe_int pa_nil)))) pa_nil))) pa_nil))) rfl)
      (pss_cons (ps_for PassesOwn.never rfl (pi_enum (by rfl) T.enum (pa_cons (pv 1) pa_nil)) (pg_tup rfl (pgs_cons (pg_name (i := 6) scDiff.nd rfl (.inl rfl)) (pgs_cons (pg_name (i := 7) scDiff.nd rfl (.inr rfl)) pgs_nil)))
        (pss_cons (ps_set (i := 8) scDiff.nd rfl (.inl rfl) (pe_slice sl_list (pe_lc (own := [("_law_j", 9)]) (g := gName 9) (tt := tTest (tOp rEq (tOp (rIxL K) (tVar 2) (tOp (rI0 fun i j => V.int (i - j)) (tVar 9) (tC (V.int 1)))) (tVar 7))) (te := tVar 9) rfl scDiff.nd
            (pi_range2 rfl T.range (pa_cons (pe_op op_add (pv 4) pe_int) (pa_cons (pe_op op_add (pe_callB call_len_seq (by rfl) T.len PySem.boot_len (pa_cons (pv 2) pa_nil)) pe_int) pa_nil)))
            (blkOk_by (own := [("_law_j", 9)]) (N := ["_law_pot_here", "_law_elder", "_law_newer", "_law_found", "_law_last", "_law_far", "_law_k", "_law_line", "_law_some", "_law_j"]) (sc := defScope sDiff) (by decide +kernel))
            (fun _ _ _ _ _ => pg_name (i := 9) scDiff.nd rfl (Or.inl rfl)) (fun _ _ _ _ _ => pts_one (pt_cmpR op_eq (pe_ix ix_list (pv 2) (pe_op op_sub (pv 9) pe_int) (fun _ _ => rfl)) (pv 7) (nomark _))) (fun _ _ _ _ _ => pv 9)) po_none (po_some (pv 5))))
        (pss_one (ps_if (PW.pt (pw_and (pt_cmpR (op_neD hr.units) (pv 8) (pe_lst pa_nil) (nomark _)) (pw_and1 (pt_cmpR op_gt (pe_call D.GD (hr.mono (by decide)) rfl D.mD D.FD.kp D.bD .nil pass0 (pa_cons (pv 0) (pa_cons pe_int pa_nil))) pe_int (nomark _)))))
          (pss_cons (ps_set (i := 4) scDiff.nd rfl (.inl rfl) (pe_call D.GP hr rfl D.mP D.FP.kp D.bP .nil pass0 (pa_cons (pv 0) (pa_cons (pv 8) pa_nil))))
          (pss_one (ps_expr (pe_bm PySem.F.plainAttrs_list PySem.F.slot_list_append PySem.F.type_list_append mt_append (pv 3) (pa_cons (pe_tup (pa_cons (pe_op op_add (pv 6) pe_int) (pa_cons (pv 4) pa_nil))) pa_nil)))))
          pss_nil))))
      (pss_one (ps_ret (pe_callTy call_tuple_of (by rfl) (T.all "tuple" (by decide)) (by decide +kernel) (pa_cons (pv 3) pa_nil))))), ?_⟩
    refine ⟨ll20 (by decide), fun pf nf => ⟨_, rfl, ll20 (by show 3 ≤ 20; decide), fun q k => ?_⟩⟩
    have s0 := same_upd (o := .lst []) nf
    have s1 := same_upd (o := .lst [V.int 1, V.int 2, V.int 60]) k
    have af := hpot.ne nf
    have aq := (hpot.same s0).ne k
    have hpf := s1 _ _ (upd_same (H := H) (a := pf) (o := .lst []))
    have hq := upd_same (H := upd H pf (.lst [])) (a := q) (o := .lst [V.int 1, V.int 2, V.int 60])
    have sm := s0.trans s1
    refine ⟨a, q, [V.int 1, V.int 2, V.int 60], rfl, hpot.same sm, hq, aq, by show 0 < 3; decide, by show 3 ≤ 1000; decide, fun x G hx hp0 b0 => ?_⟩
    generalize upd (upd H pf (.lst [])) q (.lst [V.int 1, V.int 2, V.int 60]) = G0 at sm hpf hq b0
    obtain ⟨fr, rfl, fr1⟩ : ∃ fr : Int, x = .int fr ∧ 0 ≤ fr := by
      simp only [List.mem_cons, List.not_mem_nil, or_false] at hx
      rcases hx with rfl | rfl | rfl
      · exact ⟨1, rfl, by decide⟩
      · exact ⟨2, rfl, by decide⟩
      · exact ⟨60, rfl, by decide⟩
    have bG : But a H G := fun b o h n => b0 _ _ (sm _ _ h) n
    have hpfG := b0 _ _ hpf af.symm
    clear s0 s1 k hq
    refine ⟨_, _, _, rfl, ?_⟩
    refine ⟨_, rfl, p1, _, rfl, SqL.of (bG _ _ hl1 (lst_ne hpot hl1).symm), ?_⟩
    refine for_it walk_enum (fun i σ H' => PotAt H' a ∧ But a H H' ∧ ∃ (rs : List Addr) (ps : List (Nat × Nat)) (last : Nat) (x6 x7 x8 x9 : Option V), σ = [some (V.ref a), some (V.ref p1), some (V.ref p2), some (V.ref pf), some (V.int (last : Int)), some (V.int fr), x6, x7, x8, x9] ∧
      H' pf = some (.lst (refs rs)) ∧ PsAt H' rs ps ∧ IsDf ss1 ss2 ps ∧ (∀ q, q ∈ ps → q.1 ≤ i ∧ q.2 ≤ last) ∧ last ≤ 60 ∧ ps.length ≤ i)
      ⟨hp0, bG, [], [], 0, _, _, _, _, rfl, hpfG, .nil, .nil, (fun q h => nomatch h), by decide, Nat.le_refl _⟩
      (fun i σ H' hi ⟨_, hb, _⟩ => SqL.of (hb _ _ hl1 (lst_ne hpot hl1).symm)) ?_ ?_
    · rintro i x σ Ha Hb hi ⟨hp, hb, rs, ps, last, x6, x7, x8, x9, rfl, hf, hps, hdf, hlast, last60, psl⟩ ⟨t, y1, y2, rfl, nt, rfl, hy1, hy2⟩
      cases hy1
      obtain ⟨ln, rfl, hln⟩ := str_of_map hy2
      rw [List.length_map] at hi
      have st := same_upd (o := .tup [V.int (i : Nat), V.str ln]) nt
      have hp1 := hp.same st
      have hb1 := hb.same st
      have hf1 := st _ _ hf
      have hps1 := hps.same st
      refine ⟨t, _, rfl, .inl (.inl upd_same), rfl, ?_⟩
      generalize upd Ha t (.tup [V.int (i : Nat), V.str ln]) = Hb at st hp1 hb1 hf1 hps1 ⊢
      have hl2b := hb1 _ _ hl2 (lst_ne hpot hl2).symm
      refine ⟨_, _, rfl, _, _, rfl, rfl, ?_⟩
      refine ⟨_, rfl, _, _, rfl, rfl, _, rfl, p2, _, rfl, .inl (SqL.of hl2b), _, _, rfl, rfl, ?_⟩
      rw [List.length_map]
      refine ⟨_, _, rfl, ⟨by omega, by omega, by omega, by omega⟩, fun c nc => ?_⟩
      have sc0 := same_upd (o := .lst []) nc
      refine lc_range (lo := (last : Int) + 1) (n := (((ss2.length : Nat) : Int) + 1 - ((last : Int) + 1)).toNat) (fun j H' => PotAt H' a ∧ Same Hb H' ∧ ∃ js : List Int, H' c = some (.lst (js.map V.int)) ∧ (∀ x, x ∈ js → (last : Int) < x ∧ ss2[(x - 1).toNat]? = some ln) ∧ js.length ≤ j)
        ⟨hp1.same sc0, sc0, [], upd_same, (fun x h => nomatch h), Nat.le_refl _⟩ ?_ ?_
      · rintro j H' hj ⟨hp', sm', js, hc, hjs, ljs⟩
        have hl2' := sm' _ _ hl2b
        have hlt : last + j < ss2.length := by omega
        have ei : (last : Int) + 1 + (j : Int) - 1 = ((last + j : Nat) : Int) := by omega
        refine ⟨rfl, ?_⟩
        refine ⟨_, rfl, _, rfl, _, _, rfl, rfl, p2, _, _, V.str ss2[last + j], rfl, rfl, SqL.of hl2', ?_, _, rfl, rfl, _, rfl, ?_⟩
        · rw [ei]
          exact atI_nat (by rw [List.getElem?_map, List.getElem?_eq_getElem hlt]; rfl)
        · have nc' : ∀ b o, Hb b = some o → b ≠ c := fun b o h => ne_of_none h nc
          refine ite2 (fun h1 => ?_) (fun h1 => ?_)
          · have h2 : ss2[last + j] = ln := by
              have := of_decide_eq_true h1
              injection this
            refine ⟨_, rfl, _, hc, ?_, hp'.upd (fun e => ?_), fun b o h => ?_, js ++ [(last : Int) + 1 + (j : Int)], ?_, ?_, ?_⟩
            · rw [List.length_map]
              exact Nat.lt_of_le_of_lt ljs (Nat.lt_of_lt_of_le (show j < 61 by omega) (by decide))
            · obtain ⟨x, y, e2, _⟩ := hp1
              rw [e, nc] at e2; cases e2
            · rw [upd_ne (nc' b o h)]; exact sm' _ _ h
            · rw [upd_same, List.map_append]; rfl
            · intro x hx
              rcases List.mem_append.mp hx with hx | hx
              · exact hjs x hx
              · rw [List.mem_singleton.mp hx]
                refine ⟨by omega, ?_⟩
                rw [show ((last : Int) + 1 + (j : Int) - 1).toNat = last + j by omega, List.getElem?_eq_getElem hlt, h2]
            · rw [List.length_append]; simp; omega
          · exact ⟨hp', sm', js, hc, hjs, by omega⟩
      · rintro Hd ⟨hp', sm', js, hc, hjs, ljs⟩
        refine ⟨_, rfl, fr, rfl, c, _, rfl, SqL.of hc, fun u nu => ?_⟩
        rw [cut_ints js fr1]
        have hjt : ∀ x, x ∈ js.take fr.toNat → (last : Int) < x ∧ ss2[(x - 1).toNat]? = some ln := fun x hx => hjs x (List.mem_of_mem_take hx)
        have ljt : (js.take fr.toNat).length ≤ 61 := by rw [List.length_take]; omega
        have hu := upd_same (H := Hd) (a := u) (o := .lst ((js.take fr.toNat).map V.int))
        have su := same_upd (o := .lst ((js.take fr.toNat).map V.int)) nu
        have sall := sm'.trans su
        have hpu := hp'.same su
        have au : a ≠ u := hp'.ne nu
        generalize js.take fr.toNat = jt at hjt ljt hu su sall hpu ⊢
        generalize upd Hd u (.lst (jt.map V.int)) = He at hu su sall hpu ⊢
        clear su hc nu
        refine ⟨_, rfl, ll20 (by decide), fun e1 ne1 => ?_⟩
        have se := same_upd (o := .lst []) ne1
        refine ⟨.list (jt.map .int), .list [], .lst (SqL.of (se _ _ hu)) (dpInts _), .lst (SqL.of upd_same) .nil, int_lay _, int_lay [], _, rfl, ?_⟩
        have sf := sall.trans se
        have hpf' := hpu.same se
        have huf := se _ _ hu
        generalize upd He e1 (.lst []) = Hf at sf hpf' huf ⊢
        clear se ne1 hu
        have bf := hb1.same sf
        have stay : ∀ (Hz : Hp), PotAt Hz a → But a Hf Hz → (Hz pf = some (.lst (refs rs)) ∧ PsAt Hz rs ps ∧ IsDf ss1 ss2 ps ∧ (∀ q, q ∈ ps → q.1 ≤ i + 1 ∧ q.2 ≤ last) ∧ last ≤ 60 ∧ ps.length ≤ i + 1) := fun Hz hz bz =>
          ⟨bz _ _ (sf _ _ hf1) af.symm, (hps1.same sf).but bz hpf', hdf, fun q hq => ⟨Nat.le_succ_of_le (hlast q hq).1, (hlast q hq).2⟩, last60, by omega⟩
        cases jt with
        | nil =>
          rw [show PyData.eqv (.list ([].map PyData.int)) (.list []) = true from eqv_nil0]
          exact iteF (iteF ⟨hpf', bf, rs, ps, last, _, _, _, _, rfl, stay Hf hpf' (But.refl a Hf)⟩)
        | cons j0 jt =>
          rw [show PyData.eqv (.list ((j0 :: jt).map PyData.int)) (.list []) = false from eqv_nil _ _]
          refine iteT ⟨_, rfl, a, 4, rfl, hpf', by decide, by decide, fun r Hg r0 r1 hpg bg => ⟨_, _, rfl, rfl, _, rfl, ?_⟩⟩
          have hug := bg _ _ huf au.symm
          refine ite2 (fun _ => ?_) (fun _ => ?_)
          · refine ⟨_, rfl, _, rfl, a, u, _, rfl, hpg, hug, au, by simp, by rw [List.length_map]; exact Nat.le_trans ljt (by decide), fun x Hh hx hph bh => ?_⟩
            obtain ⟨jv, hjv, rfl⟩ := List.mem_map.mp hx
            obtain ⟨jl, jm⟩ := hjt jv hjv
            obtain ⟨jn, rfl⟩ : ∃ jn : Nat, jv = (jn : Int) := ⟨jv.toNat, by omega⟩
            have bgh := bg.trans bh
            obtain ⟨st1, st2, st3, st4, st5, st6⟩ := stay Hh hph bgh
            refine ⟨_, rfl, .inl ⟨rfl, _, SqL.of st1⟩, ?_⟩
            refine ⟨_, rfl, _, _, rfl, rfl, _, rfl, ll20 (by show 2 ≤ 20; decide), fun v nv => ?_⟩
            have sv := same_upd (o := .tup [V.int ((i : Int) + 1), V.int (jn : Int)]) nv
            have hfv := sv _ _ st1
            have jlen : jn ≤ ss2.length := by
              have := (List.getElem?_eq_some_iff.mp jm).1
              omega
            refine ⟨pf, _, _, rfl, rfl, hfv, ?_, ?_⟩
            · unfold refs
              rw [List.length_map, st2.1]
              exact Nat.lt_of_le_of_lt st6 (Nat.lt_of_lt_of_le (show i + 1 < 62 by omega) (by decide))
            · have hv : upd Hh v (.tup [V.int ((i : Int) + 1), V.int (jn : Int)]) v = some (tupV (i + 1, jn)) := by
                rw [upd_same]; rfl
              have ps2 := ((st2.same sv).snoc hv).updL (ys := refs rs ++ [V.ref v]) hfv
              refine ⟨(hph.same sv).upd af, fun b o h n => ?_, rs ++ [v], ps ++ [(i + 1, jn)], jn, _, _, _, _, rfl, ?_, ps2, st3.snoc hln (by omega) ?_ (fun q hq => ⟨?_, ?_⟩), fun q hq => ?_, by omega, ?_⟩
              · have e := sv _ _ ((bf.trans bgh) b o h n)
                rw [upd_ne (fun e2 => by rw [e2, nf] at h; cases h)]
                exact e
              · rw [upd_same]
                unfold refs
                rw [List.map_append]
                rfl
              · rw [show ((jn : Int) - 1).toNat = jn - 1 by omega] at jm
                exact jm
              · have := (hlast q hq).1; omega
              · have := (hlast q hq).2; omega
              · rcases List.mem_append.mp hq with hq | hq
                · have := hlast q hq
                  exact ⟨by omega, by omega⟩
                · rw [List.mem_singleton.mp hq]
                  exact ⟨Nat.le_refl _, Nat.le_refl _⟩
              · rw [List.length_append]; simp; omega
          · exact ⟨hpg, bf.trans bg, rs, ps, last, _, _, _, _, rfl, stay Hg hpg bg⟩
    · rintro σ G' ⟨hp, hb, rs, ps, last, x6, x7, x8, x9, rfl, hf, hps, hdf, hlast, last60, psl⟩
      refine ⟨_, rfl, pf, _, rfl, .inl ⟨SqL.of hf, fun u nu => ?_⟩⟩
      have su := same_upd (o := .tup (refs rs)) nu
      exact z u ps _ (hp.same su) (hb.same su) (hb.fresh hp nu) ⟨rs, upd_same, hps.same su⟩ hdf
end
end K16
/-! Raising an exception of the text whose __init__ calls super().__init__ and stores its parameters; its field in a handler. -/
namespace XR
open PySem PySem.Spec L2
section
variable {X : Cx} {n : Nat} {C : Addr} {fv : List V → List (Str × V)} {x : Str} {p pos : Pos} {e : Expr} {es : List Expr} {t : TA}
/-- C(e, ..), to be raised -/
def tPmX (C : Addr) (n : Nat) (fv : List V → List (Str × V)) (t : TA) : St → Hp → XK → Prop := fun σ H Q => t σ H fun vs H1 => vs.length = n ∧ ∀ d, H1 d = none → Q (.ref C) (some d) (upd H1 d (.xd (fv vs)))
theorem pmkX (T : MkX X.K X.prog C none n fv) (h0 : ∀ vs : List V, vs.length = n → fv vs ≠ []) (hk : PySem.W.keepIn X.K (.ref C) = true) (hr : Room 2 X.A) (hsup : X.mg "super" = none) (bP : PySem.W.subIn X.K (.ref C) (.type "BaseException") = some true) (tP : PySem.W.typeIn X.K (.ref C) = some (.type "type"))
    (hg : Gl X x) (hm : X.mg x = some (.ref C)) (ha : PA X (e :: es) t)
    (hdb : (x == ("__debug__" : Str)) = false := by decide) (he : starEach (e :: es) X.env = (false, eval e X.env) :: starEach es X.env := by rfl) (hpl : (backTo pos (starEach es X.env)).any (·.1) = false := by rfl) :
    PMk X (.Call (.Name x p) (e :: es) [] pos) (tPmX C n fv t) := by
  intro pins s σ H Q I h
  refine wpAny_Call_Name_kw (ld_glob I hg hm ?_ hdb)
  refine PySem.W.callWith_K (h₀ := X.base) I.ok.mod.kin hk (thn (ha.run pos pins s σ H _ I h) fun us s1 ⟨vs, H1, I1, r, hl, q⟩ => ⟨I1.kIn, ?_⟩) he hpl
  have hlu : us.length = n := r.length.symm.trans hl
  obtain ⟨fI, cc, cda, B, newId, initId, bmB, fd, txt, kk, p0, p1, p2, p3, p4, p5, l, gb, T1, T2⟩ := T.ex
  obtain ⟨S, hl9, bt, hloc, hself, hx, hfv⟩ := T2 us hlu
  obtain ⟨mb, hb, hbb⟩ := I1.ok.mod.blt
  have hn : us.length ≤ sizeLine := by rw [hlu, sizeLine_eq]; have := T.n1; omega
  have m2 : mb "super" = some (.type "super") := (hbb _ (by decide +kernel)).trans (by decide +kernel)
  obtain ⟨hp, g, dr, tk, os⟩ := s1
  have hm' := I1.ok.mod.glob.keeps I1.bk
  have hb' := hb.keeps I1.bk
  have dep : (X.A.under (.builtin "type.__call__" ⟨.ref C :: us, []⟩)).depth < recursionLimit := by
    have := hr.dp
    rw [make_depth]
    omega
  show wpAny _ _ (call (.ref C) us) _ _ _
  refine made T1 S hl9 I1.kIn hm' hb' hsup m2 I1.nolimit dep hn (bt _) (hloc _) (hself _) (hx _) fun h' tk' L k F => ?_
  obtain ⟨t1, ⟨hf, ho⟩ | ⟨dx, hf, hd0, hde, hdL, ho, hns⟩⟩ := F
  · exact absurd ((hfv vs r).nil_iff hf) (h0 vs hl)
  · obtain ⟨G', g1, g2⟩ := restrict h' fun b => decide (b ≠ hp.objs.size + 1)
    have gk : ∀ b, b ≠ hp.objs.size + 1 → G'.get? b = h'.get? b := fun b hb => g1 b (decide_eq_true hb)
    have ge : G'.get? (hp.objs.size + 1) = none := g2 (hp.objs.size + 1) (by simp)
    have old : ∀ b o, hp.get? b = some o → G'.get? b = some o := fun b o q => (gk b (Nat.ne_of_lt (Nat.lt_succ_of_lt (Heap.lt_size q)))).trans (k b o q)
    have ob : ObjOk X.prog X.w (upd H1 dx (.xd (fv vs))) G' dx (.xd (fv vs)) := ⟨_, hns.at (fun o q => (gk dx hde).trans q), (hfv vs r).rel⟩
    have J : Inv X pins σ (upd H1 dx (.xd (fv vs))) ⟨G', g, dr, tk', os⟩ := I1.laid (t' := tk') old hd0 ob
    refine ⟨hp.objs.size + 1, _, _, ⟨G', g, dr, tk', os⟩, _, .ref C, some dx, rfl, J, fun b o q => ?_, ge, ho, ⟨rfl, rfl⟩, rfl, rfl, ?_, rfl, I1.bare, raises_own bP tP, q dx (I1.hok.fresh hd0)⟩
    · by_cases hb : b = hp.objs.size + 1
      · have q' : G'.get? b = some o := q
        rw [hb, ge] at q'; cases q'
      · exact (gk b hb).symm.trans q
    · rw [upd_ne (Ne.symm hde)]
      exact I1.hok.fresh (Nat.le_succ _)
/-- raise C(e, ..) -/
theorem ps_raiseX {W : WX} {pos2 : Pos} (hc : X.calm = true) (tk : Takes X W) (T : MkX X.K X.prog C none n fv) (h0 : ∀ vs : List V, vs.length = n → fv vs ≠ []) (hk : PySem.W.keepIn X.K (.ref C) = true) (hr : Room 2 X.A) (hsup : X.mg "super" = none) (bP : PySem.W.subIn X.K (.ref C) (.type "BaseException") = some true) (tP : PySem.W.typeIn X.K (.ref C) = some (.type "type"))
    (hg : Gl X x) (hm : X.mg x = some (.ref C)) (ha : PA X (e :: es) t)
    (hdb : (x == ("__debug__" : Str)) = false := by decide) (he : starEach (e :: es) X.env = (false, eval e X.env) :: starEach es X.env := by rfl) (hpl : (backTo pos (starEach es X.env)).any (·.1) = false := by rfl) :
    PS X (.Raise (some (.Call (.Name x p) (e :: es) [] pos)) none pos2) (fun _ σ H => tPmX C n fv t σ H fun cls d H' => W cls d σ H') := ps_raise hc tk (pmkX T h0 hk hr hsup bP tP hg hm ha hdb he hpl)
/-- e.f in a handler, e the exception that it holds (at a; its class cls, its dict d) -/
def tByX (K : PySem.W.Frag) (a : Addr) (cls : Value) (d : Option Addr) (f : Str) (te : TE) : TE := fun σ H Q => te σ H fun x H1 => x = .ref a ∧ ∃ (C dd : Addr) (fs : List (Str × V)) (v : V), cls = .ref C ∧ d = some dd ∧ ClsR K C ∧ PySem.W.findIn K (.ref C) f = some none ∧ H1 dd = some (.xd fs) ∧ fs.lookup f = some v ∧ Q v H1
theorem pe_byX {a : Addr} {oe : Obj} {cls : Value} {d : Option Addr} {pn : List (Addr × Obj)} {e : Expr} {f : Str} {te : TE} {pos : Pos} (hz : Zc cls d oe) (hf : ∃ vs, oe.data = .fields vs) (he : PE (X.suite a ((a, oe) :: pn)) e te)
    (hb : attributeBase e f X.env (eval e X.env) = eval e X.env) :
    PE (X.suite a ((a, oe) :: pn)) (.Attribute e f pos) (tByX X.K a cls d f te) := by
  refine ⟨fun pins s σ H Q I h => ?_⟩
  refine attr_of hb (thn (he.run pins s σ H _ I h) fun u s1 hh => ?_)
  obtain ⟨x, H1, I1, rx, ex, C, dd, fs, v, ec, ed, T, nf, ea, lk, q⟩ := hh
  subst ex
  obtain rfl : u = Value.ref a := rx
  subst ec
  subst ed
  obtain ⟨ha, _⟩ := I1.pin (a, oe) (List.mem_append_left _ List.mem_cons_self)
  obtain ⟨vs, hd⟩ := hf
  have hx : ObjOk X.prog X.w H1 s1.heap dd (.xd fs) := I1.hok dd _ ea
  obtain ⟨mA, hns, hr⟩ := hx
  obtain ⟨od, ho, hl⟩ := lookIn_ns hns
  obtain ⟨u, hu, ru⟩ := RelO.some_of (v := v) (o := mA f) (by rw [← lk]; exact hr f)
  have J : PySem.W.InstAt s1.heap a oe C (some od) := ⟨ha, hz.1, by unfold PySem.W.notCls; rw [hd] <;> rfl, by rw [hz.2]; exact ho⟩
  exact PySem.PX.exc_get I1.kIn J T.ga T.gt T.sb (PySem.W.findObj_own T.di nf rfl (by rw [hl, hu])) (handed_of ru) ⟨v, H1, I1.tok _, ru, q⟩
end
end XR
namespace XR
open PySem L2
def tyN : PyData → String
  | .none => "NoneType"
  | .bool _ => "bool"
  | .int _ => "int"
  | .str _ => "str"
  | .list _ => "list"
  | .tuple _ => "tuple"
  | .dict _ => "dict"
theorem Dq.ty {K : PySem.W.Frag} {H : Hp} {x : V} {d : PyData} (h : Dq K H x d) : TyX K H x (.type (tyN d)) := by
  cases h with
  | non => exact .base .non
  | bl b => exact .base (.bl b)
  | int i => exact .base (.int i)
  | str s => exact .base (.str s)
  | lst h1 h2 =>
    rcases h1 with (h | ⟨o, h⟩) | ⟨o, _, _, h, hc, _⟩
    · exact .base (.lst h)
    · exact .base (.frz h)
    · exact .kList h hc
  | tup h1 h2 =>
    rcases h1 with (h | ⟨o, h⟩) | ⟨o, _, _, h, hc, _⟩
    · exact .base (.tup h)
    · exact .fTuple h
    · exact .kTuple h hc
  | dct h1 _ _ => exact .base (.dK h1)
/-- a judge of any value -/
def spJudge (K : PySem.W.Frag) (p : PyData → Bool) : Sp := fun vs H Q _ => ∃ (x : V) (d : PyData), vs = [x] ∧ Dq K H x d ∧ ∀ H', Same H H' → Q (.bl (p d)) H'
def isWhole : PyData → Bool
  | .int _ => true
  | _ => false
def isSeq : PyData → Bool
  | .list _ => true
  | .tuple _ => true
  | _ => false
def isLine : PyData → Bool
  | .str s => !decide ((10 : Nat) ∈ s.cps.toList)
  | _ => false
def itemsOf : PyData → List PyData
  | .list ds => ds
  | .tuple ds => ds
  | _ => []
def isText (d : PyData) : Bool := isSeq d && (decide ((itemsOf d).length ≤ 60) && (itemsOf d).all isLine)
theorem kit_int (d : PyData) : kitB (tyN d) "int" = some (isWhole d || (match d with | .bool _ => true | _ => false)) := by
  cases d <;> kernel_rfl
theorem kit_bool (d : PyData) : kitB (tyN d) "bool" = some (match d with | .bool _ => true | _ => false) := by
  cases d <;> kernel_rfl
theorem kit_str (d : PyData) : kitB (tyN d) "str" = some (match d with | .str _ => true | _ => false) := by
  cases d <;> kernel_rfl
theorem kit_tuple (d : PyData) : kitB (tyN d) "tuple" = some (match d with | .tuple _ => true | _ => false) := by
  cases d <;> kernel_rfl
end XR
namespace K16
open PySem L2 XR
abbrev sWhole : Stmt := top 6
abbrev sWithin : Stmt := top 7
abbrev sIsList : Stmt := top 8
abbrev sIsTuple : Stmt := top 9
abbrev sSpot : Stmt := top 10
abbrev sLine : Stmt := top 13
abbrev sIsText : Stmt := top 14
section
variable {P : Program} {w : World} {K : PySem.W.Frag} {mg : Str → Option Value} {base : Heap}
theorem scWhole : FnScope ["value"] ["value"] (defScope sWhole) := ⟨rfl, rfl, rfl, by decide +kernel, rfl, by decide +kernel, by decide +kernel⟩
def Blt.isin {mg : Str → Option Value} (T : Blt mg) : mg "isinstance" = none := T.all _ (by decide)
theorem ok_whole {f : Addr} {fd : FuncData} (F : Fun K "is_whole" "is_whole" sWhole f fd) (T : Blt mg) : FnOk P w K mg base CX0 1 f fd ["value"] (spJudge K isWhole) := by
  refine F.ok scWhole (fun vs H Q E h => ?_) (fun cdv A outer s H vs Q E hr h => ?_)
  · obtain ⟨x, d, rfl, _⟩ := h
    rfl
  · obtain ⟨x, d, rfl, hd, z⟩ := h
    refine ⟨_, pss_one (ps_ret (pe_and (pe_callB call_isi (by rfl) T.isin (by decide +kernel) (pa_cons (pv 0) (pa_cons (pe_bltn (v := .ty "int") (u := .type "int") (by rfl) T.int (by decide +kernel) rfl) pa_nil)))
      (pe_one (pe_not (pe_callB call_isi (by rfl) T.isin (by decide +kernel) (pa_cons (pv 0) (pa_cons (pe_bltn (v := .ty "bool") (u := .type "bool") (by rfl) (T.all "bool" (by decide)) (by decide +kernel) rfl) pa_nil))))))), ?_⟩
    refine ⟨_, rfl, x, _, _, _, _, rfl, .ty "int", hd.ty, kit_ty (kit_int d), _, rfl, ?_⟩
    have zz := z H (fun _ _ e => e)
    cases d <;> first
      | exact iteF zz
      | exact iteT ⟨_, rfl, x, _, _, _, _, rfl, .ty "bool", hd.ty, kit_ty (kit_bool _), _, rfl, zz⟩
theorem scIsList : FnScope ["value"] ["value"] (defScope sIsList) := ⟨rfl, rfl, rfl, by decide +kernel, rfl, by decide +kernel, by decide +kernel⟩
theorem kit_seq {K : PySem.W.Frag} (d : PyData) : PySem.W.kitAny K (.type (tyN d)) [.type "list", .type "tuple"] = some (isSeq d) := by
  cases d <;> kernel_rfl
theorem ok_isList {f : Addr} {fd : FuncData} (F : Fun K "is_list" "is_list" sIsList f fd) (T : Blt mg) : FnOk P w K mg base CX0 1 f fd ["value"] (spJudge K isSeq) := by
  refine F.ok scIsList (fun vs H Q E h => ?_) (fun cdv A outer s H vs Q E hr h => ?_)
  · obtain ⟨x, d, rfl, _⟩ := h
    rfl
  · obtain ⟨x, d, rfl, hd, z⟩ := h
    refine ⟨_, pss_one (ps_ret (pe_callB call_isiT (by rfl) T.isin (by decide +kernel) (pa_cons (pv 0) (pa_cons (pe_tup (pa_cons (pe_bltn (v := .ty "list") (u := .type "list") (by rfl) (T.all "list" (by decide)) (by decide +kernel) rfl) (pa_cons (pe_bltn (v := .ty "tuple") (u := .type "tuple") (by rfl) (T.all "tuple" (by decide)) (by decide +kernel) rfl) pa_nil))) pa_nil)))), ?_⟩
    refine ⟨_, rfl, ll20 (by show 2 ≤ 20; decide), fun t nt => ?_⟩
    have s := same_upd (o := .tup [V.ty "list", V.ty "tuple"]) nt
    exact ⟨x, t, _, _, _, _, rfl, upd_same, .cons (.ty "list") (.cons (.ty "tuple") .nil), (hd.same s).ty, kit_seq d, z _ s⟩
theorem scLine : FnScope ["value"] ["value"] (defScope sLine) := ⟨rfl, rfl, rfl, by decide +kernel, rfl, by decide +kernel, by decide +kernel⟩
theorem ok_line {f : Addr} {fd : FuncData} (F : Fun K "is_line" "is_line" sLine f fd) (T : Blt mg) : FnOk P w K mg base CX0 1 f fd ["value"] (spJudge K isLine) := by
  refine F.ok scLine (fun vs H Q E h => ?_) (fun cdv A outer s H vs Q E hr h => ?_)
  · obtain ⟨x, d, rfl, _⟩ := h
    rfl
  · obtain ⟨x, d, rfl, hd, z⟩ := h
    refine ⟨_, pss_one (ps_ret (pe_and (pe_callB call_isi (by rfl) T.isin (by decide +kernel) (pa_cons (pv 0) (pa_cons (pe_bltn (v := .ty "str") (u := .type "str") (by rfl) (T.all "str" (by decide)) (by decide +kernel) rfl) pa_nil)))
      (pe_one (pe_cmpR op_notIn_sign pe_str (pv 0) (by rfl))))), ?_⟩
    refine ⟨_, rfl, x, _, _, _, _, rfl, .ty "str", hd.ty, kit_ty (kit_str d), _, rfl, ?_⟩
    have zz := z H (fun _ _ e => e)
    cases d <;> first
      | exact iteF zz
      | skip
    cases hd
    exact iteT ⟨_, rfl, _, _, rfl, rfl, zz⟩
end
end K16
namespace XR
open PySem L2
theorem DqAll.get {K : PySem.W.Frag} {H : Hp} : ∀ {xs : List V} {ds : List PyData} {i : Nat} {x : V}, DqAll K H xs ds → xs[i]? = some x → ∃ d, ds[i]? = some d ∧ Dq K H x d
  | _, _, _, _, .nil, h => by simp at h
  | _, _, 0, _, .cons (d := d) a b, h => by
    have e := Option.some.inj h
    subst e
    exact ⟨d, rfl, a⟩
  | _, _, i + 1, _, .cons a b, h => b.get (i := i) h
end XR
namespace K16
open PySem L2 XR
section
variable {P : Program} {w : World} {K : PySem.W.Frag} {mg : Str → Option Value} {base : Heap}
theorem scIsText : FnScope ["value", "line"] ["value"] (defScope sIsText) := ⟨rfl, rfl, rfl, by decide +kernel, rfl, by decide +kernel, by decide +kernel⟩
theorem ok_isText {f fL fI : Addr} {fd fdL fdI : FuncData} {tm : Nat} (F : Fun K "is_text" "is_text" sIsText f fd) (T : Blt mg) (mM : mg "MOST" = some (.int 60 tm))
    (FL : Fun K "is_list" "is_list" sIsList fL fdL) (bL : Binds K fdL ["value"] []) (mL : mg "is_list" = some (.ref fL))
    (FI : Fun K "is_line" "is_line" sLine fI fdI) (bI : Binds K fdI ["value"] []) (mI : mg "is_line" = some (.ref fI)) : FnOk P w K mg base CX0 2 f fd ["value"] (spJudge K isText) := by
  have GL := ok_isList (P := P) (w := w) (base := base) FL T
  have GI := ok_line (P := P) (w := w) (base := base) FI T
  refine F.ok scIsText (fun vs H Q E h => ?_) (fun cdv A outer s H vs Q E hr h => ?_)
  · obtain ⟨x, d, rfl, _⟩ := h
    rfl
  · obtain ⟨x, d, rfl, hd, z⟩ := h
    cases hd with
    | @lst a xs ds h1 h2 =>
      refine ⟨_, pss_one (ps_ret (pe_and (pe_call GL hr rfl mL FL.kp bL .nil pass0 (pa_cons (pv 0) pa_nil)) (pe_and (pe_cmpR op_le (pe_callB call_len_seq (by rfl) T.len PySem.boot_len (pa_cons (pv 0) pa_nil)) (pe_glob (v := .int 60) (by rfl) mM ⟨_, rfl⟩) (nomark _))
        (pe_one (pe_callB (cr_all rfl) (by rfl) (T.all "all" (by decide)) (by decide +kernel) (pa_cons (pe_lc (own := [("line", 1)]) (g := gName 1) (tt := tYes) (te := tCall (spJudge K isLine) [] E0 (tCons (tVar 1) tNil)) rfl scIsText.nd (pi_list (pv 0))
          (blkOk_by (own := [("line", 1)]) (N := ["value", "line"]) (sc := defScope sIsText) (by decide +kernel)) (fun _ _ _ _ _ => pg_name (i := 1) scIsText.nd rfl (Or.inl rfl)) (fun _ _ _ _ _ => pts_nil)
          (fun _ _ _ _ _ => pe_call GI hr rfl mI FI.kp bI .nil pass0 (pa_cons (pv 1) pa_nil))) pa_nil)))))), ?_⟩
      refine ⟨_, rfl, _, _, rfl, .lst h1 h2, fun H1 s1 => ⟨_, rfl, iteT ⟨_, rfl, a, xs, rfl, .inl (s1.seq h1), _, _, rfl, rfl, _, rfl, ?_⟩⟩⟩
      have hlen := h2.length
      refine ite2 (fun c1 => ?_) (fun c1 => ?_)
      · have c2 : xs.length ≤ 60 := by have := of_decide_eq_true c1; omega
        refine ⟨_, rfl, a, rfl, ⟨_, s1.seq h1⟩, fun D nD => ?_⟩
        have sD := same_upd (o := .lst []) nD
        refine lc_list (K := K) (a := a) (xs := xs) (fun i H' => Same H1 H' ∧ H' D = some (.lst (((ds.take i).map isLine).map V.bl))) ⟨sD, upd_same⟩ (fun i H' _ hh => (hh.1).seq (s1.seq h1)) ?_ ?_
        · rintro i x H' hx ⟨sm, hD⟩
          obtain ⟨d, hd1, hd2⟩ := h2.get hx
          refine ⟨rfl, ?_⟩
          unfold tYes
          dsimp only
          rw [if_pos rfl]
          refine ⟨_, rfl, x, d, rfl, (hd2.same s1).same sm, fun H2 s2 => ⟨_, s2 _ _ hD, ?_, fun b o h => ?_, ?_⟩⟩
          · rw [List.length_map, List.length_map]
            have c3 : (ds.take i).length ≤ 60 := by rw [List.length_take]; omega
            exact Nat.lt_of_le_of_lt c3 (by decide)
          · rw [upd_ne (ne_of_none h nD)]
            exact s2 _ _ (sm _ _ h)
          · rw [upd_same, List.take_add_one, hd1, List.map_append, List.map_append]
            rfl
        · rintro H' ⟨sm, hD⟩
          refine ⟨D, ds.map isLine, rfl, SqL.of (by rw [hD, hlen, List.take_length]), ?_⟩
          have e : (ds.map isLine).all id = isText (.list ds) := by
            unfold isText isSeq itemsOf
            rw [List.all_map, decide_eq_true (show ds.length ≤ 60 by omega)]
            rfl
          rw [e]
          exact z _ (s1.trans sm)
      · have e : isText (.list ds) = false := by
          have c2 : ¬ ds.length ≤ 60 := fun h => c1 (decide_eq_true (by omega))
          unfold isText isSeq itemsOf
          rw [decide_eq_false c2]
          rfl
        have zz := z _ s1
        rw [e] at zz
        exact zz
    | @tup a xs ds h1 h2 =>
      refine ⟨_, pss_one (ps_ret (pe_and (pe_call GL hr rfl mL FL.kp bL .nil pass0 (pa_cons (pv 0) pa_nil)) (pe_and (pe_cmpR op_le (pe_callB call_len_seq (by rfl) T.len PySem.boot_len (pa_cons (pv 0) pa_nil)) (pe_glob (v := .int 60) (by rfl) mM ⟨_, rfl⟩) (nomark _))
        (pe_one (pe_callB (cr_all rfl) (by rfl) (T.all "all" (by decide)) (by decide +kernel) (pa_cons (pe_lc (own := [("line", 1)]) (g := gName 1) (tt := tYes) (te := tCall (spJudge K isLine) [] E0 (tCons (tVar 1) tNil)) rfl scIsText.nd (pi_tup (pv 0))
          (blkOk_by (own := [("line", 1)]) (N := ["value", "line"]) (sc := defScope sIsText) (by decide +kernel)) (fun _ _ _ _ _ => pg_name (i := 1) scIsText.nd rfl (Or.inl rfl)) (fun _ _ _ _ _ => pts_nil)
          (fun _ _ _ _ _ => pe_call GI hr rfl mI FI.kp bI .nil pass0 (pa_cons (pv 1) pa_nil))) pa_nil)))))), ?_⟩
      refine ⟨_, rfl, _, _, rfl, .tup h1 h2, fun H1 s1 => ⟨_, rfl, iteT ⟨_, rfl, a, xs, rfl, .inr (XR.Same.tup s1 h1), _, _, rfl, rfl, _, rfl, ?_⟩⟩⟩
      have hlen := h2.length
      refine ite2 (fun c1 => ?_) (fun c1 => ?_)
      · have c2 : xs.length ≤ 60 := by have := of_decide_eq_true c1; omega
        refine ⟨_, rfl, a, rfl, ⟨_, XR.Same.tup s1 h1⟩, fun D nD => ?_⟩
        have sD := same_upd (o := .lst []) nD
        refine lc_tup (K := K) (a := a) (xs := xs) (fun i H' => Same H1 H' ∧ H' D = some (.lst (((ds.take i).map isLine).map V.bl))) ⟨sD, upd_same⟩ (fun i H' _ hh => XR.Same.tup hh.1 (XR.Same.tup s1 h1)) ?_ ?_
        · rintro i x H' hx ⟨sm, hD⟩
          obtain ⟨d, hd1, hd2⟩ := h2.get hx
          refine ⟨rfl, ?_⟩
          unfold tYes
          dsimp only
          rw [if_pos rfl]
          refine ⟨_, rfl, x, d, rfl, (hd2.same s1).same sm, fun H2 s2 => ⟨_, s2 _ _ hD, ?_, fun b o h => ?_, ?_⟩⟩
          · rw [List.length_map, List.length_map]
            have c3 : (ds.take i).length ≤ 60 := by rw [List.length_take]; omega
            exact Nat.lt_of_le_of_lt c3 (by decide)
          · rw [upd_ne (ne_of_none h nD)]
            exact s2 _ _ (sm _ _ h)
          · rw [upd_same, List.take_add_one, hd1, List.map_append, List.map_append]
            rfl
        · rintro H' ⟨sm, hD⟩
          refine ⟨D, ds.map isLine, rfl, SqL.of (by rw [hD, hlen, List.take_length]), ?_⟩
          have e : (ds.map isLine).all id = isText (.tuple ds) := by
            unfold isText isSeq itemsOf
            rw [List.all_map, decide_eq_true (show ds.length ≤ 60 by omega)]
            rfl
          rw [e]
          exact z _ (s1.trans sm)
      · have e : isText (.tuple ds) = false := by
          have c2 : ¬ ds.length ≤ 60 := fun h => c1 (decide_eq_true (by omega))
          unfold isText isSeq itemsOf
          rw [decide_eq_false c2]
          rfl
        have zz := z _ s1
        rw [e] at zz
        exact zz
    | non =>
      refine ⟨_, pss_one (ps_ret (pe_and (pe_call GL hr rfl mL FL.kp bL .nil pass0 (pa_cons (pv 0) pa_nil)) (pe_and (pe_cmpR op_le (pe_callB call_len_seq (by rfl) T.len PySem.boot_len (pa_cons (pv 0) pa_nil)) (pe_glob (v := .int 60) (by rfl) mM ⟨_, rfl⟩) (nomark _))
        (pe_one (pe_callB (cr_all rfl) (by rfl) (T.all "all" (by decide)) (by decide +kernel) (pa_cons (pe_lc (own := [("line", 1)]) (g := gName 1) (tt := tYes) (te := tCall (spJudge K isLine) [] E0 (tCons (tVar 1) tNil)) rfl scIsText.nd (pi_list (pv 0))
          (blkOk_by (own := [("line", 1)]) (N := ["value", "line"]) (sc := defScope sIsText) (by decide +kernel)) (fun _ _ _ _ _ => pg_name (i := 1) scIsText.nd rfl (Or.inl rfl)) (fun _ _ _ _ _ => pts_nil)
          (fun _ _ _ _ _ => pe_call GI hr rfl mI FI.kp bI .nil pass0 (pa_cons (pv 1) pa_nil))) pa_nil)))))), ?_⟩
      exact ⟨_, rfl, _, _, rfl, .non, fun H1 s1 => ⟨_, rfl, iteF (z _ s1)⟩⟩
    | bl b =>
      refine ⟨_, pss_one (ps_ret (pe_and (pe_call GL hr rfl mL FL.kp bL .nil pass0 (pa_cons (pv 0) pa_nil)) (pe_and (pe_cmpR op_le (pe_callB call_len_seq (by rfl) T.len PySem.boot_len (pa_cons (pv 0) pa_nil)) (pe_glob (v := .int 60) (by rfl) mM ⟨_, rfl⟩) (nomark _))
        (pe_one (pe_callB (cr_all rfl) (by rfl) (T.all "all" (by decide)) (by decide +kernel) (pa_cons (pe_lc (own := [("line", 1)]) (g := gName 1) (tt := tYes) (te := tCall (spJudge K isLine) [] E0 (tCons (tVar 1) tNil)) rfl scIsText.nd (pi_list (pv 0))
          (blkOk_by (own := [("line", 1)]) (N := ["value", "line"]) (sc := defScope sIsText) (by decide +kernel)) (fun _ _ _ _ _ => pg_name (i := 1) scIsText.nd rfl (Or.inl rfl)) (fun _ _ _ _ _ => pts_nil)
          (fun _ _ _ _ _ => pe_call GI hr rfl mI FI.kp bI .nil pass0 (pa_cons (pv 1) pa_nil))) pa_nil)))))), ?_⟩
      exact ⟨_, rfl, _, _, rfl, .bl b, fun H1 s1 => ⟨_, rfl, iteF (z _ s1)⟩⟩
    | int i =>
      refine ⟨_, pss_one (ps_ret (pe_and (pe_call GL hr rfl mL FL.kp bL .nil pass0 (pa_cons (pv 0) pa_nil)) (pe_and (pe_cmpR op_le (pe_callB call_len_seq (by rfl) T.len PySem.boot_len (pa_cons (pv 0) pa_nil)) (pe_glob (v := .int 60) (by rfl) mM ⟨_, rfl⟩) (nomark _))
        (pe_one (pe_callB (cr_all rfl) (by rfl) (T.all "all" (by decide)) (by decide +kernel) (pa_cons (pe_lc (own := [("line", 1)]) (g := gName 1) (tt := tYes) (te := tCall (spJudge K isLine) [] E0 (tCons (tVar 1) tNil)) rfl scIsText.nd (pi_list (pv 0))
          (blkOk_by (own := [("line", 1)]) (N := ["value", "line"]) (sc := defScope sIsText) (by decide +kernel)) (fun _ _ _ _ _ => pg_name (i := 1) scIsText.nd rfl (Or.inl rfl)) (fun _ _ _ _ _ => pts_nil)
          (fun _ _ _ _ _ => pe_call GI hr rfl mI FI.kp bI .nil pass0 (pa_cons (pv 1) pa_nil))) pa_nil)))))), ?_⟩
      exact ⟨_, rfl, _, _, rfl, .int i, fun H1 s1 => ⟨_, rfl, iteF (z _ s1)⟩⟩
    | str s =>
      refine ⟨_, pss_one (ps_ret (pe_and (pe_call GL hr rfl mL FL.kp bL .nil pass0 (pa_cons (pv 0) pa_nil)) (pe_and (pe_cmpR op_le (pe_callB call_len_seq (by rfl) T.len PySem.boot_len (pa_cons (pv 0) pa_nil)) (pe_glob (v := .int 60) (by rfl) mM ⟨_, rfl⟩) (nomark _))
        (pe_one (pe_callB (cr_all rfl) (by rfl) (T.all "all" (by decide)) (by decide +kernel) (pa_cons (pe_lc (own := [("line", 1)]) (g := gName 1) (tt := tYes) (te := tCall (spJudge K isLine) [] E0 (tCons (tVar 1) tNil)) rfl scIsText.nd (pi_list (pv 0))
          (blkOk_by (own := [("line", 1)]) (N := ["value", "line"]) (sc := defScope sIsText) (by decide +kernel)) (fun _ _ _ _ _ => pg_name (i := 1) scIsText.nd rfl (Or.inl rfl)) (fun _ _ _ _ _ => pts_nil)
          (fun _ _ _ _ _ => pe_call GI hr rfl mI FI.kp bI .nil pass0 (pa_cons (pv 1) pa_nil))) pa_nil)))))), ?_⟩
      exact ⟨_, rfl, _, _, rfl, .str s, fun H1 s1 => ⟨_, rfl, iteF (z _ s1)⟩⟩
    | dct h1 h2 h3 =>
      refine ⟨_, pss_one (ps_ret (pe_and (pe_call GL hr rfl mL FL.kp bL .nil pass0 (pa_cons (pv 0) pa_nil)) (pe_and (pe_cmpR op_le (pe_callB call_len_seq (by rfl) T.len PySem.boot_len (pa_cons (pv 0) pa_nil)) (pe_glob (v := .int 60) (by rfl) mM ⟨_, rfl⟩) (nomark _))
        (pe_one (pe_callB (cr_all rfl) (by rfl) (T.all "all" (by decide)) (by decide +kernel) (pa_cons (pe_lc (own := [("line", 1)]) (g := gName 1) (tt := tYes) (te := tCall (spJudge K isLine) [] E0 (tCons (tVar 1) tNil)) rfl scIsText.nd (pi_list (pv 0))
          (blkOk_by (own := [("line", 1)]) (N := ["value", "line"]) (sc := defScope sIsText) (by decide +kernel)) (fun _ _ _ _ _ => pg_name (i := 1) scIsText.nd rfl (Or.inl rfl)) (fun _ _ _ _ _ => pts_nil)
          (fun _ _ _ _ _ => pe_call GI hr rfl mI FI.kp bI .nil pass0 (pa_cons (pv 1) pa_nil))) pa_nil)))))), ?_⟩
      exact ⟨_, rfl, _, _, rfl, .dct h1 h2 h3, fun H1 s1 => ⟨_, rfl, iteF (z _ s1)⟩⟩
end
end K16
namespace XR
open PySem PySem.Spec L2
/-- a call that raises nothing of a def that may raise -/
theorem passF {X : Cx} (σ : St) : PassesAt (L2.CX X.prog X.w) X σ E0 := fun pins H s e s' I h => by
  obtain ⟨_, _, _, _, _, _, _, _, _, _, _, _, z⟩ := h
  exact z.elim
section
variable {X : Cx} {CX : CXT} {k : Nat} {f : Addr} {sp : Sp} {E : St → XK} {x : Str} {p pos : Pos} {e : Expr} {es : List Expr} {t : TA}
/-- the plain call of a def that is known by its promise for any arguments -/
theorem pe_callR (F : FnR X.prog X.w X.K X.mg X.base CX k f sp) (hr : Room k X.A) (hgl : Gl X x) (hm : X.mg x = some (.ref f)) (hk : PySem.W.keepIn X.K (.ref f) = true) (hx : ∀ σ, PassesAt CX X σ (E σ)) (ha : PA X (e :: es) t)
    (hdb : (x == ("__debug__" : Str)) = false := by decide) (he : starEach (e :: es) X.env = (false, eval e X.env) :: starEach es X.env := by rfl) (hpl : (backTo pos (starEach es X.env)).any (·.1) = false := by rfl) :
    PE X (.Call (.Name x p) (e :: es) [] pos) (fun σ H Q => t σ H fun vs H1 => sp vs H1 Q (E σ)) := by
  refine ⟨fun pins s σ H Q I h => ?_⟩
  refine wpAny_Call_Name_kw (ld_glob I hgl hm ?_ hdb)
  refine PySem.W.callWith_K (h₀ := X.base) I.ok.mod.kin hk (thn (ha.run pos pins s σ H _ I h) fun us s1 ⟨vs, H1, I1, r, q⟩ => ⟨I1.kIn, ?_⟩) he hpl
  refine wpAny_call (codeAny_mono (F X.A X.stack s1 H1 us vs Q (E σ) hr I1.env0 r q) fun r' s' hq => ?_)
  cases r' with
  | error e => exact hx σ pins H1 s1 e s' I1 hq
  | ok fl =>
    cases fl with
    | ret u => exact I1.after hq
    | next => exact False.elim hq
    | brk => exact False.elim hq
    | cont => exact False.elim hq
end
/-- what is known of a class of exceptions with n fields -/
structure XOk (P : Program) (K : PySem.W.Frag) (mg : Str → Option Value) (x : Str) (C : Addr) (n : Nat) (fv : List V → List (Str × V)) : Prop where
  mx : MkX K P C none n fv
  ne : ∀ vs : List V, vs.length = n → fv vs ≠ []
  kp : PySem.W.keepIn K (.ref C) = true
  bP : PySem.W.subIn K (.ref C) (.type "BaseException") = some true
  tP : PySem.W.typeIn K (.ref C) = some (.type "type")
  g : mg x = some (.ref C)
  rd : ClsR K C
  nf : ∀ vs : List V, ∀ q, q ∈ fv vs → PySem.W.findIn K (.ref C) q.1 = some none
def fvOne (f : Str) : List V → List (Str × V) := fun vs => [(f, vs.getD 0 .non)]
/-- a judge of texts: it raises with the first that is none -/
def spCheck (K : PySem.W.Frag) (C : Addr) : Sp := fun vs H Q E => ∃ ds : List PyData, DqAll K H vs ds ∧ vs.length ≤ 100 ∧ (ds.all isText = true → ∀ H', Same H H' → Q .non H') ∧
  (∀ i x d, vs[i]? = some x → ds[i]? = some d → isText d = false → (∀ d', d' ∈ ds.take i → isText d' = true) → ∀ H' dd, Same H H' → H dd = none → H' dd = some (.xd [("value", x)]) → E (.ref C) (some dd) H')
end XR
namespace K16
open PySem L2 XR
abbrev sCheck : Stmt := top 15
section
variable {P : Program} {w : World} {K : PySem.W.Frag} {mg : Str → Option Value} {base : Heap}
theorem scCheck : FnScope ["texts", "text"] ["texts"] (defScope sCheck) := ⟨rfl, rfl, rfl, by decide +kernel, rfl, by decide +kernel, by decide +kernel⟩
theorem ok_check {f fI CT : Addr} {fdI : FuncData} {oc kV doc pm cdv ct : Value} {an od : Option Addr} {osl : Array (Option Value)}
    (lk : List.lookup f K = some { cls := oc, dict := od, data := Data.func (PySem.W.fnOf "check_texts" "check_texts" (defArgs sCheck) (defBody sCheck) (defScope sCheck) .none kV doc pm an cdv ct), slots := osl }) (hc : PySem.W.codeIn K cdv "check_texts" = true)
    (hsup : mg "super" = none) (XT : XOk P K mg "InvalidText" CT 1 (fvOne "value"))
    (FI : Fun K "is_text" "is_text" sIsText fI fdI) (GI : FnOk P w K mg base CX0 2 fI fdI ["value"] (spJudge K isText)) (bI : Binds K fdI ["value"] []) (mI : mg "is_text" = some (.ref fI)) : FnR P w K mg base (L2.CX P w) 3 f (spCheck K CT) := by
  have R := StX.fn_star (CX := L2.CX P w) (P := P) (w := w) (K := K) (mg := mg) (base := base) (k := 2) (ps := []) (pv := "texts") (N := ["texts", "text"])
    (sp := fun vs H Q E => ∃ (p : Addr) (xs : List V) (ds : List PyData), vs = [.ref p] ∧ H p = some (.tup xs) ∧ DqAll K H xs ds ∧ (ds.all isText = true → ∀ H', Same H H' → Q .non H') ∧
      (∀ i x d, xs[i]? = some x → ds[i]? = some d → isText d = false → (∀ d', d' ∈ ds.take i → isText d' = true) → ∀ H' dd, Same H H' → H dd = none → H' dd = some (.xd [("value", x)]) → E (.ref CT) (some dd) H'))
    lk hc scCheck StX.cxUp (fun us rest hl => by
      cases us with
      | nil => cases rest with
        | nil => rfl
        | cons r rs => rfl
      | cons a b => cases hl) (fun A outer s H vs Q E hr h => ?_)
  · intro A outer s H us vs Q E hr he r h
    refine R A outer s H us vs Q E hr he r ?_
    obtain ⟨ds, hd, hl, h1, h2⟩ := h
    refine ⟨[], vs, rfl, rfl, Nat.le_trans hl (by decide), fun p hp => ⟨p, vs, ds, rfl, upd_same, hd.same (same_upd hp), fun e H' s' => h1 e H' ((same_upd hp).trans s'), fun i x d a b c e H' dd s' n k => h2 i x d a b c e H' dd ((same_upd hp).trans s') ?_ k⟩⟩
    by_cases e : dd = p
    · rw [e]; exact hp
    · rw [upd_ne e] at n; exact n
  · obtain ⟨p, xs, ds, rfl, hp, hd, h1, h2⟩ := h
    refine ⟨_, pss_one (ps_for PySem.PassesOwn.leaving rfl (pi_tup (pv 0)) (pg_name (i := 1) scCheck.nd rfl (.inl rfl)) (pss_one (ps_if (pt_not (pt_val (pe_call GI hr rfl mI FI.kp bI .nil pass0 (pa_cons (pv 1) pa_nil))))
      (pss_one (ps_raiseX rfl (takes_of rfl rfl rfl rfl) XT.mx XT.ne XT.kp hr hsup XT.bP XT.tP rfl XT.g (pa_cons (pv 1) pa_nil))) pss_nil))), ?_⟩
    refine ⟨_, rfl, p, rfl, ⟨_, .inl (.inl hp)⟩, ?_⟩
    refine for_tup (K := K) (a := p) (xs := xs) (fun i σ H' => Same H H' ∧ (∃ x1, σ = [some (V.ref p), x1]) ∧ (∀ d', d' ∈ ds.take i → isText d' = true)) ⟨fun _ _ e => e, ⟨_, rfl⟩, fun d' h => by simp at h⟩ (fun i σ H' _ hh => .inl (.inl (hh.1 _ _ hp))) ?_ ?_
    · rintro i x σ H' hx ⟨sm, ⟨x1, rfl⟩, ht⟩
      obtain ⟨d, hd1, hd2⟩ := hd.get hx
      refine ⟨_, rfl, x, d, rfl, hd2.same sm, fun H2 s2 => ⟨_, rfl, ?_⟩⟩
      cases e : isText d with
      | true =>
        refine iteF ⟨sm.trans s2, ⟨_, rfl⟩, fun d' hd' => ?_⟩
        rw [List.take_add_one, hd1] at hd'
        rcases List.mem_append.mp hd' with h | h
        · exact ht d' h
        · have : d' = d := by simpa using h
          rw [this]; exact e
      | false =>
        refine iteT ⟨_, rfl, rfl, fun dd ndd => ?_⟩
        have s3 := sm.trans s2
        refine h2 i x d hx hd1 e ht _ dd (s3.trans (same_upd ndd)) ?_ upd_same
        cases q : H dd with
        | none => rfl
        | some o => rw [s3 _ _ q] at ndd; cases ndd
    · rintro σ H' ⟨sm, ⟨x1, rfl⟩, ht⟩
      refine h1 ?_ H' sm
      rw [List.all_eq_true]
      intro d' hd'
      refine ht d' ?_
      rw [hd.length, List.take_length]
      exact hd'
end
end K16
namespace XR
open PySem L2
/-- a text, a list or a tuple -/
def TxA (K : PySem.W.Frag) (H : Hp) (x : V) (ss : List Str) : Prop := ∃ a, x = .ref a ∧ (SqL K H a (ss.map V.str) ∨ SqT K H a (ss.map V.str))
theorem TxA.same {K : PySem.W.Frag} {H H' : Hp} {x : V} {ss : List Str} (s : Same H H') (h : TxA K H x ss) : TxA K H' x ss := by
  obtain ⟨a, e, h | h⟩ := h
  · exact ⟨a, e, .inl (s.seq h)⟩
  · exact ⟨a, e, .inr (XR.Same.tup s h)⟩
theorem dqStrs {K : PySem.W.Frag} {H : Hp} : ∀ ss : List Str, DqAll K H (ss.map V.str) (ss.map PyData.str)
  | [] => .nil
  | s :: ss => .cons (.str s) (dqStrs ss)
theorem TxA.dq {K : PySem.W.Frag} {H : Hp} {x : V} {ss : List Str} (h : TxA K H x ss) : ∃ d, Dq K H x d ∧ itemsOf d = ss.map PyData.str ∧ isSeq d = true := by
  obtain ⟨a, rfl, h | h⟩ := h
  · exact ⟨.list (ss.map .str), .lst h (dqStrs ss), rfl, rfl⟩
  · exact ⟨.tuple (ss.map .str), .tup h (dqStrs ss), rfl, rfl⟩
theorem word_line : ∀ s, s ∈ words → isLine (.str s) = true := by decide +kernel
theorem text_ok {d : PyData} {ss : List Str} (h1 : itemsOf d = ss.map PyData.str) (h2 : isSeq d = true) (w : Wd ss) (l : ss.length ≤ 60) : isText d = true := by
  unfold isText
  rw [h1, h2, List.length_map, decide_eq_true l, List.all_map]
  simp only [Bool.true_and]
  rw [List.all_eq_true]
  exact fun s hs => word_line s (w s hs)
def isTup (n : Int) : PyData → Bool
  | .tuple ds => decide ((ds.length : Int) = n)
  | _ => false
def isSpot : PyData → Bool
  | .tuple [a, b] => isWhole a && isWhole b
  | _ => false
def pairOk (ss1 ss2 : List Str) : PyData → Bool
  | .tuple [.int i, .int j] => decide (1 ≤ i) && (decide (i ≤ ss1.length) && (decide (1 ≤ j) && (decide (j ≤ ss2.length) && decide (ss1[(i - 1).toNat]? = ss2[(j - 1).toNat]?))))
  | _ => false
def spPair (K : PySem.W.Frag) : Sp := fun vs H Q _ => ∃ (x1 x2 v : V) (ss1 ss2 : List Str) (d : PyData), vs = [x1, x2, v] ∧ TxA K H x1 ss1 ∧ TxA K H x2 ss2 ∧ Dq K H v d ∧ ∀ H', Same H H' → Q (.bl (pairOk ss1 ss2 d)) H'
def spTup (K : PySem.W.Frag) : Sp := fun vs H Q _ => ∃ (x : V) (d : PyData) (n : Int), vs = [x, .int n] ∧ Dq K H x d ∧ ∀ H', Same H H' → Q (.bl (isTup n d)) H'
end XR
namespace K16
open PySem L2 XR
abbrev sPair : Stmt := top 18
section
variable {P : Program} {w : World} {K : PySem.W.Frag} {mg : Str → Option Value} {base : Heap}
theorem scTup : FnScope ["value", "many"] ["value", "many"] (defScope sIsTuple) := ⟨rfl, rfl, rfl, by decide +kernel, rfl, by decide +kernel, by decide +kernel⟩
theorem ok_tup {f : Addr} {fd : FuncData} (F : Fun K "is_tuple" "is_tuple" sIsTuple f fd) (T : Blt mg) : FnOk P w K mg base CX0 1 f fd ["value", "many"] (spTup K) := by
  refine F.ok scTup (fun vs H Q E h => ?_) (fun cdv A outer s H vs Q E hr h => ?_)
  · obtain ⟨x, d, n, rfl, _⟩ := h
    rfl
  · obtain ⟨x, d, n, rfl, hd, z⟩ := h
    refine ⟨_, pss_one (ps_ret (pe_and (pe_callB call_isi (by rfl) T.isin (by decide +kernel) (pa_cons (pv 0) (pa_cons (pe_bltn (v := .ty "tuple") (u := .type "tuple") (by rfl) (T.all "tuple" (by decide)) (by decide +kernel) rfl) pa_nil)))
      (pe_one (pe_cmpR op_eq (pe_callB call_len_seq (by rfl) T.len PySem.boot_len (pa_cons (pv 0) pa_nil)) (pv 1) (nomark _))))), ?_⟩
    refine ⟨_, rfl, x, _, _, _, _, rfl, .ty "tuple", hd.ty, kit_ty (kit_tuple d), _, rfl, ?_⟩
    have zz := z H (fun _ _ e => e)
    cases hd with
    | @tup a xs ds h1 h2 =>
      refine iteT ⟨_, rfl, a, xs, rfl, .inr h1, _, rfl, rfl, ?_⟩
      have e : decide (V.int ((xs.length : Nat) : Int) = V.int n) = isTup n (.tuple ds) := by
        show _ = decide ((ds.length : Int) = n)
        rw [h2.length]
        by_cases q : ((ds.length : Nat) : Int) = n
        · rw [decide_eq_true q, q]; simp
        · rw [decide_eq_false q]; simp [q]
      rw [e]
      exact zz
    | non => exact iteF zz
    | bl b => exact iteF zz
    | int i => exact iteF zz
    | str s => exact iteF zz
    | lst h1 h2 => exact iteF zz
    | dct h1 h2 h3 => exact iteF zz
end
end K16
namespace XR
open PySem L2
theorem DqAll.two {K : PySem.W.Frag} {H : Hp} {xs : List V} {ds : List PyData} (h : DqAll K H xs ds) (e : ds.length = 2) : ∃ d1 d2 y1 y2, ds = [d1, d2] ∧ xs = [y1, y2] ∧ Dq K H y1 d1 ∧ Dq K H y2 d2 := by
  cases h with
  | nil => cases e
  | cons a h =>
    cases h with
    | nil => cases e
    | cons b h =>
      cases h with
      | nil => exact ⟨_, _, _, _, rfl, rfl, a, b⟩
      | cons c h => simp at e
end XR
namespace K16
open PySem L2 XR
section
variable {P : Program} {w : World} {K : PySem.W.Frag} {mg : Str → Option Value} {base : Heap}
theorem scSpot : FnScope ["value"] ["value"] (defScope sSpot) := ⟨rfl, rfl, rfl, by decide +kernel, rfl, by decide +kernel, by decide +kernel⟩
theorem ok_spot {f fT fW : Addr} {fd fdT fdW : FuncData} (F : Fun K "is_spot" "is_spot" sSpot f fd) (T : Blt mg) (FT : Fun K "is_tuple" "is_tuple" sIsTuple fT fdT) (bT : Binds K fdT ["value", "many"] []) (mT : mg "is_tuple" = some (.ref fT))
    (FW : Fun K "is_whole" "is_whole" sWhole fW fdW) (bW : Binds K fdW ["value"] []) (mW : mg "is_whole" = some (.ref fW)) : FnOk P w K mg base CX0 2 f fd ["value"] (spJudge K isSpot) := by
  have GT := ok_tup (P := P) (w := w) (base := base) FT T
  have GW := ok_whole (P := P) (w := w) (base := base) FW T
  refine F.ok scSpot (fun vs H Q E h => ?_) (fun cdv A outer s H vs Q E hr h => ?_)
  · obtain ⟨x, d, rfl, _⟩ := h
    rfl
  · obtain ⟨x, d, rfl, hd, z⟩ := h
    refine ⟨_, pss_one (ps_ret (pe_and (pe_call GT hr rfl mT FT.kp bT .nil pass0 (pa_cons (pv 0) (pa_cons pe_int pa_nil))) (pe_and (pe_call GW hr rfl mW FW.kp bW .nil pass0 (pa_cons (pe_ix ix_tup (pv 0) pe_int (fun _ _ => rfl)) pa_nil))
      (pe_one (pe_call GW hr rfl mW FW.kp bW .nil pass0 (pa_cons (pe_ix ix_tup (pv 0) pe_int (fun _ _ => rfl)) pa_nil)))))), ?_⟩
    refine ⟨_, rfl, x, d, 2, rfl, hd, fun H1 s1 => ⟨_, rfl, ?_⟩⟩
    have zz := z H1 s1
    have no : isTup 2 d = false → isSpot d = false := by
      intro h
      cases d with
      | tuple ds =>
        have h' : decide ((ds.length : Int) = 2) = false := h
        rcases ds with _ | ⟨d1, _ | ⟨d2, _ | ⟨d3, ds⟩⟩⟩
        · rfl
        · rfl
        · exact absurd rfl (of_decide_eq_false h')
        · rfl
      | _ => rfl
    cases e : isTup 2 d with
    | false =>
      rw [no e] at zz
      exact iteF zz
    | true =>
      cases hd with
      | @tup a xs ds h1 h2 =>
        have e2 : ds.length = 2 := by
          have : ((ds.length : Nat) : Int) = 2 := of_decide_eq_true e
          omega
        obtain ⟨d1, d2, y1, y2, rfl, rfl, k1, k2⟩ := h2.two e2
        refine iteT ⟨_, rfl, a, _, _, _, rfl, rfl, XR.Same.tup s1 h1, atI_nat (j := 0) rfl, y1, d1, rfl, k1.same s1, fun H2 s2 => ⟨_, rfl, ?_⟩⟩
        have zz2 := z H2 (s1.trans s2)
        cases e3 : isWhole d1 with
        | false =>
          have e4 : isSpot (.tuple [d1, d2]) = false := by show (isWhole d1 && isWhole d2) = false; rw [e3]; rfl
          rw [e4] at zz2
          exact iteF zz2
        | true =>
          refine iteT ⟨_, rfl, a, _, _, _, rfl, rfl, XR.Same.tup s2 (XR.Same.tup s1 h1), atI_nat (j := 1) rfl, y2, d2, rfl, (k2.same s1).same s2, fun H3 s3 => ?_⟩
          have e4 : isSpot (.tuple [d1, d2]) = isWhole d2 := by show (isWhole d1 && isWhole d2) = _; rw [e3]; rfl
          have zz3 := z H3 (s1.trans (s2.trans s3))
          rw [e4] at zz3
          exact zz3
      | non => cases e
      | bl b => cases e
      | int i => cases e
      | str s => cases e
      | lst h1 h2 => cases e
      | dct h1 h2 h3 => cases e
end
end K16
namespace XR
open PySem L2
theorem spot_is {K : PySem.W.Frag} {H : Hp} {v : V} {d : PyData} (h : Dq K H v d) (e : isSpot d = true) : ∃ (a : Addr) (i j : Int), v = .ref a ∧ d = .tuple [.int i, .int j] ∧ SqT K H a [.int i, .int j] := by
  cases h with
  | @tup a xs ds h1 h2 =>
    rcases ds with _ | ⟨d1, _ | ⟨d2, _ | ⟨d3, ds⟩⟩⟩
    · cases e
    · cases e
    · obtain ⟨d1', d2', y1, y2, e1, rfl, k1, k2⟩ := h2.two rfl
      injection e1 with e1 e3
      injection e3 with e3 _
      subst e1 e3
      have e4 : (isWhole d1 && isWhole d2) = true := e
      rw [Bool.and_eq_true] at e4
      cases k1 with
      | int i =>
        cases k2 with
        | int j => exact ⟨a, _, _, rfl, rfl, h1⟩
        | _ => exact absurd (show false = true from e4.2) Bool.false_ne_true
      | _ => exact absurd (show false = true from e4.1) Bool.false_ne_true
    · cases e
  | _ => cases e
theorem not_spot {ss1 ss2 : List Str} {d : PyData} (e : isSpot d = false) : pairOk ss1 ss2 d = false := by
  unfold pairOk
  split
  · cases e
  · rfl
/-- text[i] -/
theorem TxA.ix {K : PySem.W.Frag} {H : Hp} {x : V} {ss : List Str} {Q : VK} {i : Nat} {s : Str} (h : TxA K H x ss) (e : ss[i]? = some s) {z : Int} (hz : z = (i : Int)) (q : Q (.str s) H) : rIx K x (.int z) H Q := by
  obtain ⟨a, rfl, h | h⟩ := h
  · exact .inl ⟨a, _, z, .str s, rfl, rfl, h, by rw [hz]; exact atI_nat (by rw [List.getElem?_map, e]; rfl), q⟩
  · exact .inr (.inl ⟨a, _, z, .str s, rfl, rfl, h, by rw [hz]; exact atI_nat (by rw [List.getElem?_map, e]; rfl), q⟩)
/-- len(text) -/
theorem TxA.len {K : PySem.W.Frag} {H : Hp} {x : V} {ss : List Str} (h : TxA K H x ss) {Q : VK} (q : Q (.int (ss.length : Nat)) H) : ∃ p ys, [x] = [V.ref p] ∧ (SqL K H p ys ∨ SqT K H p ys) ∧ Q (.int (ys.length : Nat)) H := by
  obtain ⟨a, rfl, h⟩ := h
  exact ⟨a, ss.map V.str, rfl, h, by rw [List.length_map]; exact q⟩
end XR
namespace K16
open PySem L2 XR
section
variable {P : Program} {w : World} {K : PySem.W.Frag} {mg : Str → Option Value} {base : Heap}
theorem scPair : FnScope ["old", "new", "value", "i", "j"] ["old", "new", "value"] (defScope sPair) := ⟨rfl, rfl, rfl, by decide +kernel, rfl, by decide +kernel, by decide +kernel⟩
theorem ok_pair {f fS : Addr} {fd fdS : FuncData} (F : Fun K "is_pair" "is_pair" sPair f fd) (T : Blt mg) (FS : Fun K "is_spot" "is_spot" sSpot fS fdS) (GS : FnOk P w K mg base CX0 2 fS fdS ["value"] (spJudge K isSpot)) (bS : Binds K fdS ["value"] []) (mS : mg "is_spot" = some (.ref fS)) : FnOk P w K mg base CX0 3 f fd ["old", "new", "value"] (spPair K) := by
  refine F.ok scPair (fun vs H Q E h => ?_) (fun cdv A outer s H vs Q E hr h => ?_)
  · obtain ⟨x1, x2, v, ss1, ss2, d, rfl, _⟩ := h
    rfl
  · obtain ⟨x1, x2, v, ss1, ss2, d, rfl, t1, t2, hd, z⟩ := h
    refine ⟨_, pss_cons (ps_if (pt_not (pt_val (pe_call GS hr rfl mS FS.kp bS .nil pass0 (pa_cons (pv 2) pa_nil)))) (pss_one (ps_ret pe_bl)) pss_nil)
      (pss_cons (ps_asg (pv 2) (pg_tup rfl (pgs_cons (pg_name (i := 3) scPair.nd rfl (.inl rfl)) (pgs_cons (pg_name (i := 4) scPair.nd rfl (.inl rfl)) pgs_nil))))
      (pss_one (ps_ret (pe_and (pe_chain op_le op_le pe_int (pv 3) (pe_callB call_len_seq (by rfl) T.len PySem.boot_len (pa_cons (pv 0) pa_nil))) (pe_and (pe_chain op_le op_le pe_int (pv 4) (pe_callB call_len_seq (by rfl) T.len PySem.boot_len (pa_cons (pv 1) pa_nil)))
        (pe_one (pe_cmpR op_eq (pe_ix ix_seq (pv 0) (pe_op op_sub (pv 3) pe_int) (fun _ _ => rfl)) (pe_ix ix_seq (pv 1) (pe_op op_sub (pv 4) pe_int) (fun _ _ => rfl)) (nomark _)))))))), ?_⟩
    refine ⟨_, rfl, v, d, rfl, hd, fun H1 s1 => ⟨_, rfl, ?_⟩⟩
    have zz := z H1 s1
    cases e : isSpot d with
    | false =>
      rw [not_spot e] at zz
      exact iteT zz
    | true =>
      obtain ⟨a, i, j, rfl, rfl, hs⟩ := spot_is hd e
      have hs1 := XR.Same.tup s1 hs
      refine iteF ⟨_, rfl, a, _, rfl, hs1, rfl, _, _, rfl, _, _, rfl, rfl, ?_⟩
      have t1' := t1.same s1
      have t2' := t2.same s1
      obtain ⟨a1, rfl, ha1⟩ := id t1'
      obtain ⟨a2, rfl, ha2⟩ := id t2'
      have hz : pairOk ss1 ss2 (.tuple [.int i, .int j]) = (decide (1 ≤ i) && (decide (i ≤ ss1.length) && (decide (1 ≤ j) && (decide (j ≤ ss2.length) && decide (ss1[(i - 1).toNat]? = ss2[(j - 1).toNat]?))))) := rfl
      rw [hz] at zz
      refine ⟨_, rfl, _, _, rfl, rfl, _, rfl, ?_⟩
      by_cases c1 : (1 : Int) ≤ i
      · rw [decide_eq_true c1] at zz ⊢
        refine iteT ⟨_, rfl, a1, _, rfl, ha1, _, _, rfl, rfl, _, rfl, ?_⟩
        rw [List.length_map]
        by_cases c2 : i ≤ (ss1.length : Int)
        · rw [decide_eq_true c2] at zz ⊢
          refine iteT ⟨_, rfl, _, _, rfl, rfl, _, rfl, ?_⟩
          by_cases c3 : (1 : Int) ≤ j
          · rw [decide_eq_true c3] at zz ⊢
            refine iteT ⟨_, rfl, a2, _, rfl, ha2, _, _, rfl, rfl, _, rfl, ?_⟩
            rw [List.length_map]
            by_cases c4 : j ≤ (ss2.length : Int)
            · rw [decide_eq_true c4] at zz ⊢
              have l1 : (i - 1).toNat < ss1.length := by omega
              have l2 : (j - 1).toNat < ss2.length := by omega
              refine iteT ⟨_, rfl, _, rfl, _, _, rfl, rfl, TxA.ix t1' (List.getElem?_eq_getElem l1) (by omega) ⟨_, rfl, _, rfl, _, _, rfl, rfl, TxA.ix t2' (List.getElem?_eq_getElem l2) (by omega) ⟨rfl, ?_⟩⟩⟩
              have e5 : decide (V.str ss1[(i - 1).toNat] = V.str ss2[(j - 1).toNat]) = decide (ss1[(i - 1).toNat]? = ss2[(j - 1).toNat]?) := by
                rw [List.getElem?_eq_getElem l1, List.getElem?_eq_getElem l2]
                by_cases q : ss1[(i - 1).toNat] = ss2[(j - 1).toNat]
                · rw [q]; simp
                · rw [decide_eq_false (fun h => q (by injection h)), decide_eq_false (fun h => q (Option.some.inj h))]
              rw [e5]
              exact zz
            · rw [decide_eq_false c4] at zz ⊢
              exact iteF zz
          · rw [decide_eq_false c3] at zz ⊢
            exact iteF ⟨_, rfl, iteF zz⟩
        · rw [decide_eq_false c2] at zz ⊢
          exact iteF zz
      · rw [decide_eq_false c1] at zz ⊢
        exact iteF ⟨_, rfl, iteF zz⟩
end
end K16
namespace XR
open PySem L2
/-- a zip of two tuples -/
theorem walk_zipT {K : PySem.W.Frag} {a b : Addr} {xs ys : List V} {n : Nat} (hn : n = min xs.length ys.length) : Walk (RZ.ItzT K a b) n (fun H => SqT K H a xs ∧ SqT K H b ys) (YPair (fun i => xs[i]?) fun i => ys[i]?) := by
  refine ⟨fun i H hi ⟨h1, h2⟩ => ?_, fun H ⟨h1, h2⟩ => ⟨xs, ys, h1, h2, ?_⟩, fun i H x H' hi ⟨h1, h2⟩ h => ?_⟩
  · have l1 : i < xs.length := by omega
    have l2 : i < ys.length := by omega
    exact ⟨xs, ys, xs[i], ys[i], h1, h2, List.getElem?_eq_getElem l1, List.getElem?_eq_getElem l2⟩
  · omega
  · obtain ⟨T, x, y, e1, e2, e3, q1, q2⟩ := h
    exact ⟨T, x, y, e1, e2, e3, q1 xs h1, q2 ys h2⟩
/-- the items of a tuple are pairs of whole numbers -/
def Prs (K : PySem.W.Frag) (H : Hp) (xs : List V) (ps : List (Int × Int)) : Prop := xs.length = ps.length ∧ ∀ (i : Nat) (q : Int × Int), ps[i]? = some q → ∃ a : Addr, xs[i]? = some (V.ref a) ∧ SqT K H a [.int q.1, .int q.2]
theorem Prs.same {K : PySem.W.Frag} {H H' : Hp} {xs : List V} {ps : List (Int × Int)} (s : Same H H') (h : Prs K H xs ps) : Prs K H' xs ps :=
  ⟨h.1, fun i q hq => let ⟨a, h1, h2⟩ := h.2 i q hq; ⟨a, h1, XR.Same.tup s h2⟩⟩
def riseB (p q : Int × Int) : Bool := decide (p.1 < q.1) && decide (p.2 < q.2)
def rising (ps : List (Int × Int)) : Bool := (List.zipWith riseB ps (ps.drop 1)).all id
def spRise (K : PySem.W.Frag) : Sp := fun vs H Q _ => ∃ (t : Addr) (xs : List V) (ps : List (Int × Int)), vs = [.ref t] ∧ SqT K H t xs ∧ Prs K H xs ps ∧ ps.length ≤ 1000 ∧ ∀ H', Same H H' → Q (.bl (rising ps)) H'
theorem cut_one (xs : List V) : cutV xs (some 1) none = xs.drop 1 := by
  unfold cutV HT.sIx
  simp only [if_neg (show ¬ (1 : Int) < 0 by decide)]
  rcases xs with _ | ⟨x, xs⟩
  · rfl
  · have e : min (1 : Int).toNat (x :: xs).length = 1 := by
      show min 1 (xs.length + 1) = 1
      omega
    rw [e]
    show List.take (xs.length + 1 - 1) xs = xs
    rw [Nat.add_sub_cancel, List.take_length]
theorem tup_upd {K : PySem.W.Frag} {H : Hp} {a p : Addr} {xs ys zs : List V} (h : SqT K H a xs) (k : H p = some (.lst ys)) : SqT K (upd H p (.lst zs)) a xs := by
  rcases h with (h | ⟨o, h⟩) | h
  · exact .inl (.inl (by rw [upd_ne (fun e => by rw [e, k] at h; cases h)]; exact h))
  · exact .inl (.inr ⟨o, by rw [upd_ne (fun e => by rw [e, k] at h; cases h)]; exact h⟩)
  · exact .inr h
end XR
namespace K16
open PySem L2 XR
abbrev sRising : Stmt := top 19
section
variable {P : Program} {w : World} {K : PySem.W.Frag} {mg : Str → Option Value} {base : Heap}
theorem scRising : FnScope ["pairs", "i", "j", "k", "n"] ["pairs"] (defScope sRising) := ⟨rfl, rfl, rfl, by decide +kernel, rfl, by decide +kernel, by decide +kernel⟩
theorem ok_rising {f : Addr} {fd : FuncData} (F : Fun K "is_rising" "is_rising" sRising f fd) (T : Blt mg) : FnOk P w K mg base CX0 1 f fd ["pairs"] (spRise K) := by
  refine F.ok scRising (fun vs H Q E h => ?_) (fun cdv A outer s H vs Q E hr h => ?_)
  · obtain ⟨t, xs, ps, rfl, _⟩ := h
    rfl
  · obtain ⟨t, xs, ps, rfl, ht, hp, hl, z⟩ := h
    refine ⟨_, pss_one (ps_ret (pe_callB (cr_all rfl) (by rfl) (T.all "all" (by decide)) (by decide +kernel) (pa_cons (pe_lc (own := [("i", 1), ("j", 2), ("k", 3), ("n", 4)]) (g := gTup K 2 (gCons (gTup K 2 (gCons (gName 1) (gCons (gName 2) gNil))) (gCons (gTup K 2 (gCons (gName 3) (gCons (gName 4) gNil))) gNil))) (tt := tYes)
        (te := tAndV (tOp (rI0 fun i j => V.bl (decide (i < j))) (tVar 1) (tVar 3)) (tOp (rI0 fun i j => V.bl (decide (i < j))) (tVar 2) (tVar 4))) rfl scRising.nd
        (RZ.pi_zipA rfl (T.all "zip" (by decide)) (pa_cons (pv 0) (pa_cons (pe_slice sl_tupA (pv 0) (po_some pe_int) po_none) pa_nil)))
        (blkOk_by (own := [("i", 1), ("j", 2), ("k", 3), ("n", 4)]) (N := ["pairs", "i", "j", "k", "n"]) (sc := defScope sRising) (by decide +kernel))
        (fun _ _ _ _ _ => pg_tup rfl (pgs_cons (pg_tup rfl (pgs_cons (pg_name (i := 1) scRising.nd rfl (.inl rfl)) (pgs_cons (pg_name (i := 2) scRising.nd rfl (.inl rfl)) pgs_nil))) (pgs_cons (pg_tup rfl (pgs_cons (pg_name (i := 3) scRising.nd rfl (.inl rfl)) (pgs_cons (pg_name (i := 4) scRising.nd rfl (.inl rfl)) pgs_nil))) pgs_nil))) (fun _ _ _ _ _ => pts_nil)
        (fun _ _ _ _ _ => pe_and (pe_cmpR op_lt (pv 1) (pv 3) (nomark _)) (pe_one (pe_cmpR op_lt (pv 2) (pv 4) (nomark _))))) pa_nil))), ?_⟩
    refine ⟨_, rfl, _, rfl, 1, rfl, t, xs, rfl, ht, fun hw => ?_, fun hn p np => ?_⟩
    · have e0 : xs.drop 1 = xs := by
        have h0 : (if (1 : Int) < 0 then ((1 : Int) + (xs.length : Nat)).toNat else min (1 : Int).toNat xs.length) = 0 := hw.1
        rw [if_neg (by decide)] at h0
        have h1 : min 1 xs.length = 0 := h0
        have h2 : xs.length = 0 := by omega
        rw [List.eq_nil_of_length_eq_zero h2]
        rfl
      have hmin : (ps.drop 1).length = min xs.length (xs.drop 1).length := by rw [List.length_drop, List.length_drop, hp.1]; omega
      have s1 : Same H H := fun _ _ e => e
      have h1 := ht
      have hu : SqT K H t (xs.drop 1) := by rw [e0]; exact ht
      refine ⟨t, t, xs, xs.drop 1, rfl, .inr ⟨h1, hu, fun D nD => ?_⟩⟩
      have sD := same_upd (o := .lst []) nD
      refine lc_it (walk_zipT (n := (ps.drop 1).length) hmin) (fun i H' => Same H H' ∧ SqT K H' t xs ∧ SqT K H' t (xs.drop 1) ∧ H' D = some (.lst (((List.zipWith riseB ps (ps.drop 1)).take i).map V.bl))) ⟨s1.trans sD, XR.Same.tup sD h1, XR.Same.tup sD hu, upd_same⟩ (fun i H' _ hh => ⟨hh.2.1, hh.2.2.1⟩) ?_ ?_
      · rintro i x Ha Hb hi ⟨sm, h1', h2', hD⟩ ⟨T0, y1, y2, rfl, nT, rfl, e1, e2⟩
        rw [List.length_drop] at hi
        have i1 : i < ps.length := by omega
        have i2 : i + 1 < ps.length := by omega
        obtain ⟨a1, x1, k1⟩ := hp.2 i _ (List.getElem?_eq_getElem i1)
        obtain ⟨a2, x2, k2⟩ := hp.2 (i + 1) _ (List.getElem?_eq_getElem i2)
        have e2' : xs[1 + i]? = some y2 := by rw [← List.getElem?_drop]; exact e2
        rw [Nat.add_comm 1 i] at e2'
        obtain rfl : y1 = V.ref a1 := Option.some.inj (e1.symm.trans x1)
        obtain rfl : y2 = V.ref a2 := Option.some.inj (e2'.symm.trans x2)
        have sT := same_upd (o := .tup [V.ref a1, V.ref a2]) nT
        have sa := sm.trans sT
        refine ⟨T0, _, rfl, .inl (.inl upd_same), rfl, _, _, rfl, a1, _, rfl, XR.Same.tup sa k1, rfl, _, _, rfl, _, _, rfl, rfl, _, _, rfl, a2, _, rfl, XR.Same.tup sa k2, rfl, _, _, rfl, _, _, rfl, rfl, rfl, rfl, ?_⟩
        unfold tYes
        dsimp only
        rw [if_pos rfl]
        have hD' := sT _ _ hD
        have hz : (List.zipWith riseB ps (ps.drop 1))[i]? = some (riseB ps[i] ps[i + 1]) := by
          rw [List.getElem?_zipWith, List.getElem?_eq_getElem i1, List.getElem?_drop, Nat.add_comm 1 i, List.getElem?_eq_getElem i2]
        have fin : ∀ c : Bool, c = riseB ps[i] ps[i + 1] → ∃ acc, upd Ha T0 (.tup [V.ref a1, V.ref a2]) D = some (.lst acc) ∧ acc.length < sizeLine ∧ (Same H (upd (upd Ha T0 (.tup [V.ref a1, V.ref a2])) D (.lst (acc ++ [V.bl c]))) ∧ SqT K (upd (upd Ha T0 (.tup [V.ref a1, V.ref a2])) D (.lst (acc ++ [V.bl c]))) t xs ∧ SqT K (upd (upd Ha T0 (.tup [V.ref a1, V.ref a2])) D (.lst (acc ++ [V.bl c]))) t (xs.drop 1) ∧ upd (upd Ha T0 (.tup [V.ref a1, V.ref a2])) D (.lst (acc ++ [V.bl c])) D = some (.lst (((List.zipWith riseB ps (ps.drop 1)).take (i + 1)).map V.bl))) := fun c hc => by
          refine ⟨_, hD', ?_, fun b o h => ?_, XR.tup_upd (XR.Same.tup sT h1') hD', XR.tup_upd (XR.Same.tup sT h2') hD', ?_⟩
          · rw [List.length_map, List.length_take]
            exact Nat.lt_of_le_of_lt (Nat.min_le_left _ _) (Nat.lt_of_lt_of_le i1 (Nat.le_trans hl (by decide)))
          · have hb := s1 _ _ h
            rw [upd_ne (ne_of_none hb nD)]
            exact sa _ _ h
          · rw [upd_same, List.take_add_one, hz, List.map_append, hc]
            rfl
        refine ⟨_, rfl, _, rfl, _, _, rfl, rfl, _, rfl, ?_⟩
        by_cases c1 : ps[i].1 < ps[i + 1].1
        · rw [decide_eq_true c1]
          refine iteT ⟨_, rfl, _, rfl, _, _, rfl, rfl, fin _ ?_⟩
          unfold riseB
          rw [decide_eq_true c1]
          rfl
        · rw [decide_eq_false c1]
          refine iteF (fin _ ?_)
          unfold riseB
          rw [decide_eq_false c1]
          rfl
      · rintro H' ⟨sm, _, _, hD⟩
        refine ⟨D, List.zipWith riseB ps (ps.drop 1), rfl, SqL.of ?_, z _ sm⟩
        rw [hD, List.take_of_length_le]
        rw [List.length_zipWith]
        exact Nat.min_le_right _ _
    · have hmin : (ps.drop 1).length = min xs.length (xs.drop 1).length := by rw [List.length_drop, List.length_drop, hp.1]; omega
      rw [cut_one]
      have s1 := same_upd (o := .tup (xs.drop 1)) np
      have h1 := XR.Same.tup s1 ht
      have hu : SqT K (upd H p (.tup (xs.drop 1))) p (xs.drop 1) := .inl (.inl upd_same)
      generalize upd H p (.tup (xs.drop 1)) = H1 at s1 h1 hu ⊢
      refine ⟨t, p, xs, xs.drop 1, rfl, .inr ⟨h1, hu, fun D nD => ?_⟩⟩
      have sD := same_upd (o := .lst []) nD
      refine lc_it (walk_zipT (n := (ps.drop 1).length) hmin) (fun i H' => Same H H' ∧ SqT K H' t xs ∧ SqT K H' p (xs.drop 1) ∧ H' D = some (.lst (((List.zipWith riseB ps (ps.drop 1)).take i).map V.bl))) ⟨s1.trans sD, XR.Same.tup sD h1, XR.Same.tup sD hu, upd_same⟩ (fun i H' _ hh => ⟨hh.2.1, hh.2.2.1⟩) ?_ ?_
      · rintro i x Ha Hb hi ⟨sm, h1', h2', hD⟩ ⟨T0, y1, y2, rfl, nT, rfl, e1, e2⟩
        rw [List.length_drop] at hi
        have i1 : i < ps.length := by omega
        have i2 : i + 1 < ps.length := by omega
        obtain ⟨a1, x1, k1⟩ := hp.2 i _ (List.getElem?_eq_getElem i1)
        obtain ⟨a2, x2, k2⟩ := hp.2 (i + 1) _ (List.getElem?_eq_getElem i2)
        have e2' : xs[1 + i]? = some y2 := by rw [← List.getElem?_drop]; exact e2
        rw [Nat.add_comm 1 i] at e2'
        obtain rfl : y1 = V.ref a1 := Option.some.inj (e1.symm.trans x1)
        obtain rfl : y2 = V.ref a2 := Option.some.inj (e2'.symm.trans x2)
        have sT := same_upd (o := .tup [V.ref a1, V.ref a2]) nT
        have sa := sm.trans sT
        refine ⟨T0, _, rfl, .inl (.inl upd_same), rfl, _, _, rfl, a1, _, rfl, XR.Same.tup sa k1, rfl, _, _, rfl, _, _, rfl, rfl, _, _, rfl, a2, _, rfl, XR.Same.tup sa k2, rfl, _, _, rfl, _, _, rfl, rfl, rfl, rfl, ?_⟩
        unfold tYes
        dsimp only
        rw [if_pos rfl]
        have hD' := sT _ _ hD
        have hz : (List.zipWith riseB ps (ps.drop 1))[i]? = some (riseB ps[i] ps[i + 1]) := by
          rw [List.getElem?_zipWith, List.getElem?_eq_getElem i1, List.getElem?_drop, Nat.add_comm 1 i, List.getElem?_eq_getElem i2]
        have fin : ∀ c : Bool, c = riseB ps[i] ps[i + 1] → ∃ acc, upd Ha T0 (.tup [V.ref a1, V.ref a2]) D = some (.lst acc) ∧ acc.length < sizeLine ∧ (Same H (upd (upd Ha T0 (.tup [V.ref a1, V.ref a2])) D (.lst (acc ++ [V.bl c]))) ∧ SqT K (upd (upd Ha T0 (.tup [V.ref a1, V.ref a2])) D (.lst (acc ++ [V.bl c]))) t xs ∧ SqT K (upd (upd Ha T0 (.tup [V.ref a1, V.ref a2])) D (.lst (acc ++ [V.bl c]))) p (xs.drop 1) ∧ upd (upd Ha T0 (.tup [V.ref a1, V.ref a2])) D (.lst (acc ++ [V.bl c])) D = some (.lst (((List.zipWith riseB ps (ps.drop 1)).take (i + 1)).map V.bl))) := fun c hc => by
          refine ⟨_, hD', ?_, fun b o h => ?_, XR.tup_upd (XR.Same.tup sT h1') hD', XR.tup_upd (XR.Same.tup sT h2') hD', ?_⟩
          · rw [List.length_map, List.length_take]
            exact Nat.lt_of_le_of_lt (Nat.min_le_left _ _) (Nat.lt_of_lt_of_le i1 (Nat.le_trans hl (by decide)))
          · have hb := s1 _ _ h
            rw [upd_ne (ne_of_none hb nD)]
            exact sa _ _ h
          · rw [upd_same, List.take_add_one, hz, List.map_append, hc]
            rfl
        refine ⟨_, rfl, _, rfl, _, _, rfl, rfl, _, rfl, ?_⟩
        by_cases c1 : ps[i].1 < ps[i + 1].1
        · rw [decide_eq_true c1]
          refine iteT ⟨_, rfl, _, rfl, _, _, rfl, rfl, fin _ ?_⟩
          unfold riseB
          rw [decide_eq_true c1]
          rfl
        · rw [decide_eq_false c1]
          refine iteF (fin _ ?_)
          unfold riseB
          rw [decide_eq_false c1]
          rfl
      · rintro H' ⟨sm, _, _, hD⟩
        refine ⟨D, List.zipWith riseB ps (ps.drop 1), rfl, SqL.of ?_, z _ sm⟩
        rw [hD, List.take_of_length_le]
        rw [List.length_zipWith]
        exact Nat.min_le_right _ _
end
end K16
namespace XR
open PySem L2
def strOf : PyData → Str
  | .str s => s
  | _ => ""
def strsOf (d : PyData) : List Str := (itemsOf d).map strOf
def pairOf : PyData → Int × Int
  | .tuple [.int i, .int j] => (i, j)
  | _ => (0, 0)
def isDiffB (ss1 ss2 : List Str) : PyData → Bool
  | .tuple ds => ds.all (pairOk ss1 ss2) && rising (ds.map pairOf)
  | _ => false
theorem all_line : ∀ (ds : List PyData), ds.all isLine = true → ds = (ds.map strOf).map PyData.str
  | [], _ => rfl
  | d :: ds, h => by
    rw [List.all_cons, Bool.and_eq_true] at h
    have ih := all_line ds h.2
    have e : d = PyData.str (strOf d) := by
      cases d with
      | str s => rfl
      | _ => exact absurd (show false = true from h.1) Bool.false_ne_true
    show d :: ds = PyData.str (strOf d) :: ((ds.map strOf).map PyData.str)
    rw [← ih, ← e]
theorem dq_strs {K : PySem.W.Frag} {H : Hp} : ∀ {xs : List V} {ss : List Str}, DqAll K H xs (ss.map PyData.str) → xs = ss.map V.str
  | [], [], _ => rfl
  | x :: xs, s :: ss, .cons a b => by
    have e := dq_strs (ss := ss) b
    cases a
    rw [e]
    rfl
theorem text_is {K : PySem.W.Frag} {H : Hp} {x : V} {d : PyData} (h : Dq K H x d) (e : isText d = true) : TxA K H x (strsOf d) := by
  unfold isText at e
  rw [Bool.and_eq_true, Bool.and_eq_true] at e
  obtain ⟨e1, e2, e3⟩ := e
  cases h with
  | @lst a xs ds h1 h2 =>
    have k : ds = (ds.map strOf).map PyData.str := all_line ds e3
    rw [k] at h2
    have q := dq_strs h2
    rw [q] at h1
    exact ⟨a, rfl, .inl h1⟩
  | @tup a xs ds h1 h2 =>
    have k : ds = (ds.map strOf).map PyData.str := all_line ds e3
    rw [k] at h2
    have q := dq_strs h2
    rw [q] at h1
    exact ⟨a, rfl, .inr h1⟩
  | _ => exact absurd (show false = true from e1) Bool.false_ne_true
theorem pairOk_spot {ss1 ss2 : List Str} {d : PyData} (e : pairOk ss1 ss2 d = true) : isSpot d = true := by
  cases q : isSpot d with
  | true => rfl
  | false => rw [not_spot q] at e; cases e
theorem prs_of {K : PySem.W.Frag} {H : Hp} {xs : List V} {ds : List PyData} {ss1 ss2 : List Str} (h : DqAll K H xs ds) (e : ds.all (pairOk ss1 ss2) = true) : Prs K H xs (ds.map pairOf) := by
  refine ⟨by rw [List.length_map, h.length], fun i q hq => ?_⟩
  rw [List.getElem?_map] at hq
  obtain ⟨d, hd, rfl⟩ := Option.map_eq_some_iff.mp hq
  have hi : i < xs.length := by rw [h.length]; exact (List.getElem?_eq_some_iff.mp hd).1
  obtain ⟨d', hd', hdq⟩ := h.get (List.getElem?_eq_getElem hi)
  obtain rfl : d = d' := Option.some.inj (hd.symm.trans hd')
  have ed := (List.all_eq_true.mp e) d (List.mem_of_getElem? hd)
  obtain ⟨a, i', j', e1, rfl, hs⟩ := spot_is hdq (pairOk_spot ed)
  exact ⟨a, by rw [List.getElem?_eq_getElem hi, e1], hs⟩
/-- the way out of a judge of texts -/
def BadT (C : Addr) (vs : List V) (ds : List PyData) (H : Hp) (E : XK) : Prop :=
  ∀ (i : Nat) (x : V) (d : PyData), vs[i]? = some x → ds[i]? = some d → isText d = false → (∀ d', d' ∈ ds.take i → isText d' = true) → ∀ H' dd, Same H H' → H dd = none → H' dd = some (.xd [("value", x)]) → E (.ref C) (some dd) H'
theorem BadT.none {C : Addr} {vs : List V} {ds : List PyData} {H : Hp} {E : XK} (h : ds.all isText = true) : BadT C vs ds H E := fun i x d _ hd e _ => by
  have := (List.all_eq_true.mp h) d (List.mem_of_getElem? hd)
  rw [e] at this; cases this
theorem BadT.same {C : Addr} {vs : List V} {ds : List PyData} {H H1 : Hp} {E : XK} (s : Same H H1) (h : BadT C vs ds H E) : BadT C vs ds H1 E := fun i x d a b c e H' dd s' n k => by
  refine h i x d a b c e H' dd (s.trans s') ?_ k
  cases q : H dd with
  | none => rfl
  | some o => rw [s _ _ q] at n; cases n
def spIsDiff (K : PySem.W.Frag) (CT : Addr) : Sp := fun vs H Q E => ∃ (x1 x2 v : V) (d1 d2 dv : PyData), vs = [x1, x2, v] ∧ Dq K H x1 d1 ∧ Dq K H x2 d2 ∧ Dq K H v dv ∧ (itemsOf dv).length ≤ 1000 ∧
  (isText d1 = true → isText d2 = true → ∀ H', Same H H' → Q (.bl (isDiffB (strsOf d1) (strsOf d2) dv)) H') ∧ BadT CT [x1, x2] [d1, d2] H E
end XR
namespace K16
open PySem L2 XR
abbrev sIsDiff : Stmt := top 17
section
variable {P : Program} {w : World} {K : PySem.W.Frag} {mg : Str → Option Value} {base : Heap}
theorem scIsDiff : FnScope ["old", "new", "value", "pair"] ["old", "new", "value"] (defScope sIsDiff) := ⟨rfl, rfl, rfl, by decide +kernel, rfl, by decide +kernel, by decide +kernel⟩
theorem ok_isDiff {f fC fP fR CT : Addr} {fd fdP fdR : FuncData} (F : Fun K "is_diff" "is_diff" sIsDiff f fd) (T : Blt mg)
    (GC : FnR P w K mg base (L2.CX P w) 3 fC (spCheck K CT)) (kC : PySem.W.keepIn K (.ref fC) = true) (mC : mg "check_texts" = some (.ref fC))
    (FP : Fun K "is_pair" "is_pair" sPair fP fdP) (GP : FnOk P w K mg base CX0 3 fP fdP ["old", "new", "value"] (spPair K)) (bP : Binds K fdP ["old", "new", "value"] []) (mP : mg "is_pair" = some (.ref fP))
    (FR : Fun K "is_rising" "is_rising" sRising fR fdR) (bR : Binds K fdR ["pairs"] []) (mR : mg "is_rising" = some (.ref fR)) : FnOk P w K mg base (L2.CX P w) 4 f fd ["old", "new", "value"] (spIsDiff K CT) := by
  have GR := ok_rising (P := P) (w := w) (base := base) FR T
  refine F.okX scIsDiff (fun vs H Q E h => ?_) (fun cdv A outer s H vs Q E hr h => ?_)
  · obtain ⟨x1, x2, v, d1, d2, dv, rfl, _⟩ := h
    rfl
  · obtain ⟨x1, x2, v, d1, d2, dv, rfl, t1, t2, hv, lv, z, bad⟩ := h
    refine ⟨_, pss_cons (ps_expr (pe_callR GC hr rfl mC kC (fun σ => passAt (takes_of rfl rfl rfl rfl) σ) (pa_cons (pv 0) (pa_cons (pv 1) pa_nil))))
      (pss_cons (ps_if (pt_not (pt_val (pe_callB call_isi (by rfl) T.isin (by decide +kernel) (pa_cons (pv 2) (pa_cons (pe_bltn (v := .ty "tuple") (u := .type "tuple") (by rfl) (T.all "tuple" (by decide)) (by decide +kernel) rfl) pa_nil))))) (pss_one (ps_ret pe_bl)) pss_nil)
      (pss_one (ps_ret (pe_and (pe_callB (cr_all rfl) (by rfl) (T.all "all" (by decide)) (by decide +kernel) (pa_cons (pe_lc (own := [("pair", 3)]) (g := gName 3) (tt := tYes) (te := tCall (spPair K) [] E0 (tCons (tVar 0) (tCons (tVar 1) (tCons (tVar 3) tNil)))) rfl scIsDiff.nd (pi_tup (pv 2))
          (blkOk_by (own := [("pair", 3)]) (N := ["old", "new", "value", "pair"]) (sc := defScope sIsDiff) (by decide +kernel)) (fun _ _ _ _ _ => pg_name (i := 3) scIsDiff.nd rfl (Or.inl rfl)) (fun _ _ _ _ _ => pts_nil)
          (fun _ _ _ _ _ => pe_call GP hr rfl mP FP.kp bP .nil pass0 (pa_cons (pv 0) (pa_cons (pv 1) (pa_cons (pv 3) pa_nil))))) pa_nil))
        (pe_one (pe_call GR (hr.mono (by decide)) rfl mR FR.kp bR .nil pass0 (pa_cons (pv 2) pa_nil))))))), ?_⟩
    refine ⟨_, rfl, _, rfl, [d1, d2], .cons t1 (.cons t2 .nil), by show 2 ≤ 100; decide, fun ht H1 s1 => ?_, bad⟩
    have ht1 : isText d1 = true ∧ isText d2 = true := by
      have : (isText d1 && (isText d2 && true)) = true := ht
      simpa using this
    have zz := z ht1.1 ht1.2
    refine ⟨_, rfl, v, _, _, _, _, rfl, .ty "tuple", (hv.same s1).ty, kit_ty (kit_tuple dv), _, rfl, ?_⟩
    have zz1 := zz H1 s1
    cases hv with
    | @tup a xs ds h1 h2 =>
      have tx1 := (text_is t1 ht1.1).same s1
      have tx2 := (text_is t2 ht1.2).same s1
      have h1' := XR.Same.tup s1 h1
      have lds : ds.length ≤ 1000 := lv
      refine iteF ⟨_, rfl, a, rfl, ⟨_, h1'⟩, fun D nD => ?_⟩
      have sD := same_upd (o := .lst []) nD
      refine lc_tup (K := K) (a := a) (xs := xs) (fun i H' => Same H1 H' ∧ H' D = some (.lst (((ds.take i).map (pairOk (strsOf d1) (strsOf d2))).map V.bl))) ⟨sD, upd_same⟩ (fun i H' _ hh => XR.Same.tup hh.1 h1') ?_ ?_
      · rintro i x H' hx ⟨sm, hD⟩
        obtain ⟨d, hd1, hd2⟩ := h2.get hx
        refine ⟨rfl, ?_⟩
        unfold tYes
        dsimp only
        rw [if_pos rfl]
        refine ⟨_, rfl, _, rfl, _, rfl, x1, x2, x, _, _, d, rfl, tx1.same sm, tx2.same sm, (hd2.same s1).same sm, fun H2 s2 => ⟨_, s2 _ _ hD, ?_, fun b o h => ?_, ?_⟩⟩
        · rw [List.length_map, List.length_map]
          have c3 : (ds.take i).length ≤ 1000 := by rw [List.length_take]; omega
          exact Nat.lt_of_le_of_lt c3 (by decide)
        · rw [upd_ne (ne_of_none h nD)]
          exact s2 _ _ (sm _ _ h)
        · rw [upd_same, List.take_add_one, hd1, List.map_append, List.map_append]
          rfl
      · rintro H' ⟨sm, hD⟩
        have s1' := s1.trans sm
        have zz2 := zz H' s1'
        refine ⟨D, ds.map (pairOk (strsOf d1) (strsOf d2)), rfl, SqL.of (by rw [hD, h2.length, List.take_length]), _, rfl, ?_⟩
        have e : (ds.map (pairOk (strsOf d1) (strsOf d2))).all id = ds.all (pairOk (strsOf d1) (strsOf d2)) := by rw [List.all_map]; rfl
        have ez : isDiffB (strsOf d1) (strsOf d2) (.tuple ds) = (ds.all (pairOk (strsOf d1) (strsOf d2)) && rising (ds.map pairOf)) := rfl
        rw [ez] at zz2
        rw [e]
        cases ea : ds.all (pairOk (strsOf d1) (strsOf d2)) with
        | false =>
          rw [ea] at zz2
          exact iteF zz2
        | true =>
          refine iteT ⟨_, rfl, a, xs, ds.map pairOf, rfl, XR.Same.tup sm h1', (prs_of h2 ea).same s1', by rw [List.length_map]; exact lds, fun H2 s2 => ?_⟩
          have zz3 := zz H2 (s1'.trans s2)
          rw [ez, ea] at zz3
          exact zz3
    | non => exact iteT zz1
    | bl b => exact iteT zz1
    | int i => exact iteT zz1
    | str s => exact iteT zz1
    | lst h1 h2 => exact iteT zz1
    | dct h1 h2 h3 => exact iteT zz1
end
end K16
namespace XR
open PySem L2
def tupD (q : Nat × Nat) : PyData := .tuple [.int (q.1 : Int), .int (q.2 : Int)]
def dfD (ps : List (Nat × Nat)) : PyData := .tuple (ps.map tupD)
theorem pair_ok {ss1 ss2 : List Str} {ps : List (Nat × Nat)} (h : IsDf ss1 ss2 ps) {q : Nat × Nat} (hq : q ∈ ps) : pairOk ss1 ss2 (tupD q) = true := by
  obtain ⟨a1, a2, b1, b2, s, e1, e2⟩ := h.1 q hq
  show (decide (1 ≤ (q.1 : Int)) && (decide ((q.1 : Int) ≤ ss1.length) && (decide (1 ≤ (q.2 : Int)) && (decide ((q.2 : Int) ≤ ss2.length) && decide (ss1[((q.1 : Int) - 1).toNat]? = ss2[((q.2 : Int) - 1).toNat]?))))) = true
  have z1 : ((q.1 : Int) - 1).toNat = q.1 - 1 := by omega
  have z2 : ((q.2 : Int) - 1).toNat = q.2 - 1 := by omega
  rw [z1, z2, e1, e2, decide_eq_true (show (1 : Int) ≤ (q.1 : Int) by omega), decide_eq_true (show (q.1 : Int) ≤ (ss1.length : Int) by omega), decide_eq_true (show (1 : Int) ≤ (q.2 : Int) by omega), decide_eq_true (show (q.2 : Int) ≤ (ss2.length : Int) by omega)]
  simp
theorem rise_ok : ∀ {ps : List (Nat × Nat)}, ps.Pairwise (fun x y => x.1 < y.1 ∧ x.2 < y.2) → rising ((ps.map tupD).map pairOf) = true
  | [], _ => rfl
  | [_], _ => rfl
  | p :: q :: ps, h => by
    have h2 := rise_ok (List.pairwise_cons.mp h).2
    have h1 := (List.pairwise_cons.mp h).1 q (List.mem_cons_self ..)
    have e : rising (((p :: q :: ps).map tupD).map pairOf) = (riseB (p.1, p.2) (q.1, q.2) && rising (((q :: ps).map tupD).map pairOf)) := rfl
    rw [e, h2]
    unfold riseB
    rw [decide_eq_true (show ((p.1 : Int), (p.2 : Int)).1 < ((q.1 : Int), (q.2 : Int)).1 by show (p.1 : Int) < q.1; omega), decide_eq_true (show ((p.1 : Int), (p.2 : Int)).2 < ((q.1 : Int), (q.2 : Int)).2 by show (p.2 : Int) < q.2; omega)]
    rfl
theorem df_ok {ss1 ss2 : List Str} {ps : List (Nat × Nat)} (h : IsDf ss1 ss2 ps) : isDiffB ss1 ss2 (dfD ps) = true := by
  show ((ps.map tupD).all (pairOk ss1 ss2) && rising ((ps.map tupD).map pairOf)) = true
  rw [rise_ok h.2, Bool.and_true, List.all_eq_true]
  intro d hd
  obtain ⟨q, hq, rfl⟩ := List.mem_map.mp hd
  exact pair_ok h hq
theorem df_len {ss1 ss2 : List Str} {ps : List (Nat × Nat)} (h : IsDf ss1 ss2 ps) : ps.length ≤ ss1.length := by
  have key : ∀ (ps : List (Nat × Nat)) (lo : Nat), ps.Pairwise (fun x y => x.1 < y.1 ∧ x.2 < y.2) → (∀ q, q ∈ ps → lo < q.1 ∧ q.1 ≤ ss1.length) → ps.length + lo ≤ ss1.length ∨ ps = [] := by
    intro ps
    induction ps with
    | nil => intro lo _ _; exact .inr rfl
    | cons p ps ih =>
      intro lo hp hq
      have hp2 := List.pairwise_cons.mp hp
      have q0 := hq p (List.mem_cons_self ..)
      rcases ih p.1 hp2.2 (fun q hqm => ⟨(hp2.1 q hqm).1, (hq q (List.mem_cons_of_mem _ hqm)).2⟩) with h | h
      · left; rw [List.length_cons]; omega
      · left; rw [h, List.length_cons, List.length_nil]; omega
  rcases key ps 0 h.2 (fun q hq => ⟨by have := (h.1 q hq).1; omega, (h.1 q hq).2.1⟩) with h | h
  · omega
  · rw [h]; exact Nat.zero_le _
/-- a diff as a value -/
def DfV (K : PySem.W.Frag) (H : Hp) (v : V) (ps : List (Nat × Nat)) : Prop := Dq K H v (dfD ps)
theorem DfAt.v {K : PySem.W.Frag} {H : Hp} {t : Addr} {ps : List (Nat × Nat)} (h : DfAt H t ps) : DfV K H (.ref t) ps := by
  obtain ⟨rs, h1, h2, h3⟩ := h
  have key : ∀ (rs : List Addr) (ps : List (Nat × Nat)), rs.length = ps.length → (∀ (i : Nat) (q : Nat × Nat), ps[i]? = some q → ∃ r : Addr, rs[i]? = some r ∧ H r = some (tupV q)) → DqAll K H (refs rs) (ps.map tupD) := by
    intro rs
    induction rs with
    | nil =>
      intro ps hl _
      cases ps with
      | nil => exact .nil
      | cons p ps => simp at hl
    | cons r rs ih =>
      intro ps hl hq
      cases ps with
      | nil => simp at hl
      | cons p ps =>
        obtain ⟨r', e1, e2⟩ := hq 0 p rfl
        obtain rfl : r = r' := Option.some.inj e1
        exact .cons (.tup (.inl (.inl e2)) (.cons (.int _) (.cons (.int _) .nil))) (ih ps (by simpa using hl) fun i q h => hq (i + 1) q h)
  exact .tup (.inl (.inl h1)) (key rs ps h2 h3)
theorem DfV.same {K : PySem.W.Frag} {H H' : Hp} {v : V} {ps : List (Nat × Nat)} (s : Same H H') (h : DfV K H v ps) : DfV K H' v ps := Dq.same s h
def spCheckD (K : PySem.W.Frag) (CT CD : Addr) : Sp := fun vs H Q E => ∃ (x1 x2 v : V) (d1 d2 dv : PyData), vs = [x1, x2, v] ∧ Dq K H x1 d1 ∧ Dq K H x2 d2 ∧ Dq K H v dv ∧ (itemsOf dv).length ≤ 1000 ∧
  (isText d1 = true → isText d2 = true → isDiffB (strsOf d1) (strsOf d2) dv = true → ∀ H', Same H H' → Q .non H') ∧ BadT CT [x1, x2] [d1, d2] H E ∧
  (isText d1 = true → isText d2 = true → isDiffB (strsOf d1) (strsOf d2) dv = false → ∀ H' dd, Same H H' → H dd = none → H' dd = some (.xd [("value", v)]) → E (.ref CD) (some dd) H')
end XR
namespace K16
open PySem L2 XR
abbrev sCheckD : Stmt := top 20
section
variable {P : Program} {w : World} {K : PySem.W.Frag} {mg : Str → Option Value} {base : Heap}
theorem scCheckD : FnScope ["old", "new", "diff"] ["old", "new", "diff"] (defScope sCheckD) := ⟨rfl, rfl, rfl, by decide +kernel, rfl, by decide +kernel, by decide +kernel⟩
theorem ok_checkD {f fI CT CD : Addr} {fd fdI : FuncData} (F : Fun K "check_diff" "check_diff" sCheckD f fd) (hsup : mg "super" = none) (XD : XOk P K mg "InvalidDiff" CD 1 (fvOne "value"))
    (FI : Fun K "is_diff" "is_diff" sIsDiff fI fdI) (GI : FnOk P w K mg base (L2.CX P w) 4 fI fdI ["old", "new", "value"] (spIsDiff K CT)) (bI : Binds K fdI ["old", "new", "value"] []) (mI : mg "is_diff" = some (.ref fI)) : FnOk P w K mg base (L2.CX P w) 5 f fd ["old", "new", "diff"] (spCheckD K CT CD) := by
  refine F.okX scCheckD (fun vs H Q E h => ?_) (fun cdv A outer s H vs Q E hr h => ?_)
  · obtain ⟨x1, x2, v, d1, d2, dv, rfl, _⟩ := h
    rfl
  · obtain ⟨x1, x2, v, d1, d2, dv, rfl, t1, t2, hv, lv, z, bad, zd⟩ := h
    refine ⟨_, pss_one (ps_if (pt_not (pt_val (pe_callS GI hr rfl mI FI.kp bI (fun σ => passAt (takes_of rfl rfl rfl rfl) σ) (pa_cons (pv 0) (pa_cons (pv 1) (pa_cons (pv 2) pa_nil))))))
      (pss_one (ps_raiseX rfl (takes_of rfl rfl rfl rfl) XD.mx XD.ne XD.kp (hr.mono (by decide)) hsup XD.bP XD.tP rfl XD.g (pa_cons (pv 2) pa_nil))) pss_nil), ?_⟩
    refine ⟨_, rfl, _, rfl, _, rfl, x1, x2, v, d1, d2, dv, rfl, t1, t2, hv, lv, fun e1 e2 H1 s1 => ⟨_, rfl, ?_⟩, bad⟩
    cases e3 : isDiffB (strsOf d1) (strsOf d2) dv with
    | true => exact iteF (z e1 e2 e3 H1 s1)
    | false =>
      refine iteT ⟨_, rfl, rfl, fun dd ndd => ?_⟩
      refine zd e1 e2 e3 _ dd (s1.trans (same_upd ndd)) ?_ upd_same
      cases q : H dd with
      | none => rfl
      | some o => rw [s1 _ _ q] at ndd; cases ndd
end
end K16
namespace XR
open PySem L2
/-- a text as a value -/
def TxV (K : PySem.W.Frag) (H : Hp) (x : V) (ss : List Str) : Prop := ∃ d, Dq K H x d ∧ isText d = true ∧ strsOf d = ss
theorem TxV.same {K : PySem.W.Frag} {H H' : Hp} {x : V} {ss : List Str} (s : Same H H') (h : TxV K H x ss) : TxV K H' x ss :=
  let ⟨d, a, b, c⟩ := h; ⟨d, a.same s, b, c⟩
theorem TxV.a {K : PySem.W.Frag} {H : Hp} {x : V} {ss : List Str} (h : TxV K H x ss) : TxA K H x ss := by
  obtain ⟨d, a, b, rfl⟩ := h
  exact text_is a b
theorem TxV.len {K : PySem.W.Frag} {H : Hp} {x : V} {ss : List Str} (h : TxV K H x ss) : ss.length ≤ 60 := by
  obtain ⟨d, a, b, rfl⟩ := h
  unfold isText at b
  rw [Bool.and_eq_true, Bool.and_eq_true] at b
  unfold strsOf
  rw [List.length_map]
  exact of_decide_eq_true b.2.1
theorem strs_back (ss : List Str) : (ss.map PyData.str).map strOf = ss := by
  rw [List.map_map]
  exact (List.map_congr_left fun s _ => rfl).trans (List.map_id _)
theorem lst_text {K : PySem.W.Frag} {H : Hp} {p : Addr} {ss : List Str} (h : SqL K H p (ss.map V.str)) (w : Wd ss) (l : ss.length ≤ 60) : TxV K H (.ref p) ss :=
  ⟨.list (ss.map .str), .lst h (dqStrs ss), text_ok rfl rfl w l, strs_back ss⟩
theorem tup_text {K : PySem.W.Frag} {H : Hp} {p : Addr} {ss : List Str} (h : SqT K H p (ss.map V.str)) (w : Wd ss) (l : ss.length ≤ 60) : TxV K H (.ref p) ss :=
  ⟨.tuple (ss.map .str), .tup h (dqStrs ss), text_ok rfl rfl w l, strs_back ss⟩
/-- where the pairs of a diff stand -/
theorem DfV.items {K : PySem.W.Frag} {H : Hp} {v : V} {ps : List (Nat × Nat)} (h : DfV K H v ps) : ∃ (t : Addr) (xs : List V), v = .ref t ∧ SqT K H t xs ∧ xs.length = ps.length ∧ ∀ (i : Nat) (x : V), xs[i]? = some x → ∃ (q : Nat × Nat) (r : Addr), ps[i]? = some q ∧ x = .ref r ∧ SqT K H r [.int (q.1 : Int), .int (q.2 : Int)] := by
  unfold DfV dfD at h
  cases h with
  | @tup a xs ds h1 h2 =>
    refine ⟨a, xs, rfl, h1, by rw [h2.length, List.length_map], fun i x hx => ?_⟩
    obtain ⟨d, hd, hq⟩ := h2.get hx
    rw [List.getElem?_map] at hd
    obtain ⟨q, e1, rfl⟩ := Option.map_eq_some_iff.mp hd
    unfold tupD at hq
    cases hq with
    | @tup r ys es k1 k2 =>
      obtain ⟨d1, d2, y1, y2, e3, rfl, m1, m2⟩ := k2.two rfl
      injection e3 with e3 e4
      injection e4 with e4 _
      subst e3 e4
      cases m1
      cases m2
      exact ⟨q, r, e1, rfl, k1⟩
/-- one more pair, made new and appended -/
theorem psStep {H : Hp} {D r : Addr} {rs : List Addr} {ps : List (Nat × Nat)} {q : Nat × Nat} (hD : H D = some (.lst (refs rs))) (h : PsAt H rs ps) (nr : H r = none) :
    upd H r (tupV q) D = some (.lst (refs rs)) ∧ PsAt (upd (upd H r (tupV q)) D (.lst (refs rs ++ [V.ref r]))) (rs ++ [r]) (ps ++ [q]) ∧ upd (upd H r (tupV q)) D (.lst (refs rs ++ [V.ref r])) D = some (.lst (refs (rs ++ [r]))) := by
  have s := same_upd (o := tupV q) nr
  have hD' := s _ _ hD
  refine ⟨hD', ((h.same s).snoc upd_same).updL hD', ?_⟩
  rw [upd_same]
  unfold refs
  rw [List.map_append]
  rfl
def swp (q : Nat × Nat) : Nat × Nat := (q.2, q.1)
/-- a diff turned about -/
def spAbout (K : PySem.W.Frag) : Sp := fun vs H Q _ => ∃ (x1 x2 v : V) (ss1 ss2 : List Str) (ps : List (Nat × Nat)), vs = [x1, x2, v] ∧ TxV K H x1 ss1 ∧ TxV K H x2 ss2 ∧ DfV K H v ps ∧ IsDf ss1 ss2 ps ∧
  ∀ t H', Same H H' → H t = none → DfAt H' t (ps.map swp) → Q (.ref t) H'
end XR
namespace K16
open PySem L2 XR
abbrev sAbout : Stmt := top 22
section
variable {P : Program} {w : World} {K : PySem.W.Frag} {mg : Str → Option Value} {base : Heap}
/-- check_diff, its facts -/
structure Chk (P : Program) (w : World) (K : PySem.W.Frag) (mg : Str → Option Value) (base : Heap) (fC CT CD : Addr) (fdC : FuncData) : Prop where
  F : Fun K "check_diff" "check_diff" sCheckD fC fdC
  G : FnOk P w K mg base (L2.CX P w) 5 fC fdC ["old", "new", "diff"] (spCheckD K CT CD)
  b : Binds K fdC ["old", "new", "diff"] []
  m : mg "check_diff" = some (.ref fC)
/-- the check of what is a diff raises nothing -/
theorem chk_ok {K : PySem.W.Frag} {CT CD : Addr} {H : Hp} {x1 x2 v : V} {ss1 ss2 : List Str} {ps : List (Nat × Nat)} {Q : VK} (t1 : TxV K H x1 ss1) (t2 : TxV K H x2 ss2) (hv : DfV K H v ps) (h : IsDf ss1 ss2 ps) (z : ∀ H', Same H H' → Q .non H') : spCheckD K CT CD [x1, x2, v] H Q E0 := by
  have l1 := t1.len
  obtain ⟨d1, a1, b1, rfl⟩ := t1
  obtain ⟨d2, a2, b2, rfl⟩ := t2
  have hl := df_len h
  refine ⟨x1, x2, v, d1, d2, dfD ps, rfl, a1, a2, hv, ?_, fun _ _ _ => z, BadT.none (by simp [b1, b2]), fun _ _ e => ?_⟩
  · show (ps.map tupD).length ≤ 1000
    rw [List.length_map]
    omega
  · rw [df_ok h] at e; cases e
theorem scAbout : FnScope ["old", "new", "diff", "i", "j"] ["old", "new", "diff"] (defScope sAbout) := ⟨rfl, rfl, rfl, by decide +kernel, rfl, by decide +kernel, by decide +kernel⟩
theorem ok_about {f fC CT CD : Addr} {fd fdC : FuncData} (F : Fun K "turned_about" "turned_about" sAbout f fd) (T : Blt mg) (C : Chk P w K mg base fC CT CD fdC) : FnOk P w K mg base CX0 6 f fd ["old", "new", "diff"] (spAbout K) := by
  refine F.ok scAbout (fun vs H Q E h => ?_) (fun cdv A outer s H vs Q E hr h => ?_)
  · obtain ⟨x1, x2, v, ss1, ss2, ps, rfl, _⟩ := h
    rfl
  · obtain ⟨x1, x2, v, ss1, ss2, ps, rfl, t1, t2, hv, hd, z⟩ := h
    refine ⟨_, pss_cons (ps_expr (pe_callS C.G hr rfl C.m C.F.kp C.b (fun σ => passF σ) (pa_cons (pv 0) (pa_cons (pv 1) (pa_cons (pv 2) pa_nil)))))
      (pss_one (ps_ret (pe_callTy call_tuple_of (by rfl) (T.all "tuple" (by decide)) (by decide +kernel) (pa_cons (pe_lc (own := [("i", 3), ("j", 4)]) (g := gTup K 2 (gCons (gName 3) (gCons (gName 4) gNil))) (tt := tYes) (te := tTup (tCons (tVar 4) (tCons (tVar 3) tNil))) rfl scAbout.nd (pi_tup (pv 2))
        (blkOk_by (own := [("i", 3), ("j", 4)]) (N := ["old", "new", "diff", "i", "j"]) (sc := defScope sAbout) (by decide +kernel))
        (fun _ _ _ _ _ => pg_tup rfl (pgs_cons (pg_name (i := 3) scAbout.nd rfl (.inl rfl)) (pgs_cons (pg_name (i := 4) scAbout.nd rfl (.inl rfl)) pgs_nil))) (fun _ _ _ _ _ => pts_nil)
        (fun _ _ _ _ _ => pe_tup (pa_cons (pv 4) (pa_cons (pv 3) pa_nil)))) pa_nil)))), ?_⟩
    have l60 := t1.len
    have dl := df_len hd
    refine ⟨_, rfl, _, rfl, _, rfl, ?_⟩
    dsimp only [tNil]
    refine chk_ok t1 t2 hv hd fun H1 s1 => ?_
    obtain ⟨t, xs, rfl, ht, hl, hx⟩ := (hv.same s1).items
    refine ⟨_, rfl, t, rfl, ⟨_, ht⟩, fun D nD => ?_⟩
    have sD := same_upd (o := .lst []) nD
    refine lc_tup (K := K) (a := t) (xs := xs) (fun i H' => Same H1 H' ∧ ∃ rs, H' D = some (.lst (refs rs)) ∧ PsAt H' rs ((ps.take i).map swp)) ⟨sD, [], upd_same, .nil⟩ (fun i H' _ hh => XR.Same.tup hh.1 ht) ?_ ?_
    · rintro i x H' hi ⟨sm, rs, hD, hp⟩
      obtain ⟨q, r, hq, rfl, hr'⟩ := hx i x hi
      refine ⟨r, _, rfl, XR.Same.tup sm hr', rfl, _, _, rfl, _, _, rfl, rfl, rfl, ?_⟩
      unfold tYes
      dsimp only
      rw [if_pos rfl]
      refine ⟨_, rfl, _, rfl, ll20 (by show 2 ≤ 20; decide), fun u nu => ?_⟩
      obtain ⟨k1, k2, k3⟩ := psStep (q := swp q) hD hp nu
      refine ⟨_, k1, ?_, fun b o h => ?_, rs ++ [u], k3, ?_⟩
      · unfold refs
        rw [List.length_map, hp.1, List.length_map, List.length_take]
        exact Nat.lt_of_le_of_lt (show min i ps.length ≤ 60 by omega) (by decide)
      · rw [upd_ne (ne_of_none h nD)]
        exact same_upd nu _ _ (sm _ _ h)
      · rw [List.take_add_one, hq, List.map_append]
        exact k2
    · rintro H' ⟨sm, rs, hD, hp⟩
      refine ⟨D, _, rfl, .inl ⟨SqL.of hD, fun u nu => ?_⟩⟩
      have su := same_upd (o := .tup (refs rs)) nu
      have sall := s1.trans (sm.trans su)
      refine z u _ sall ?_ ⟨rs, upd_same, ?_⟩
      · cases e : H u with
        | none => rfl
        | some o => rw [(s1.trans sm) _ _ e] at nu; cases nu
      · rw [hl, List.take_length] at hp
        exact hp.same su
end
end K16
namespace XR
open PySem L2
/-- the reading of a dict's comprehension -/
theorem dc_it {J : It} {n : Nat} {G : Hp → Prop} {Y : Nat → Hp → V → Hp → Prop} (w : Walk J n G Y) {g : TG} {tt : TT} {tk tv : TE} {vs : List Nat} {σ : St} {H1 : Hp} {D : Addr} {Qd : Hp → Prop} (Pv : Nat → Hp → Prop)
    (h0 : Pv 0 (upd H1 D (.dK []))) (hG : ∀ i H, i ≤ n → Pv i H → G H)
    (hs : ∀ i x H H', i < n → Pv i H → Y i H x H' → g x (wipe σ vs) H' fun σ2 H2 => wipe σ2 vs = wipe σ vs ∧ tt σ2 H2 fun b H3 => if b = true then tk σ2 H3 fun y H4 => tv σ2 H4 fun z H5 => ∃ kvs k, y = kV k ∧ H5 D = some (.dK kvs) ∧ kvs.length < sizeLine ∧ Pv (i + 1) (upd H5 D (.dK (putK kvs k z))) else Pv (i + 1) H3)
    (hd : ∀ H, Pv n H → Qd H) :
    ∃ W : Nat → Nat → Hp → Prop, (∃ m, W 0 m (upd H1 D (.dK []))) ∧ ∀ i m H, W i m H → (J.stop i H ∧ Qd H) ∨ (J.go i H ∧ ∃ Nx : Hp → Prop, (∀ H', Nx H' → ∃ m', m' < m ∧ W (i + 1) m' H') ∧ ∀ x H', J.yld i H x H' → g x (wipe σ vs) H' fun σ2 H2 => wipe σ2 vs = wipe σ vs ∧ tt σ2 H2 fun b H3 => if b = true then tk σ2 H3 fun y H4 => tv σ2 H4 fun z H5 => ∃ kvs k, y = kV k ∧ H5 D = some (.dK kvs) ∧ kvs.length < sizeLine ∧ Nx (upd H5 D (.dK (putK kvs k z))) else Nx H3) := by
  refine ⟨fun i m H => m = n - i ∧ i ≤ n ∧ Pv i H, ⟨n, rfl, Nat.zero_le _, h0⟩, ?_⟩
  rintro i m H ⟨rfl, hi, hp⟩
  by_cases e : i = n
  · subst e
    exact .inl ⟨w.stops H (hG _ _ (Nat.le_refl _) hp), hd H hp⟩
  · have hlt : i < n := by omega
    exact .inr ⟨w.goes i H hlt (hG _ _ hi hp), Pv (i + 1), fun H' h => ⟨n - (i + 1), by omega, rfl, by omega, h⟩, fun x H' hy => hs i x H H' hlt hp (w.yields i H x H' hlt (hG _ _ hi hp) hy)⟩
def mapK (qs : List (Nat × Nat)) : List (Key × V) := qs.map fun q => (Sum.inl (q.1 : Int), V.int (q.2 : Int))
def far (qs : List (Nat × Nat)) (j : Nat) : Option Nat := (qs.find? fun q => decide (q.1 = j)).map (·.2)
theorem valV_map : ∀ (qs : List (Nat × Nat)) (j : Nat), valV (mapK qs) (Sum.inl (j : Int)) = (far qs j).map fun k => V.int (k : Int)
  | [], j => rfl
  | q :: qs, j => by
    have ih := valV_map qs j
    unfold valV mapK far at ih ⊢
    rw [List.map_cons, List.find?_cons, List.find?_cons]
    by_cases e : q.1 = j
    · rw [e]; simp
    · have e2 : decide ((Sum.inl (q.1 : Int) : Key) = Sum.inl (j : Int)) = false := decide_eq_false fun h => e (by injection h with h; omega)
      rw [e2, decide_eq_false e]
      exact ih
theorem put_new {qs : List (Nat × Nat)} {q : Nat × Nat} (h : ∀ p, p ∈ qs → p.1 ≠ q.1) : putK (mapK qs) (Sum.inl (q.1 : Int)) (V.int (q.2 : Int)) = mapK (qs ++ [q]) := by
  have e : (mapK qs).any (fun kv => decide (kv.1 = Sum.inl (q.1 : Int))) = false := by
    rw [List.any_eq_false]
    intro kv hkv
    obtain ⟨p, hp, rfl⟩ := List.mem_map.mp hkv
    have := h p hp
    intro z
    have z2 := of_decide_eq_true z
    injection z2 with z2
    omega
  unfold putK
  rw [e]
  simp [mapK]
/-- two diffs joined -/
def joinD (ps qs : List (Nat × Nat)) : List (Nat × Nat) := ps.filterMap fun p => (far qs p.2).map fun k => (p.1, k)
theorem far_mem {qs : List (Nat × Nat)} {j k : Nat} (h : far qs j = some k) : (j, k) ∈ qs := by
  unfold far at h
  obtain ⟨q, h1, h2⟩ := Option.map_eq_some_iff.mp h
  have a := List.find?_some h1
  have b := List.mem_of_find?_eq_some h1
  have a2 : q.1 = j := of_decide_eq_true a
  have : q = (j, k) := by rw [← a2, ← h2]
  rw [← this]; exact b
theorem pair_lt {qs : List (Nat × Nat)} (h : qs.Pairwise fun x y => x.1 < y.1 ∧ x.2 < y.2) {p q : Nat × Nat} (hp : p ∈ qs) (hq : q ∈ qs) (lt : p.1 < q.1) : p.2 < q.2 := by
  induction qs with
  | nil => cases hp
  | cons a qs ih =>
    have h2 := List.pairwise_cons.mp h
    rcases List.mem_cons.mp hp with rfl | hp'
    · rcases List.mem_cons.mp hq with rfl | hq'
      · omega
      · exact (h2.1 q hq').2
    · rcases List.mem_cons.mp hq with rfl | hq'
      · have := (h2.1 p hp').1; omega
      · exact ih h2.2 hp' hq'
theorem join_mem {ps qs : List (Nat × Nat)} {x : Nat × Nat} (h : x ∈ joinD ps qs) : ∃ j, (x.1, j) ∈ ps ∧ (j, x.2) ∈ qs := by
  unfold joinD at h
  obtain ⟨p, hp, e⟩ := List.mem_filterMap.mp h
  obtain ⟨k, hk, rfl⟩ := Option.map_eq_some_iff.mp e
  exact ⟨p.2, hp, far_mem hk⟩
theorem join_df {ss1 ss2 ss3 : List Str} {ps qs : List (Nat × Nat)} (h1 : IsDf ss1 ss2 ps) (h2 : IsDf ss2 ss3 qs) : IsDf ss1 ss3 (joinD ps qs) := by
  refine ⟨fun x hx => ?_, ?_⟩
  · obtain ⟨j, hp, hq⟩ := join_mem hx
    obtain ⟨a1, a2, b1, b2, s, e1, e2⟩ := h1.1 _ hp
    obtain ⟨c1, c2, d1, d2, s', e3, e4⟩ := h2.1 _ hq
    have es : s = s' := Option.some.inj (e2.symm.trans e3)
    exact ⟨a1, a2, d1, d2, s, e1, by rw [es]; exact e4⟩
  · have key : ∀ (l : List (Nat × Nat)), l.Pairwise (fun x y => x.1 < y.1 ∧ x.2 < y.2) → (joinD l qs).Pairwise fun x y => x.1 < y.1 ∧ x.2 < y.2 := by
      intro l
      induction l with
      | nil => intro _; exact .nil
      | cons p l ih =>
        intro hl
        have hl2 := List.pairwise_cons.mp hl
        have i2 := ih hl2.2
        cases e : far qs p.2 with
        | none =>
          have e2 : joinD (p :: l) qs = joinD l qs := by unfold joinD; rw [List.filterMap_cons, e]; rfl
          rw [e2]; exact i2
        | some k =>
          have e2 : joinD (p :: l) qs = (p.1, k) :: joinD l qs := by unfold joinD; rw [List.filterMap_cons, e]; rfl
          rw [e2, List.pairwise_cons]
          refine ⟨fun y hy => ?_, i2⟩
          obtain ⟨j, hy1, hy2⟩ := join_mem hy
          have lt := hl2.1 _ hy1
          exact ⟨lt.1, pair_lt (p := (p.2, k)) (q := (j, y.2)) h2.2 (far_mem e) hy2 lt.2⟩
    exact key ps h1.2
end XR
namespace XR
open PySem L2
/-- the way out of a judge of diffs -/
def BadD (C : Addr) (v : V) (H : Hp) (E : XK) : Prop := ∀ H' dd, Same H H' → H dd = none → H' dd = some (.xd [("value", v)]) → E (.ref C) (some dd) H'
theorem BadD.same {C : Addr} {v : V} {H H1 : Hp} {E : XK} (s : Same H H1) (h : BadD C v H E) : BadD C v H1 E := fun H' dd s' n k => by
  refine h H' dd (s.trans s') ?_ k
  cases q : H dd with
  | none => rfl
  | some o => rw [s _ _ q] at n; cases n
def spJoined (K : PySem.W.Frag) (CT CD : Addr) : Sp := fun vs H Q E => ∃ (x1 x2 x3 v1 v2 : V), vs = [x1, x2, x3, v1, v2] ∧
  ((∃ (ss1 ss2 ss3 : List Str) (ps qs : List (Nat × Nat)), TxV K H x1 ss1 ∧ TxV K H x2 ss2 ∧ TxV K H x3 ss3 ∧ DfV K H v1 ps ∧ IsDf ss1 ss2 ps ∧ DfV K H v2 qs ∧ IsDf ss2 ss3 qs ∧ ∀ t H', Same H H' → H t = none → DfAt H' t (joinD ps qs) → Q (.ref t) H') ∨
   (∃ d1 d2 d3 : PyData, Dq K H x1 d1 ∧ Dq K H x2 d2 ∧ Dq K H x3 d3 ∧ ([d1, d2, d3] : List PyData).all isText = false ∧ BadT CT [x1, x2, x3] [d1, d2, d3] H E) ∨
   (∃ (ss1 ss2 ss3 : List Str) (dv : PyData), TxV K H x1 ss1 ∧ TxV K H x2 ss2 ∧ TxV K H x3 ss3 ∧ Dq K H v1 dv ∧ (itemsOf dv).length ≤ 1000 ∧ isDiffB ss1 ss2 dv = false ∧ BadD CD v1 H E) ∨
   (∃ (ss1 ss2 ss3 : List Str) (ps : List (Nat × Nat)) (dv : PyData), TxV K H x1 ss1 ∧ TxV K H x2 ss2 ∧ TxV K H x3 ss3 ∧ DfV K H v1 ps ∧ IsDf ss1 ss2 ps ∧ Dq K H v2 dv ∧ (itemsOf dv).length ≤ 1000 ∧ isDiffB ss2 ss3 dv = false ∧ BadD CD v2 H E))
theorem join_step {ps qs : List (Nat × Nat)} {i : Nat} {q : Nat × Nat} (hq : ps[i]? = some q) : joinD (ps.take (i + 1)) qs = joinD (ps.take i) qs ++ ((far qs q.2).map fun k => (q.1, k)).toList := by
  rw [List.take_add_one, hq]
  unfold joinD
  rw [List.filterMap_append]
  have e0 : List.filterMap (fun p : Nat × Nat => (far qs p.2).map fun k => (p.1, k)) (some q).toList = ((far qs q.2).map fun k => (q.1, k)).toList := by
    cases e : far qs q.2 with
    | none => simp [e]
    | some k => simp [e]
  rw [e0]
/-- the check of texts that are some -/
theorem chkT_ok {K : PySem.W.Frag} {CT : Addr} {H : Hp} {x1 x2 x3 : V} {ss1 ss2 ss3 : List Str} {Q : VK} {E : XK} (t1 : TxV K H x1 ss1) (t2 : TxV K H x2 ss2) (t3 : TxV K H x3 ss3) (z : ∀ H', Same H H' → Q .non H') : spCheck K CT [x1, x2, x3] H Q E := by
  obtain ⟨d1, a1, b1, _⟩ := t1
  obtain ⟨d2, a2, b2, _⟩ := t2
  obtain ⟨d3, a3, b3, _⟩ := t3
  exact ⟨[d1, d2, d3], .cons a1 (.cons a2 (.cons a3 .nil)), by show 3 ≤ 100; decide, fun _ => z, BadT.none (by simp [b1, b2, b3])⟩
theorem chkD_ok {K : PySem.W.Frag} {CT CD : Addr} {H : Hp} {x1 x2 v : V} {ss1 ss2 : List Str} {ps : List (Nat × Nat)} {Q : VK} {E : XK} (t1 : TxV K H x1 ss1) (t2 : TxV K H x2 ss2) (hv : DfV K H v ps) (h : IsDf ss1 ss2 ps) (z : ∀ H', Same H H' → Q .non H') : spCheckD K CT CD [x1, x2, v] H Q E := by
  have l1 := t1.len
  obtain ⟨d1, a1, b1, rfl⟩ := t1
  obtain ⟨d2, a2, b2, rfl⟩ := t2
  have hl := df_len h
  refine ⟨x1, x2, v, d1, d2, dfD ps, rfl, a1, a2, hv, ?_, fun _ _ _ => z, BadT.none (by simp [b1, b2]), fun _ _ e => ?_⟩
  · show (ps.map tupD).length ≤ 1000
    rw [List.length_map]
    omega
  · rw [df_ok h] at e; cases e
theorem chkD_bad {K : PySem.W.Frag} {CT CD : Addr} {H : Hp} {x1 x2 v : V} {ss1 ss2 : List Str} {dv : PyData} {Q : VK} {E : XK} (t1 : TxV K H x1 ss1) (t2 : TxV K H x2 ss2) (hv : Dq K H v dv) (hl : (itemsOf dv).length ≤ 1000) (e : isDiffB ss1 ss2 dv = false) (z : BadD CD v H E) : spCheckD K CT CD [x1, x2, v] H Q E := by
  obtain ⟨d1, a1, b1, rfl⟩ := t1
  obtain ⟨d2, a2, b2, rfl⟩ := t2
  refine ⟨x1, x2, v, d1, d2, dv, rfl, a1, a2, hv, hl, fun _ _ e2 => ?_, BadT.none (by simp [b1, b2]), fun _ _ _ => z⟩
  rw [e] at e2; cases e2
end XR
namespace K16
open PySem L2 XR
abbrev sJoined : Stmt := top 24
section
variable {P : Program} {w : World} {K : PySem.W.Frag} {mg : Str → Option Value} {base : Heap}
theorem scJoined : FnScope ["old", "middle", "new", "first", "second", "partners", "j", "k", "i"] ["old", "middle", "new", "first", "second"] (defScope sJoined) := ⟨rfl, rfl, rfl, by decide +kernel, rfl, by decide +kernel, by decide +kernel⟩
theorem ok_joined {f fT fC CT CD : Addr} {fd fdC : FuncData} (F : Fun K "joined_diffs" "joined_diffs" sJoined f fd) (T : Blt mg) (C : Chk P w K mg base fC CT CD fdC)
    (GT : FnR P w K mg base (L2.CX P w) 3 fT (spCheck K CT)) (kT : PySem.W.keepIn K (.ref fT) = true) (mT : mg "check_texts" = some (.ref fT)) : FnOk P w K mg base (L2.CX P w) 6 f fd ["old", "middle", "new", "first", "second"] (spJoined K CT CD) := by
  refine F.okX scJoined (fun vs H Q E h => ?_) (fun cdv A outer s H vs Q E hr h => ?_)
  · obtain ⟨x1, x2, x3, v1, v2, rfl, _⟩ := h
    rfl
  · obtain ⟨x1, x2, x3, v1, v2, rfl, h⟩ := h
    refine ⟨_, pss_cons (ps_expr (pe_callR GT (hr.mono (by decide)) rfl mT kT (fun σ => passAt (takes_of rfl rfl rfl rfl) σ) (pa_cons (pv 0) (pa_cons (pv 1) (pa_cons (pv 2) pa_nil)))))
      (pss_cons (ps_expr (pe_callS C.G hr rfl C.m C.F.kp C.b (fun σ => passAt (takes_of rfl rfl rfl rfl) σ) (pa_cons (pv 0) (pa_cons (pv 1) (pa_cons (pv 3) pa_nil)))))
      (pss_cons (ps_expr (pe_callS C.G hr rfl C.m C.F.kp C.b (fun σ => passAt (takes_of rfl rfl rfl rfl) σ) (pa_cons (pv 1) (pa_cons (pv 2) (pa_cons (pv 4) pa_nil)))))
      (pss_cons (ps_set (i := 5) scJoined.nd rfl (.inr rfl) (pe_dc (own := [("j", 6), ("k", 7)]) (g := gTup K 2 (gCons (gName 6) (gCons (gName 7) gNil))) (tt := tYes) (tk := tVar 6) (tv := tVar 7) rfl scJoined.nd (pi_tup (pv 4))
          (blkOk_by (own := [("j", 6), ("k", 7)]) (N := ["old", "middle", "new", "first", "second", "partners", "j", "k", "i"]) (sc := defScope sJoined) (by decide +kernel))
          (fun _ _ _ _ _ => pg_tup rfl (pgs_cons (pg_name (i := 6) scJoined.nd rfl (.inl rfl)) (pgs_cons (pg_name (i := 7) scJoined.nd rfl (.inl rfl)) pgs_nil))) (fun _ _ _ _ _ => pts_nil) (fun _ _ _ _ _ => pv 6) (fun _ _ _ _ _ => pv 7)))
      (pss_one (ps_ret (pe_callTy call_tuple_of (by rfl) (T.all "tuple" (by decide)) (by decide +kernel) (pa_cons (pe_lc (own := [("i", 8), ("j", 6)]) (g := gTup K 2 (gCons (gName 8) (gCons (gName 6) gNil))) (tt := tB (tDIn (tVar 6) (tVar 5))) (te := tTup (tCons (tVar 8) (tCons (tDGet (tVar 5) (tVar 6)) tNil))) rfl scJoined.nd (pi_tup (pv 3))
          (blkOk_by (own := [("i", 8), ("j", 6)]) (N := ["old", "middle", "new", "first", "second", "partners", "j", "k", "i"]) (sc := defScope sJoined) (by decide +kernel))
          (fun _ _ _ _ _ => pg_tup rfl (pgs_cons (pg_name (i := 8) scJoined.nd rfl (.inl rfl)) (pgs_cons (pg_name (i := 6) scJoined.nd rfl (.inl rfl)) pgs_nil))) (fun _ _ _ _ _ => pts_one (pt_cmp (pc_din (hu_of hr) (pv 6) (pv 5))))
          (fun _ _ _ _ _ => pe_tup (pa_cons (pv 8) (pa_cons (pe_dget (hu_of hr) (pv 5) (pv 6) (fun _ _ => rfl)) pa_nil)))) pa_nil))))))), ?_⟩
    refine ⟨_, rfl, _, rfl, _, rfl, ?_⟩
    dsimp only [tNil]
    rcases h with ⟨ss1, ss2, ss3, ps, qs, t1, t2, t3, hv1, hd1, hv2, hd2, z⟩ | ⟨d1, d2, d3, a1, a2, a3, e, bad⟩ | ⟨ss1, ss2, ss3, dv, t1, t2, t3, hv, hl, e, bad⟩ | ⟨ss1, ss2, ss3, ps, dv, t1, t2, t3, hv1, hd1, hv, hl, e, bad⟩
    · refine chkT_ok t1 t2 t3 fun H1 s1 => ?_
      refine ⟨_, rfl, _, rfl, _, rfl, ?_⟩
      dsimp only [tNil]
      refine chkD_ok (t1.same s1) (t2.same s1) (hv1.same s1) hd1 fun H2 s2 => ?_
      have s12 := s1.trans s2
      refine ⟨_, rfl, _, rfl, _, rfl, ?_⟩
      dsimp only [tNil]
      refine chkD_ok (t2.same s12) (t3.same s12) (hv2.same s12) hd2 fun H3 s3 => ?_
      have s13 := s12.trans s3
      have hdis : ∀ (i : Nat) (q : Nat × Nat), qs[i]? = some q → ∀ p, p ∈ qs.take i → p.1 ≠ q.1 := fun i q hq p hp => by
        obtain ⟨k, hk⟩ := List.getElem?_of_mem hp
        rw [List.getElem?_take] at hk
        by_cases c : k < i
        · rw [if_pos c] at hk
          have l2 := (List.getElem?_eq_some_iff.mp hq).1
          have l1 := (List.getElem?_eq_some_iff.mp hk).1
          have e1 := (List.getElem?_eq_some_iff.mp hk).2
          have e2 := (List.getElem?_eq_some_iff.mp hq).2
          have := (List.pairwise_iff_getElem.mp hd2.2) k i l1 l2 c
          rw [e1, e2] at this
          omega
        · rw [if_neg c] at hk; cases hk
      have lq := df_len hd2
      have lp := df_len hd1
      have l60 := t1.len
      have m60 := t2.len
      obtain ⟨t, xs, rfl, ht, hl, hx⟩ := (hv2.same s13).items
      refine ⟨_, rfl, t, rfl, ⟨_, ht⟩, fun D nD => ?_⟩
      have sD := same_upd (o := .dK []) nD
      refine dc_it (walk_tup (xs := xs)) (fun i H' => Same H3 H' ∧ H' D = some (.dK (mapK (qs.take i)))) ⟨sD, upd_same⟩ (fun i H' _ hh => XR.Same.tup hh.1 ht) ?_ ?_
      · rintro i x Ha Hb hi ⟨sm, hD⟩ ⟨rfl, hxi⟩
        obtain ⟨q, r, hq, rfl, hr'⟩ := hx i x hxi
        refine ⟨r, _, rfl, XR.Same.tup sm hr', rfl, _, _, rfl, _, _, rfl, rfl, rfl, ?_⟩
        unfold tYes
        dsimp only
        rw [if_pos rfl]
        refine ⟨_, rfl, _, rfl, _, Sum.inl (q.1 : Int), rfl, hD, ?_, fun b o h => ?_, ?_⟩
        · unfold mapK
          rw [List.length_map, List.length_take]
          exact Nat.lt_of_le_of_lt (show min i qs.length ≤ 60 by omega) (by decide)
        · rw [upd_ne (ne_of_none h nD)]
          exact sm _ _ h
        · rw [upd_same, put_new (hdis i q hq), List.take_add_one, hq]
          rfl
      · rintro H4 ⟨sm4, hD4⟩
        rw [hl, List.take_length] at hD4
        have s14 := s13.trans sm4
        obtain ⟨t', ys, rfl, ht', hl', hy⟩ := (hv1.same s14).items
        refine ⟨_, rfl, t', rfl, ⟨_, ht'⟩, fun D' nD' => ?_⟩
        have sD' := same_upd (o := .lst []) nD'
        refine lc_tup (K := K) (a := t') (xs := ys) (fun i H' => Same H4 H' ∧ ∃ rs, H' D' = some (.lst (refs rs)) ∧ PsAt H' rs (joinD (ps.take i) qs)) ⟨sD', [], upd_same, .nil⟩ (fun i H' _ hh => XR.Same.tup hh.1 ht') ?_ ?_
        · rintro i x H' hi ⟨sm, rs, hDl, hp⟩
          obtain ⟨q, r, hq, rfl, hr'⟩ := hy i x hi
          have hDd := sm _ _ hD4
          have hstep := join_step (qs := qs) hq
          refine ⟨r, _, rfl, XR.Same.tup sm hr', rfl, _, _, rfl, _, _, rfl, rfl, rfl, ?_⟩
          refine ⟨_, rfl, _, rfl, D, _, rfl, DGet.k (k := Sum.inl (q.2 : Int)) hDd, _, rfl, ?_⟩
          have hv := valV_map qs q.2
          cases ef : far qs q.2 with
          | none =>
            rw [ef] at hv hstep
            rw [hv]
            refine iteF ⟨sm, rs, hDl, ?_⟩
            rw [hstep]
            simpa using hp
          | some k =>
            rw [ef] at hv hstep
            have hv' : valV (mapK qs) (Sum.inl (q.2 : Int)) = some (V.int (k : Int)) := hv
            rw [hv']
            refine iteT ⟨_, rfl, _, rfl, _, rfl, D, _, rfl, by have := DGet.k (k := Sum.inl (q.2 : Int)) hDd; rw [hv'] at this; exact this, ll20 (by show 2 ≤ 20; decide), fun u nu => ?_⟩
            obtain ⟨k1, k2, k3⟩ := psStep (q := (q.1, k)) hDl hp nu
            refine ⟨_, k1, ?_, fun b o h => ?_, rs ++ [u], k3, ?_⟩
            · unfold refs
              rw [List.length_map, hp.1]
              have : (joinD (ps.take i) qs).length ≤ (ps.take i).length := List.length_filterMap_le _ _
              rw [List.length_take] at this
              exact Nat.lt_of_le_of_lt (show (joinD (ps.take i) qs).length ≤ 60 by omega) (by decide)
            · rw [upd_ne (ne_of_none h nD')]
              exact same_upd nu _ _ (sm _ _ h)
            · rw [hstep]
              exact k2
        · rintro H' ⟨sm, rs, hDl, hp⟩
          refine ⟨D', _, rfl, .inl ⟨SqL.of hDl, fun u nu => ?_⟩⟩
          have su := same_upd (o := .tup (refs rs)) nu
          refine z u _ (s14.trans (sm.trans su)) ?_ ⟨rs, upd_same, ?_⟩
          · cases e : H u with
            | none => rfl
            | some o => rw [(s14.trans sm) _ _ e] at nu; cases nu
          · rw [hl', List.take_length] at hp
            exact hp.same su
    · exact ⟨[d1, d2, d3], .cons a1 (.cons a2 (.cons a3 .nil)), by show 3 ≤ 100; decide, fun ok => absurd (e.symm.trans ok) (by decide), bad⟩
    · refine chkT_ok t1 t2 t3 fun H1 s1 => ?_
      refine ⟨_, rfl, _, rfl, _, rfl, ?_⟩
      dsimp only [tNil]
      exact chkD_bad (t1.same s1) (t2.same s1) (hv.same s1) hl e (bad.same s1)
    · refine chkT_ok t1 t2 t3 fun H1 s1 => ?_
      refine ⟨_, rfl, _, rfl, _, rfl, ?_⟩
      dsimp only [tNil]
      refine chkD_ok (t1.same s1) (t2.same s1) (hv1.same s1) hd1 fun H2 s2 => ?_
      have s12 := s1.trans s2
      refine ⟨_, rfl, _, rfl, _, rfl, ?_⟩
      dsimp only [tNil]
      exact chkD_bad (t2.same s12) (t3.same s12) (hv.same s12) hl e (bad.same s12)
end
end K16
namespace XR
open PySem PySem.Spec L2 PyProof.Rows
/-- name = {k: v for ..}, the name a local of the def -/
theorem ps_setDc {X : Cx} {i : Nat} {y : Str} {py : Pos} {kx vx tg iter : Expr} {ifs : List Expr} {scope : Scope} {own : List (Str × Nat)} {pos spos : Pos} {wi : TI} {g : TG} {tt : TT} {tk tv : TE}
    (c0 : X.calm = true) (n0 : X.N.Nodup) (yi : X.N[i]? = some y) (yl : X.env.scope.names.lookup y = some .local)
    (sw : swapsWith (.DictComp kx vx [⟨tg, iter, ifs, 0⟩] scope pos) (some (.Name y py)) spos.line X.env = pure true) (wk : PI X tg iter wi) (bl : BlkOk X.N X.env.scope scope own)
    (pg : ∀ (t : Shared) (J : Hp) (B : Addr) (l : List (Str × Addr)) (f : List Addr), PG (X.blk t J scope (compEnvC scope l B X.env) f) tg g)
    (pt : ∀ (t : Shared) (J : Hp) (B : Addr) (l : List (Str × Addr)) (f : List Addr), PTs (X.blk t J scope (compEnvC scope l B X.env) f) ifs tt)
    (pk : ∀ (t : Shared) (J : Hp) (B : Addr) (l : List (Str × Addr)) (f : List Addr), PE (X.blk t J scope (compEnvC scope l B X.env) f) kx tk)
    (pw : ∀ (t : Shared) (J : Hp) (B : Addr) (l : List (Str × Addr)) (f : List Addr), PE (X.blk t J scope (compEnvC scope l B X.env) f) vx tv)
    (fs : ∀ u, foldedSetIterable iter X.env u = pure u := by intro _; rfl) :
    PS X (.Assign [.Name y py] (.DictComp kx vx [⟨tg, iter, ifs, 0⟩] scope pos) spos) (tAsg (tDc wi g tt tk tv (own.map (·.2))) (gName i)) := by
  constructor
  intro pins t σ J D I r
  rw [exec_Assign_Name_used _ _ _ _ sw]
  apply wpAny_bind
  apply wpAny_standAt
  apply wpAny_bind
  have r2 : tDc wi g tt tk tv (own.map (·.2)) σ J (fun x J1 => gName i x σ J1 D.nx) := r
  show wpAny _ X.A (comprehension (.DictComp kx vx [⟨tg, iter, ifs, 0⟩] scope pos) scope X.env (firstIterPos [⟨tg, iter, ifs, 0⟩] pos) newDict false (eval iter X.env) (some (assign (.Name y py) X.env)) >>= fun _ => pure ()) _ _ t
  apply wpAny_bind
  refine thn (dc_core (Qf := fun _ t2 => SP X pins D .next t2) c0 n0 I wk bl pg pt pk pw fs r2 ?_) fun _ t2 e => wpAny_pure (wpAny_pure e)
  intro L B t2 m J2 I2 q nb fp
  obtain ⟨w0, w1, w2, w3, w4, w5⟩ := fp
  show wpAny _ _ (assign (.Name y py) X.env (.ref L)) _ _ _
  refine wpAny_assign_Name (store_ok2 (v := V.ref L) I2 n0 yi (.inl yl) rfl ?_ (.inr yl))
  intro t3 I3 hh
  obtain ⟨b0, sb, hb⟩ := hh
  have ne : B ≠ b0 := by
    cases hb with
    | inl z => rw [z]; exact w1
    | inr z => intro e; exact w4 y b0 z e.symm
  refine ⟨m, nb.sameBut sb ne, fun h4 sb4 => ⟨_, J2, I3.turned (t' := t3.toks) (fun b o hbn e => (sb4.2 b hbn).trans e) w0 w1 w3 w4 w5, q⟩⟩
theorem sw_dc {kx vx : Expr} {gs : List Comprehension} {scope : Scope} {pos py : Pos} {y : Str} {l : Nat} {env : Env} (k0 : env.scope.kind = .function) (k1 : env.scope.names.lookup y = some .local) (k2 : (py.line == pos.line) = true)
    (k3 : (scope.names.any fun (n, k) => n == y && (k == .local || k == .cell)) = false) : swapsWith (.DictComp kx vx gs scope pos) (some (.Name y py)) l env = pure true := by
  have e1 : env.blockKind = .function := by unfold Env.blockKind; rw [k0]; rfl
  have e2 : env.kindOf y = some .local := k1
  unfold swapsWith
  simp only [e1, e2, k3, Expr.pos, k2]
  rfl
end XR
namespace XR
open PySem L2
def spWithin (K : PySem.W.Frag) : Sp := fun vs H Q _ => ∃ i lo hi : Int, vs = [.int i, .int lo, .int hi] ∧ ∀ H', Same H H' → Q (.bl (decide (lo ≤ i) && decide (i ≤ hi))) H'
def farV (ps : List (Nat × Nat)) (i : Nat) : V := match far ps i with
  | some k => .int (k : Int)
  | none => .non
def spPartner (K : PySem.W.Frag) : Sp := fun vs H Q _ => ∃ (x1 x2 v : V) (ss1 ss2 : List Str) (ps : List (Nat × Nat)) (i : Nat), vs = [x1, x2, v, .int (i : Int)] ∧ TxV K H x1 ss1 ∧ TxV K H x2 ss2 ∧ DfV K H v ps ∧ IsDf ss1 ss2 ps ∧ 1 ≤ i ∧ i ≤ ss1.length ∧
  ∀ H', Same H H' → Q (farV ps i) H'
/-- the keys of a diff are unlike -/
theorem df_dis {ss1 ss2 : List Str} {ps : List (Nat × Nat)} (h : IsDf ss1 ss2 ps) : ∀ (i : Nat) (q : Nat × Nat), ps[i]? = some q → ∀ p, p ∈ ps.take i → p.1 ≠ q.1 := fun i q hq p hp => by
  obtain ⟨k, hk⟩ := List.getElem?_of_mem hp
  rw [List.getElem?_take] at hk
  by_cases c : k < i
  · rw [if_pos c] at hk
    have l2 := (List.getElem?_eq_some_iff.mp hq).1
    have l1 := (List.getElem?_eq_some_iff.mp hk).1
    have e1 := (List.getElem?_eq_some_iff.mp hk).2
    have e2 := (List.getElem?_eq_some_iff.mp hq).2
    have := (List.pairwise_iff_getElem.mp h.2) k i l1 l2 c
    rw [e1, e2] at this
    omega
  · rw [if_neg c] at hk; cases hk
end XR
namespace K16
open PySem L2 XR
abbrev sPartner : Stmt := top 21
section
variable {P : Program} {w : World} {K : PySem.W.Frag} {mg : Str → Option Value} {base : Heap}
theorem scWithin : FnScope ["value", "low", "high"] ["value", "low", "high"] (defScope sWithin) := ⟨rfl, rfl, rfl, by decide +kernel, rfl, by decide +kernel, by decide +kernel⟩
theorem ok_within {f fW : Addr} {fd fdW : FuncData} (F : Fun K "is_within" "is_within" sWithin f fd) (FW : Fun K "is_whole" "is_whole" sWhole fW fdW) (GW : FnOk P w K mg base CX0 1 fW fdW ["value"] (spJudge K isWhole)) (bW : Binds K fdW ["value"] []) (mW : mg "is_whole" = some (.ref fW)) : FnOk P w K mg base CX0 2 f fd ["value", "low", "high"] (spWithin K) := by
  refine F.ok scWithin (fun vs H Q E h => ?_) (fun cdv A outer s H vs Q E hr h => ?_)
  · obtain ⟨i, lo, hi, rfl, _⟩ := h
    rfl
  · obtain ⟨i, lo, hi, rfl, z⟩ := h
    refine ⟨_, pss_one (ps_ret (pe_and (pe_call GW hr rfl mW FW.kp bW .nil pass0 (pa_cons (pv 0) pa_nil)) (pe_one (pe_chain op_le op_le (pv 1) (pv 0) (pv 2))))), ?_⟩
    refine ⟨_, rfl, .int i, .int i, rfl, .int i, fun H1 s1 => ⟨_, rfl, iteT ⟨_, rfl, _, rfl, _, _, rfl, rfl, _, rfl, ?_⟩⟩⟩
    have zz := z H1 s1
    by_cases c : lo ≤ i
    · rw [decide_eq_true c] at zz ⊢
      exact iteT ⟨_, rfl, _, _, rfl, rfl, zz⟩
    · rw [decide_eq_false c] at zz ⊢
      exact iteF zz
theorem scPartner : FnScope ["old", "new", "diff", "i", "partners", "k", "j"] ["old", "new", "diff", "i"] (defScope sPartner) := ⟨rfl, rfl, rfl, by decide +kernel, rfl, by decide +kernel, by decide +kernel⟩
theorem ok_partner {f fC fW CT CD : Addr} {fd fdC fdW : FuncData} (F : Fun K "partner_of" "partner_of" sPartner f fd) (T : Blt mg) (C : Chk P w K mg base fC CT CD fdC)
    (FW : Fun K "is_within" "is_within" sWithin fW fdW) (GW : FnOk P w K mg base CX0 2 fW fdW ["value", "low", "high"] (spWithin K)) (bW : Binds K fdW ["value", "low", "high"] []) (mW : mg "is_within" = some (.ref fW)) : FnOk P w K mg base CX0 6 f fd ["old", "new", "diff", "i"] (spPartner K) := by
  refine F.ok scPartner (fun vs H Q E h => ?_) (fun cdv A outer s H vs Q E hr h => ?_)
  · obtain ⟨x1, x2, v, ss1, ss2, ps, i, rfl, _⟩ := h
    rfl
  · obtain ⟨x1, x2, v, ss1, ss2, ps, i, rfl, t1, t2, hv, hd, i1, i2, z⟩ := h
    refine ⟨_, pss_cons (ps_expr (pe_callS C.G hr rfl C.m C.F.kp C.b (fun σ => passF σ) (pa_cons (pv 0) (pa_cons (pv 1) (pa_cons (pv 2) pa_nil)))))
      (pss_cons (ps_if (pt_not (pt_val (pe_call GW (hr.mono (by decide)) rfl mW FW.kp bW .nil pass0 (pa_cons (pv 3) (pa_cons pe_int (pa_cons (pe_callB call_len_seq (by rfl) T.len PySem.boot_len (pa_cons (pv 0) pa_nil)) pa_nil)))))) (pss_one ps_never) pss_nil)
      (pss_cons (ps_setDc (i := 4) (own := [("k", 5), ("j", 6)]) (g := gTup K 2 (gCons (gName 5) (gCons (gName 6) gNil))) (tt := tYes) (tk := tVar 5) (tv := tVar 6) rfl scPartner.nd rfl rfl (sw_dc rfl rfl rfl (by decide +kernel)) (pi_tup (pv 2))
          (blkOk_by (own := [("k", 5), ("j", 6)]) (N := ["old", "new", "diff", "i", "partners", "k", "j"]) (sc := defScope sPartner) (by decide +kernel))
          (fun _ _ _ _ _ => pg_tup rfl (pgs_cons (pg_name (i := 5) scPartner.nd rfl (.inl rfl)) (pgs_cons (pg_name (i := 6) scPartner.nd rfl (.inl rfl)) pgs_nil))) (fun _ _ _ _ _ => pts_nil) (fun _ _ _ _ _ => pv 5) (fun _ _ _ _ _ => pv 6))
      (pss_one (ps_ret (pe_dget1 (hu_of hr) (pv 4) (pv 3) ⟨rfl, rfl, rfl, rfl⟩))))), ?_⟩
    have l60 := t1.len
    have dl := df_len hd
    refine ⟨_, rfl, _, rfl, _, rfl, ?_⟩
    dsimp only [tNil]
    refine chk_ok t1 t2 hv hd fun H1 s1 => ?_
    obtain ⟨a1, rfl, ha1⟩ := (t1.same s1).a
    refine ⟨_, rfl, _, rfl, a1, _, rfl, ha1, _, _, _, rfl, fun H2 s2 => ⟨_, rfl, ?_⟩⟩
    rw [List.length_map, decide_eq_true (show (1 : Int) ≤ (i : Int) by omega), decide_eq_true (show (i : Int) ≤ (ss1.length : Int) by omega)]
    refine iteF ?_
    have s12 := s1.trans s2
    obtain ⟨t, xs, rfl, ht, hl, hx⟩ := (hv.same s12).items
    refine ⟨_, rfl, t, rfl, ⟨_, ht⟩, fun Dd nD => ?_⟩
    have sD := same_upd (o := .dK []) nD
    refine dc_it (walk_tup (xs := xs)) (fun k H' => Same H2 H' ∧ H' Dd = some (.dK (mapK (ps.take k)))) ⟨sD, upd_same⟩ (fun k H' _ hh => XR.Same.tup hh.1 ht) ?_ ?_
    · rintro k x Ha Hb hi ⟨sm, hD⟩ ⟨rfl, hxi⟩
      obtain ⟨q, r, hq, rfl, hr'⟩ := hx k x hxi
      refine ⟨r, _, rfl, XR.Same.tup sm hr', rfl, _, _, rfl, _, _, rfl, rfl, rfl, ?_⟩
      unfold tYes
      dsimp only
      rw [if_pos rfl]
      refine ⟨_, rfl, _, rfl, _, Sum.inl (q.1 : Int), rfl, hD, ?_, fun b o h => ?_, ?_⟩
      · unfold mapK
        rw [List.length_map, List.length_take]
        exact Nat.lt_of_le_of_lt (show min k ps.length ≤ 60 by omega) (by decide)
      · rw [upd_ne (ne_of_none h nD)]
        exact sm _ _ h
      · rw [upd_same, put_new (df_dis hd k q hq), List.take_add_one, hq]
        rfl
    · rintro H4 ⟨sm4, hD4⟩
      rw [hl, List.take_length] at hD4
      refine ⟨_, rfl, Dd, rfl, .inl ⟨_, .inl hD4⟩, _, rfl, _, DGet.k (k := Sum.inl (i : Int)) hD4, ?_⟩
      rw [valV_map]
      have zz := z H4 (s12.trans sm4)
      unfold farV at zz
      cases e : far ps i with
      | none => rw [e] at zz; exact zz
      | some k => rw [e] at zz; exact zz
end
end K16
namespace XR
open PySem PySem.Spec PyProof.Rows HT
section
variable {prog : Program} {w : World} {A : Around} {E : Value → Shared → Prop} {s : Shared}
theorem fmCongr {α β : Type} {f g : α → Option β} : ∀ {l : List α}, (∀ x, x ∈ l → f x = g x) → l.filterMap f = l.filterMap g
  | [], _ => rfl
  | x :: l, h => by
    rw [List.filterMap_cons, List.filterMap_cons, h x (List.mem_cons_self ..), fmCongr fun y hy => h y (List.mem_cons_of_mem _ hy)]
theorem revPick (its : List Value) : ((List.range its.length).filterMap fun (m : Nat) => its.toArray[(((its.length : Int) - 1) + (m : Int) * (-1)).toNat]?).toArray = its.reverse.toArray := by
  congr 1
  have e : ∀ m, m ∈ List.range its.length → its.toArray[(((its.length : Int) - 1) + (m : Int) * (-1)).toNat]? = its.reverse[m]? := fun m hm => by
    have hm' := List.mem_range.mp hm
    rw [List.getElem?_reverse hm', show (((its.length : Int) - 1) + (m : Int) * (-1)).toNat = its.length - 1 - m by omega]
    simp
  rw [fmCongr e]
  have key : ∀ (l : List Value) (n : Nat), n ≤ l.length → (List.range n).filterMap (fun m => l[m]?) = l.take n := by
    intro l n
    induction n with
    | zero => intro _; simp
    | succ n ih =>
      intro hn
      rw [List.range_succ, List.filterMap_append, ih (by omega), List.take_add_one]
      simp [List.getElem?_eq_getElem (show n < l.length by omega)]
  rw [key its.reverse its.length (by simp), List.take_of_length_le (by simp)]
theorem getRevT {t sl : Addr} {its : List Value} {vl vu vs : Value} {Q : Value → Shared → Prop} (ht : IsTup s.heap t its.toArray) (hs : s.heap.IsSliceOf sl vl vu vs) (pl : IsPart vl none) (pu : IsPart vu none) (ps : IsPart vs (some (-1))) (hz : its.length ≤ sizeLine)
    (h : Q (.ref s.heap.objs.size) { s with heap := s.heap.push { cls := .type "tuple", data := .seq its.reverse.toArray } }) : wpAny (model prog w) A (getItem (.ref t) (.ref sl)) Q E s := by
  obtain ⟨os, a1, a2, a3⟩ := id hs
  have ty : s.TypeIs (.ref sl) "slice" := ⟨os, a1, a2⟩
  have fits : sizeOk (.seq its.reverse.toArray) := by
    show its.reverse.toArray.size ≤ sizeLine
    rw [List.size_toArray, List.length_reverse]; exact hz
  have cut : ∀ (A' : Around) (E' : Value → Shared → Prop), wpAny (model prog w) A' (Builtin.Slice.sliceApplied (.ref sl) (pure ((its.toArray.size : Nat) : Int))) (fun r s' => r = (((its.length : Int) - 1), -1, its.length) ∧ s' = s) E' s := by
    intro A' E'
    unfold Builtin.Slice.sliceApplied Builtin.Slice.sliceFields
    refine wpAny_bind (wpAny_bind (wpAny_field a1 a3 (x := vl) rfl (wpAny_bind (wpAny_field a1 a3 (x := vu) rfl (wpAny_bind (wpAny_field a1 a3 (x := vs) rfl (wpAny_pure ?_)))))))
    refine wpAny_bind (slicePart_ ps ?_)
    show wpAny _ _ (if ((-1 : Int) == 0) = true then _ else _) _ _ s
    rw [if_neg (by decide)]
    refine wpAny_bind (slicePart_ pl (wpAny_bind (slicePart_ pu (wpAny_bind (wpAny_pure (wpAny_pure ⟨?_, rfl⟩))))))
    have hp : Builtin.Slice.slicePlaces (((its.toArray.size : Nat) : Int) - 1) (-1) (-1) = its.length := by
      unfold Builtin.Slice.slicePlaces
      rw [if_neg (by decide), List.size_toArray]
      by_cases q : its.length = 0
      · rw [q]; decide
      · rw [if_pos (by omega)]
        have e1 : ((its.length : Int) - 1 - -1 - 1) / (- -1) = (its.length : Int) - 1 := by
          show ((its.length : Int) - 1 - -1 - 1) / 1 = _
          rw [Int.ediv_one]; omega
        rw [e1]; omega
    show ((((its.toArray.size : Nat) : Int) - 1), (-1 : Int), Builtin.Slice.slicePlaces (((its.toArray.size : Nat) : Int) - 1) (-1) (-1)) = _
    rw [hp, List.size_toArray]
  unfold getItem
  try with_reducible refine wpAny_holding ?_
  first | refine wpAny_bind (wpAny_pure ?_) | skip
  refine wpAny_bind (wpAny_sequenceKey ht.typeIs (by decide) ?_)
  refine wpAny_bind (wpAny_callSpecial?_slot (name := Str.ofString "__getitem__") ht.typeIs PyProof.Rows.slot_tuple_getitem (wpAny_call_entry PyProof.Rows.slot_tuple_getitem ht.typeIs entry_tuple_getitem ?_ (args_tuple_getitem _ _)))
  show wpAny _ _ (Builtin.Tuple.tupleItemsOf (.ref t) >>= _) _ _ s
  refine wpAny_bind (tupleItemsOf_ ht ?_)
  refine wpAny_bind (wpAny_typeOf ty ?_)
  rw [if_pos (by decide)]
  refine wpAny_bind (wpAny_mono (cut _ _) (fun r s' hr => ?_) fun _ _ e => e)
  obtain ⟨rfl, rfl⟩ := hr
  have no : ¬ ((((its.length : Int) - 1) == 0 && (-1 : Int) == 1 && its.length == its.toArray.size) = true) := by
    rw [show ((-1 : Int) == 1) = false from rfl, Bool.and_false, Bool.false_and]
    exact Bool.false_ne_true
  show wpAny _ _ (if (((its.length : Int) - 1) == 0 && (-1 : Int) == 1 && its.length == its.toArray.size) = true then _ else _) _ _ s'
  rw [if_neg no, revPick]
  first
    | exact wpAny_bind (m := Builtin.Tuple.tupleExact _) (wpAny_newObj_type (wpAny_pure ⟨_, rfl, wpAny_pure h⟩) fits)
    | exact wpAny_bind (m := Builtin.Tuple.tupleExact _) (wpAny_newObj_type (wpAny_bind (wpAny_pure (wpAny_pure ⟨_, rfl, wpAny_pure h⟩))) fits)
    | exact wpAny_bind (wpAny_bind (m := Builtin.Tuple.tupleExact _) (wpAny_newObj_type (wpAny_pure (wpAny_pure ⟨_, rfl, wpAny_pure h⟩)) fits))
    | exact wpAny_bind (wpAny_bind (m := Builtin.Tuple.tupleExact _) (wpAny_newObj_type (wpAny_pure ⟨_, rfl, wpAny_pure h⟩) fits))
end
/-- t[::-1], t a tuple -/
def tRevT (K : PySem.W.Frag) (te : L2.TE) : L2.TE := fun σ H Q => te σ H fun x H1 => ∃ a xs, x = .ref a ∧ L2.SqT K H1 a xs ∧ ∀ p, H1 p = none → Q (.ref p) (L2.upd H1 p (.tup xs.reverse))
open L2 in
theorem pe_revT {X : Cx} {e : Expr} {te : TE} {k : Nat} {p1 p2 p3 pos : Pos} (he : PE X e te) : PE X (.Subscript e (.Slice none none (some (.UnaryOp .USub (.Constant (.int 1) k p1) p2)) p3) pos) (tRevT X.K te) := by
  constructor
  intro pins s σ H Q I h
  refine Subscript_ (thn (he.run pins s σ H _ I h) fun v t1 hh => ?_)
  obtain ⟨x, J1, I1, r1, a, xs, rfl, hx, q⟩ := hh
  cases r1
  have back : PO X (some (.UnaryOp .USub (.Constant (.int 1) k p1) p2)) (tPart (tUn (rU fun i => .int (-i)) (tC (.int 1)))) := po_some (pe_un un_neg pe_int)
  refine wpAny_Slice (thn (po_none.run pins t1 σ J1 (fun o J => o = none ∧ J = J1) I1 ⟨rfl, rfl⟩) fun vl t2 g2 => ?_)
  obtain ⟨l, J2, I2, pl, rfl, rfl⟩ := g2
  refine thn (po_none.run pins t2 σ J2 (fun o J => o = none ∧ J = J2) I2 ⟨rfl, rfl⟩) fun vu t3 g3 => ?_
  obtain ⟨u, J3, I3, pu, rfl, rfl⟩ := g3
  refine thn (back.run pins t3 σ J3 (fun o J => o = some (-1) ∧ J = J3) I3 ⟨1, rfl, -1, rfl, rfl, rfl⟩) fun vs t4 g4 => ?_
  obtain ⟨o, J4, I4, ps, rfl, rfl⟩ := g4
  have I5 : Inv X pins σ J4 { t4 with heap := t4.heap.push { cls := .type "slice", data := .fields #[vl, vu, vs] } } := I4.kept (t' := t4.toks) fun b ob q => Heap.get?_push_of_some _ q
  obtain ⟨its, r, ht, hz⟩ := I5.tuple hx
  have hlen := r.length
  show wpAny (model X.prog X.w) X.A (subscriptTail e (.Slice none none (some (.UnaryOp .USub (.Constant (.int 1) k p1) p2)) p3) (.ref a) (.ref t4.heap.objs.size)) (EP X pins σ Q) X.xe { t4 with heap := t4.heap.push { cls := .type "slice", data := .fields #[vl, vu, vs] } }
  refine tail_any (ops := [.ref a, .ref t4.heap.objs.size]) ht.typeIs PyProof.Rows.slot_tuple_getitem.lookup ?_ (by with_unfolding_all rfl)
  refine getRevT ht (Heap.IsSliceOf.new _ vl vu vs) pl pu ps (by omega) ?_
  refine ⟨.ref _, _, I5.laid (t' := t4.toks) (o := .tup xs.reverse) (fun b ob q => Heap.get?_push_of_some _ q) (Nat.le_refl _) ?_, rfl, q _ (I5.hok.fresh (Nat.le_refl _))⟩
  exact ⟨by rw [List.length_reverse]; exact hz, _, r.reverse, IsTup.new _ _⟩
end XR
namespace XR
open PySem L2
def over (m n : Nat) (q : Nat × Nat) : Nat × Nat := (m + 1 - q.1, n + 1 - q.2)
def rLenS (K : PySem.W.Frag) : List V → Hp → VK → Prop := fun xs H Q => ∃ (p : Addr) (ys : List V), xs = [V.ref p] ∧ (SqL K H p ys ∨ SqT K H p ys) ∧ Q (V.int (ys.length : Nat)) H
/-- a diff turned over -/
def spOver (K : PySem.W.Frag) : Sp := fun vs H Q _ => ∃ (x1 x2 v : V) (ss1 ss2 : List Str) (ps : List (Nat × Nat)), vs = [x1, x2, v] ∧ TxV K H x1 ss1 ∧ TxV K H x2 ss2 ∧ DfV K H v ps ∧ IsDf ss1 ss2 ps ∧
  ∀ t H', Same H H' → H t = none → DfAt H' t (ps.reverse.map (over ss1.length ss2.length)) → Q (.ref t) H'
end XR
namespace K16
open PySem L2 XR
abbrev sOver : Stmt := top 23
section
variable {P : Program} {w : World} {K : PySem.W.Frag} {mg : Str → Option Value} {base : Heap}
theorem scOver : FnScope ["old", "new", "diff", "i", "j"] ["old", "new", "diff"] (defScope sOver) := ⟨rfl, rfl, rfl, by decide +kernel, rfl, by decide +kernel, by decide +kernel⟩
theorem ok_over {f fC CT CD : Addr} {fd fdC : FuncData} (F : Fun K "turned_over" "turned_over" sOver f fd) (T : Blt mg) (C : Chk P w K mg base fC CT CD fdC) : FnOk P w K mg base CX0 6 f fd ["old", "new", "diff"] (spOver K) := by
  refine F.ok scOver (fun vs H Q E h => ?_) (fun cdv A outer s H vs Q E hr h => ?_)
  · obtain ⟨x1, x2, v, ss1, ss2, ps, rfl, _⟩ := h
    rfl
  · obtain ⟨x1, x2, v, ss1, ss2, ps, rfl, t1, t2, hv, hd, z⟩ := h
    refine ⟨_, pss_cons (ps_expr (pe_callS C.G hr rfl C.m C.F.kp C.b (fun σ => passF σ) (pa_cons (pv 0) (pa_cons (pv 1) (pa_cons (pv 2) pa_nil)))))
      (pss_one (ps_ret (pe_callTy call_tuple_of (by rfl) (T.all "tuple" (by decide)) (by decide +kernel) (pa_cons (pe_lc (own := [("i", 3), ("j", 4)]) (g := gTup K 2 (gCons (gName 3) (gCons (gName 4) gNil))) (tt := tYes)
        (te := tTup (tCons (tOp (rI0 fun i j => V.int (i - j)) (tOp (rI0 fun i j => V.int (i + j)) (tCB (rLenS K) (tCons (tVar 0) tNil)) (tC (V.int 1))) (tVar 3)) (tCons (tOp (rI0 fun i j => V.int (i - j)) (tOp (rI0 fun i j => V.int (i + j)) (tCB (rLenS K) (tCons (tVar 1) tNil)) (tC (V.int 1))) (tVar 4)) tNil)))
        rfl scOver.nd (pi_tup (pe_revT (pv 2)))
        (blkOk_by (own := [("i", 3), ("j", 4)]) (N := ["old", "new", "diff", "i", "j"]) (sc := defScope sOver) (by decide +kernel))
        (fun _ _ _ _ _ => pg_tup rfl (pgs_cons (pg_name (i := 3) scOver.nd rfl (.inl rfl)) (pgs_cons (pg_name (i := 4) scOver.nd rfl (.inl rfl)) pgs_nil))) (fun _ _ _ _ _ => pts_nil)
        (fun _ _ _ _ _ => pe_tup (pa_cons (pe_op op_sub (pe_op op_add (pe_callB call_len_seq (by rfl) T.len PySem.boot_len (pa_cons (pv 0) pa_nil)) pe_int) (pv 3)) (pa_cons (pe_op op_sub (pe_op op_add (pe_callB call_len_seq (by rfl) T.len PySem.boot_len (pa_cons (pv 1) pa_nil)) pe_int) (pv 4)) pa_nil)))) pa_nil)))), ?_⟩
    have l60 := t1.len
    have dl := df_len hd
    refine ⟨_, rfl, _, rfl, _, rfl, ?_⟩
    dsimp only [tNil]
    refine chk_ok t1 t2 hv hd fun H1 s1 => ?_
    have t1' := (t1.same s1).a
    have t2' := (t2.same s1).a
    obtain ⟨t, xs, rfl, ht, hl, hx⟩ := (hv.same s1).items
    refine ⟨_, rfl, t, xs, rfl, ht, fun p np => ?_⟩
    have sp := same_upd (o := .tup xs.reverse) np
    have hp0 : SqT K (upd H1 p (.tup xs.reverse)) p xs.reverse := .inl (.inl upd_same)
    have hx' : ∀ (i : Nat) (x : V), xs.reverse[i]? = some x → ∃ (q : Nat × Nat) (r : Addr), ps.reverse[i]? = some q ∧ x = .ref r ∧ SqT K (upd H1 p (.tup xs.reverse)) r [.int (q.1 : Int), .int (q.2 : Int)] := fun i x h => by
      have hi : i < xs.length := by
        have := (List.getElem?_eq_some_iff.mp h).1
        rwa [List.length_reverse] at this
      rw [List.getElem?_reverse hi] at h
      obtain ⟨q, r, e1, e2, e3⟩ := hx _ _ h
      exact ⟨q, r, by rw [List.getElem?_reverse (by rw [← hl]; exact hi), ← hl]; exact e1, e2, XR.Same.tup sp e3⟩
    have t1p := t1'.same sp
    have t2p := t2'.same sp
    have s1p := s1.trans sp
    clear t1' t2' hx
    generalize upd H1 p (.tup xs.reverse) = H2 at sp hp0 hx' t1p t2p s1p ⊢
    refine ⟨p, rfl, ⟨_, hp0⟩, fun D nD => ?_⟩
    have sD := same_upd (o := .lst []) nD
    refine lc_tup (K := K) (a := p) (xs := xs.reverse) (fun i H' => Same H2 H' ∧ ∃ rs, H' D = some (.lst (refs rs)) ∧ PsAt H' rs ((ps.reverse.take i).map (over ss1.length ss2.length))) ⟨sD, [], upd_same, .nil⟩ (fun i H' _ hh => XR.Same.tup hh.1 hp0) ?_ ?_
    · rintro i x H' hi ⟨sm, rs, hD, hp⟩
      obtain ⟨q, r, hq, rfl, hr'⟩ := hx' i x hi
      have qm : q ∈ ps := List.mem_reverse.mp (List.mem_of_getElem? hq)
      obtain ⟨q1, q2, q3, q4, _⟩ := hd.1 q qm
      obtain ⟨b1, rfl, hb1⟩ := t1p.same sm
      obtain ⟨b2, rfl, hb2⟩ := t2p.same sm
      refine ⟨r, _, rfl, XR.Same.tup sm hr', rfl, _, _, rfl, _, _, rfl, rfl, rfl, ?_⟩
      unfold tYes
      dsimp only
      rw [if_pos rfl]
      refine ⟨_, rfl, b1, _, rfl, hb1, _, _, rfl, rfl, _, rfl, _, _, rfl, rfl, _, rfl, b2, _, rfl, hb2, _, _, rfl, rfl, _, rfl, _, _, rfl, rfl, ll20 (by show 2 ≤ 20; decide), fun u nu => ?_⟩
      rw [List.length_map, List.length_map]
      have eo : (.tup [V.int (((ss1.length : Nat) : Int) + 1 - (q.1 : Int)), V.int (((ss2.length : Nat) : Int) + 1 - (q.2 : Int))] : HO) = tupV (over ss1.length ss2.length q) := by
        unfold tupV over
        have e1 : (((ss1.length + 1 - q.1 : Nat)) : Int) = ((ss1.length : Nat) : Int) + 1 - (q.1 : Int) := by omega
        have e2 : (((ss2.length + 1 - q.2 : Nat)) : Int) = ((ss2.length : Nat) : Int) + 1 - (q.2 : Int) := by omega
        rw [e1, e2]
      rw [eo]
      obtain ⟨k1, k2, k3⟩ := psStep (q := over ss1.length ss2.length q) hD hp nu
      refine ⟨_, k1, ?_, fun b o h => ?_, rs ++ [u], k3, ?_⟩
      · unfold refs
        rw [List.length_map, hp.1, List.length_map, List.length_take, List.length_reverse]
        exact Nat.lt_of_le_of_lt (show min i ps.length ≤ 60 by omega) (by decide)
      · rw [upd_ne (ne_of_none h nD)]
        exact same_upd nu _ _ (sm _ _ h)
      · rw [List.take_add_one, hq, List.map_append]
        exact k2
    · rintro H' ⟨sm, rs, hD, hp⟩
      refine ⟨D, _, rfl, .inl ⟨SqL.of hD, fun u nu => ?_⟩⟩
      have su := same_upd (o := .tup (refs rs)) nu
      refine z u _ (s1p.trans (sm.trans su)) ?_ ⟨rs, upd_same, ?_⟩
      · cases e : H u with
        | none => rfl
        | some o => rw [(s1p.trans sm) _ _ e] at nu; cases nu
      · rw [List.length_reverse, hl, ← List.length_reverse (as := ps), List.take_length] at hp
        exact hp.same su
end
end K16
/-! Tuples whose own object is known (no instance dict), as dict(t) wants them. -/
namespace XR
open PySem PySem.Spec L2 PyProof.Rows
section
variable {X : Cx}
/-- tuple(xs) of a list, its object told -/
def rTupX (K : PySem.W.Frag) : List V → Hp → VK → Prop := fun xs H Q => ∃ (p : Addr) (ys : List V), xs = [.ref p] ∧ SqL K H p ys ∧ ∀ (l : Addr) (o : Obj), H l = none → o.cls = .type "tuple" → o.dict = none → Q (.ref l) (upd H l (.frz o (.tup ys)))
theorem call_tupleX : CallR X (.type "tuple") (rTupX X.K) := by
  intro pins s σ H xs us Q I r h
  obtain ⟨p, ys, rfl, hq, q⟩ := h
  obtain ⟨u, rfl, rx⟩ := vals1 r
  cases rx
  obtain ⟨its, r', pl, hz⟩ := I.list hq
  have hlen := r'.length
  refine call_tuple_list pl.isList (fun h' kp => ?_) (by simp only [List.size_toArray]; omega)
  have J : Inv X pins σ H { s with heap := h' } := I.kept (t' := s.toks) kp
  have atl : (h'.push { cls := .type "tuple", data := .seq its.toArray }).get? h'.objs.size = some { cls := .type "tuple", data := .seq its.toArray } := Heap.get?_push_size _ rfl
  have fin := J.laid (t' := s.toks) (h' := h'.push { cls := .type "tuple", data := .seq its.toArray }) (o := .frz { cls := .type "tuple", data := .seq its.toArray } (.tup ys)) (fun b o e => Heap.get?_push_of_some _ e) (Nat.le_refl _) ⟨atl, hz, its, r', IsTup.new _ _⟩
  exact ⟨.ref h'.objs.size, _, fin, rfl, q _ _ (J.hok.fresh (Nat.le_refl _)) rfl rfl⟩
/-- dict(t), t a tuple of pairs whose object is known -/
def rDictT (K : PySem.W.Frag) : List V → Hp → VK → Prop := fun xs H Q => ∃ (a : Addr) (o : Obj) (rs : List Addr) (kvs : List (Key × V)), xs = [.ref a] ∧ H a = some (.frz o (.tup (rs.map V.ref))) ∧ o.cls = .type "tuple" ∧ o.dict = none ∧ Paired (fun p kv => SqT K H p [kV kv.1, kv.2]) rs kvs ∧
  ∀ p, H p = none → Q (.ref p) (upd H p (.dK (mergeK [] kvs)))
theorem call_dictT (hc0 : X.calm = true) : CallR X (.type "dict") (rDictT X.K) := by
  intro pins s σ H xs us Q I r h
  obtain ⟨a, o, rs, kvs, rfl, hq, hcl, hdn, hp, q⟩ := h
  obtain ⟨u, rfl, rx⟩ := vals1 r
  cases rx
  obtain ⟨ho, hz, its, rv, o2, ho2, hc2, n2, hd2⟩ := (show ObjOk X.prog X.w H s.heap a (.frz o (.tup (rs.map V.ref))) from I.hok a _ hq)
  obtain rfl : o = o2 := Option.some.inj (ho.symm.trans ho2)
  have ei := refs_at rv
  subst ei
  rw [List.length_map] at hz
  obtain ⟨prs, rel, hl, hpr⟩ := pairs_of I hp
  -- the keys, as they stand
  have keys : ∃ ks : List Value, ks.length = prs.length ∧ ∀ (j : Nat) (p : Key × Value), prs[j]? = some p → ∃ (b : Addr) (kv : Value), ks[j]? = some kv ∧ rs[j]? = some b ∧ IsTup s.heap b #[kv, p.2] ∧ keyIs p.1 kv = true := by
    have gen : ∀ (l : List (Key × Value)) (m : Nat), (∀ (j : Nat) (p : Key × Value), l[j]? = some p → ∃ (b : Addr) (u : Value), rs[m + j]? = some b ∧ IsTup s.heap b #[u, p.2] ∧ keyIs p.1 u = true) →
        ∃ ks : List Value, ks.length = l.length ∧ ∀ (j : Nat) (p : Key × Value), l[j]? = some p → ∃ (b : Addr) (kv : Value), ks[j]? = some kv ∧ rs[m + j]? = some b ∧ IsTup s.heap b #[kv, p.2] ∧ keyIs p.1 kv = true := by
      intro l
      induction l with
      | nil => intro m _; exact ⟨[], rfl, fun j p e => by simp at e⟩
      | cons x l ih =>
        intro m hh
        obtain ⟨b, u, e1, e2, e3⟩ := hh 0 x rfl
        obtain ⟨ks, k1, k2⟩ := ih (m + 1) fun j p e => by
          obtain ⟨b, u, g1, g2, g3⟩ := hh (j + 1) p (by simpa using e)
          exact ⟨b, u, by rw [show m + 1 + j = m + (j + 1) by omega]; exact g1, g2, g3⟩
        refine ⟨u :: ks, by rw [List.length_cons, List.length_cons, k1], fun j p e => ?_⟩
        cases j with
        | zero =>
          obtain rfl : x = p := Option.some.inj e
          exact ⟨b, u, rfl, e1, e2, e3⟩
        | succ j =>
          obtain ⟨b', kv, g0, g1, g2, g3⟩ := k2 j p (by simpa using e)
          exact ⟨b', kv, by simpa using g0, by rw [show m + (j + 1) = m + 1 + j by omega]; exact g1, g2, g3⟩
    obtain ⟨ks, k1, k2⟩ := gen prs 0 fun j p e => by
      obtain ⟨b, u, g1, g2, g3⟩ := hpr j p e
      exact ⟨b, u, by rw [Nat.zero_add]; exact g1, g2, g3⟩
    exact ⟨ks, k1, fun j p e => by
      obtain ⟨b, kv, g0, g1, g2, g3⟩ := k2 j p e
      exact ⟨b, kv, g0, by rw [Nat.zero_add] at g1; exact g1, g2, g3⟩⟩
  obtain ⟨ks, hk1, hk2⟩ := keys
  have zl : (ks.zip (prs.map (·.2))).length = prs.length := by rw [List.length_zip, hk1, List.length_map, Nat.min_self]
  have zat : ∀ (j : Nat) (k v : Value), (ks.zip (prs.map (·.2)))[j]? = some (k, v) → ∃ (p : Key × Value) (b : Addr), prs[j]? = some p ∧ p.2 = v ∧ rs[j]? = some b ∧ IsTup s.heap b #[k, v] ∧ keyIs p.1 k = true := fun j k v e => by
    obtain ⟨e1, e2⟩ := List.getElem?_zip_eq_some.mp e
    rw [List.getElem?_map] at e2
    obtain ⟨p, ep, rfl⟩ := Option.map_eq_some_iff.mp e2
    obtain ⟨b, kv, g0, g1, g2, g3⟩ := hk2 j p ep
    obtain rfl : kv = k := Option.some.inj (g0.symm.trans e1)
    exact ⟨p, b, ep, rfl, g1, g2, g3⟩
  refine PySem.call_dict_pairs (knd := mixKind X.prog X.w) (kvs := prs) (PairArg.tuple a (rs.map Value.ref).toArray (fun j => rs.getD j 0) (ks.zip (prs.map (·.2)))) (I.ok.hd hc0)
    ⟨⟨o, n2, ho, hcl, hdn, hd2⟩, by rw [List.size_toArray, List.length_map, zl, hl], fun j k v e => ?_⟩ ⟨zl.symm, fun j k v e => ?_⟩ (by rw [zl, hl]; exact hz) fun h' tk hd' kp => ?_
  · obtain ⟨p, b, _, _, g1, g2, _⟩ := zat j k v e
    refine ⟨by simp [g1], .inl ?_⟩
    have eb : rs.getD j 0 = b := by rw [List.getD_eq_getElem?_getD, g1]; rfl
    show s.heap.IsTuple (rs.getD j 0) #[k, v]
    rw [eb]
    exact g2
  · obtain ⟨p, b, g0, rfl, _, _, g3⟩ := zat j k v e
    exact ⟨p.1, g0, g3⟩
  · have hm : (s.heap.objs.size == sysModules) = false := beq_eq_false_iff_ne.mpr (Nat.ne_of_gt I.big)
    have hlen : (mergeK [] kvs).length ≤ sizeLine := by
      have := length_mergeK kvs []
      rw [List.length_nil, Nat.zero_add, rel.length, hl] at this
      exact Nat.le_trans this hz
    have fin := I.laid (t' := tk) (h' := h') (o := .dK (mergeK [] kvs)) (fun b ob e => kp b ob (by simp) e) (Nat.le_refl _) ⟨hlen, hm, merged [] prs, KV.merge rel .nil, hd'⟩
    exact ⟨.ref s.heap.objs.size, _, fin, rfl, q _ (I.hok.fresh (Nat.le_refl _))⟩
end
/-- the diff at t, its object known -/
def DfX (H : Hp) (t : Addr) (ps : List (Nat × Nat)) : Prop := ∃ (o : Obj) (rs : List Addr), H t = some (.frz o (.tup (refs rs))) ∧ o.cls = .type "tuple" ∧ o.dict = none ∧ PsAt H rs ps
theorem DfX.same {H H' : Hp} {t : Addr} {ps : List (Nat × Nat)} (s : Same H H') (h : DfX H t ps) : DfX H' t ps :=
  let ⟨o, rs, h1, h2, h3, h4⟩ := h; ⟨o, rs, s _ _ h1, h2, h3, h4.same s⟩
end XR
namespace XR
open PySem L2
/-- a drawn diff, new, its object known -/
def spDiffX : Sp := fun vs H Q _ => ∃ (a p1 p2 : Addr) (ss1 ss2 : List Str), vs = [.ref a, .ref p1, .ref p2] ∧ PotAt H a ∧ H p1 = some (.lst (ss1.map V.str)) ∧ H p2 = some (.lst (ss2.map V.str)) ∧ ss1.length ≤ 60 ∧ ss2.length ≤ 60 ∧
  ∀ (t : Addr) (ps : List (Nat × Nat)) H', PotAt H' a → But a H H' → H t = none → DfX H' t ps → IsDf ss1 ss2 ps → Q (.ref t) H'
theorem DfX.v {K : PySem.W.Frag} {H : Hp} {t : Addr} {ps : List (Nat × Nat)} (h : DfX H t ps) : DfV K H (.ref t) ps := by
  obtain ⟨o, rs, h1, _, _, h2, h3⟩ := h
  have key : ∀ (rs : List Addr) (ps : List (Nat × Nat)), rs.length = ps.length → (∀ (i : Nat) (q : Nat × Nat), ps[i]? = some q → ∃ r : Addr, rs[i]? = some r ∧ H r = some (tupV q)) → DqAll K H (refs rs) (ps.map tupD) := by
    intro rs
    induction rs with
    | nil =>
      intro ps hl _
      cases ps with
      | nil => exact .nil
      | cons p ps => simp at hl
    | cons r rs ih =>
      intro ps hl hq
      cases ps with
      | nil => simp at hl
      | cons p ps =>
        obtain ⟨r', e1, e2⟩ := hq 0 p rfl
        obtain rfl : r = r' := Option.some.inj e1
        exact .cons (.tup (.inl (.inl e2)) (.cons (.int _) (.cons (.int _) .nil))) (ih ps (by simpa using hl) fun i q h => hq (i + 1) q h)
  exact .tup (.inl (.inr ⟨o, h1⟩)) (key rs ps h2 h3)
end XR
namespace K16
open PySem L2 XR
section
variable {P : Program} {w : World} {K : PySem.W.Frag} {mg : Str → Option Value} {base : Heap}
theorem ok_diffX {f fD fP : Addr} {fd fdD fdP : FuncData} (F : Fun K "_law_diff" "_law_diff" sDiff f fd) (T : Blt mg) (D : Draws P w K mg base fD fP fdD fdP) : FnOk P w K mg base CX0 3 f fd ["_law_pot_here", "_law_elder", "_law_newer"] spDiffX := by
  refine F.ok scDiff (fun vs H Q E h => ?_) (fun cdv A outer s H vs Q E hr h => ?_)
  · obtain ⟨a, p1, p2, ss1, ss2, rfl, _⟩ := h
    rfl
  · obtain ⟨a, p1, p2, ss1, ss2, rfl, hpot, hl1, hl2, l1, l2, z⟩ := h
    refine ⟨_, pss_cons (ps_par3 (i := 3) (j := 4) (l := 5) rfl scDiff.nd rfl rfl rfl (by decide) (by decide) (by decide) rfl rfl rfl (pa_cons (pe_lst pa_nil) (pa_cons pe_int (pa_cons (pe_call D.GP hr rfl D.mP D.FP.kp D.bP .nil pass0 (pa_cons (pv 0) (pa_cons (pe_lst (pa_cons pe_int (pa_cons pe_int (pa_cons pe_int pa_nil)))) pa_nil))) pa_nil))) rfl)
      (pss_cons (ps_for PassesOwn.never rfl (pi_enum (by rfl) T.enum (pa_cons (pv 1) pa_nil)) (pg_tup rfl (pgs_cons (pg_name (i := 6) scDiff.nd rfl (.inl rfl)) (pgs_cons (pg_name (i := 7) scDiff.nd rfl (.inr rfl)) pgs_nil)))
        (pss_cons (ps_set (i := 8) scDiff.nd rfl (.inl rfl) (pe_slice sl_list (pe_lc (own := [("_law_j", 9)]) (g := gName 9) (tt := tTest (tOp rEq (tOp (rIxL K) (tVar 2) (tOp (rI0 fun i j => V.int (i - j)) (tVar 9) (tC (V.int 1)))) (tVar 7))) (te := tVar 9) rfl scDiff.nd
            (pi_range2 rfl T.range (pa_cons (pe_op op_add (pv 4) pe_int) (pa_cons (pe_op op_add (pe_callB call_len_seq (by rfl) T.len PySem.boot_len (pa_cons (pv 2) pa_nil)) pe_int) pa_nil)))
            (blkOk_by (own := [("_law_j", 9)]) (N := ["_law_pot_here", "_law_elder", "_law_newer", "_law_found", "_law_last", "_law_far", "_law_k", "_law_line", "_law_some", "_law_j"]) (sc := defScope sDiff) (by decide +kernel))
            (fun _ _ _ _ _ => pg_name (i := 9) scDiff.nd rfl (Or.inl rfl)) (fun _ _ _ _ _ => pts_one (pt_cmpR op_eq (pe_ix ix_list (pv 2) (pe_op op_sub (pv 9) pe_int) (fun _ _ => rfl)) (pv 7) (nomark _))) (fun _ _ _ _ _ => pv 9)) po_none (po_some (pv 5))))
        (pss_one (ps_if (PW.pt (pw_and (pt_cmpR (op_neD hr.units) (pv 8) (pe_lst pa_nil) (nomark _)) (pw_and1 (pt_cmpR op_gt (pe_call D.GD (hr.mono (by decide)) rfl D.mD D.FD.kp D.bD .nil pass0 (pa_cons (pv 0) (pa_cons pe_int pa_nil))) pe_int (nomark _)))))
          (pss_cons (ps_set (i := 4) scDiff.nd rfl (.inl rfl) (pe_call D.GP hr rfl D.mP D.FP.kp D.bP .nil pass0 (pa_cons (pv 0) (pa_cons (pv 8) pa_nil))))
          (pss_one (ps_expr (pe_bm PySem.F.plainAttrs_list PySem.F.slot_list_append PySem.F.type_list_append mt_append (pv 3) (pa_cons (pe_tup (pa_cons (pe_op op_add (pv 6) pe_int) (pa_cons (pv 4) pa_nil))) pa_nil)))))
          pss_nil))))
      (pss_one (ps_ret (pe_callTy call_tupleX (by rfl) (T.all "tuple" (by decide)) (by decide +kernel) (pa_cons (pv 3) pa_nil))))), ?_⟩
    refine ⟨ll20 (by decide), fun pf nf => ⟨_, rfl, ll20 (by show 3 ≤ 20; decide), fun q k => ?_⟩⟩
    have s0 := same_upd (o := .lst []) nf
    have s1 := same_upd (o := .lst [V.int 1, V.int 2, V.int 60]) k
    have af := hpot.ne nf
    have aq := (hpot.same s0).ne k
    have hpf := s1 _ _ (upd_same (H := H) (a := pf) (o := .lst []))
    have hq := upd_same (H := upd H pf (.lst [])) (a := q) (o := .lst [V.int 1, V.int 2, V.int 60])
    have sm := s0.trans s1
    refine ⟨a, q, [V.int 1, V.int 2, V.int 60], rfl, hpot.same sm, hq, aq, by show 0 < 3; decide, by show 3 ≤ 1000; decide, fun x G hx hp0 b0 => ?_⟩
    generalize upd (upd H pf (.lst [])) q (.lst [V.int 1, V.int 2, V.int 60]) = G0 at sm hpf hq b0
    obtain ⟨fr, rfl, fr1⟩ : ∃ fr : Int, x = .int fr ∧ 0 ≤ fr := by
      simp only [List.mem_cons, List.not_mem_nil, or_false] at hx
      rcases hx with rfl | rfl | rfl
      · exact ⟨1, rfl, by decide⟩
      · exact ⟨2, rfl, by decide⟩
      · exact ⟨60, rfl, by decide⟩
    have bG : But a H G := fun b o h n => b0 _ _ (sm _ _ h) n
    have hpfG := b0 _ _ hpf af.symm
    clear s0 s1 k hq
    refine ⟨_, _, _, rfl, ?_⟩
    refine ⟨_, rfl, p1, _, rfl, SqL.of (bG _ _ hl1 (lst_ne hpot hl1).symm), ?_⟩
    refine for_it walk_enum (fun i σ H' => PotAt H' a ∧ But a H H' ∧ ∃ (rs : List Addr) (ps : List (Nat × Nat)) (last : Nat) (x6 x7 x8 x9 : Option V), σ = [some (V.ref a), some (V.ref p1), some (V.ref p2), some (V.ref pf), some (V.int (last : Int)), some (V.int fr), x6, x7, x8, x9] ∧
      H' pf = some (.lst (refs rs)) ∧ PsAt H' rs ps ∧ IsDf ss1 ss2 ps ∧ (∀ q, q ∈ ps → q.1 ≤ i ∧ q.2 ≤ last) ∧ last ≤ 60 ∧ ps.length ≤ i)
      ⟨hp0, bG, [], [], 0, _, _, _, _, rfl, hpfG, .nil, .nil, (fun q h => nomatch h), by decide, Nat.le_refl _⟩
      (fun i σ H' hi ⟨_, hb, _⟩ => SqL.of (hb _ _ hl1 (lst_ne hpot hl1).symm)) ?_ ?_
    · rintro i x σ Ha Hb hi ⟨hp, hb, rs, ps, last, x6, x7, x8, x9, rfl, hf, hps, hdf, hlast, last60, psl⟩ ⟨t, y1, y2, rfl, nt, rfl, hy1, hy2⟩
      cases hy1
      obtain ⟨ln, rfl, hln⟩ := str_of_map hy2
      rw [List.length_map] at hi
      have st := same_upd (o := .tup [V.int (i : Nat), V.str ln]) nt
      have hp1 := hp.same st
      have hb1 := hb.same st
      have hf1 := st _ _ hf
      have hps1 := hps.same st
      refine ⟨t, _, rfl, .inl (.inl upd_same), rfl, ?_⟩
      generalize upd Ha t (.tup [V.int (i : Nat), V.str ln]) = Hb at st hp1 hb1 hf1 hps1 ⊢
      have hl2b := hb1 _ _ hl2 (lst_ne hpot hl2).symm
      refine ⟨_, _, rfl, _, _, rfl, rfl, ?_⟩
      refine ⟨_, rfl, _, _, rfl, rfl, _, rfl, p2, _, rfl, .inl (SqL.of hl2b), _, _, rfl, rfl, ?_⟩
      rw [List.length_map]
      refine ⟨_, _, rfl, ⟨by omega, by omega, by omega, by omega⟩, fun c nc => ?_⟩
      have sc0 := same_upd (o := .lst []) nc
      refine lc_range (lo := (last : Int) + 1) (n := (((ss2.length : Nat) : Int) + 1 - ((last : Int) + 1)).toNat) (fun j H' => PotAt H' a ∧ Same Hb H' ∧ ∃ js : List Int, H' c = some (.lst (js.map V.int)) ∧ (∀ x, x ∈ js → (last : Int) < x ∧ ss2[(x - 1).toNat]? = some ln) ∧ js.length ≤ j)
        ⟨hp1.same sc0, sc0, [], upd_same, (fun x h => nomatch h), Nat.le_refl _⟩ ?_ ?_
      · rintro j H' hj ⟨hp', sm', js, hc, hjs, ljs⟩
        have hl2' := sm' _ _ hl2b
        have hlt : last + j < ss2.length := by omega
        have ei : (last : Int) + 1 + (j : Int) - 1 = ((last + j : Nat) : Int) := by omega
        refine ⟨rfl, ?_⟩
        refine ⟨_, rfl, _, rfl, _, _, rfl, rfl, p2, _, _, V.str ss2[last + j], rfl, rfl, SqL.of hl2', ?_, _, rfl, rfl, _, rfl, ?_⟩
        · rw [ei]
          exact atI_nat (by rw [List.getElem?_map, List.getElem?_eq_getElem hlt]; rfl)
        · have nc' : ∀ b o, Hb b = some o → b ≠ c := fun b o h => ne_of_none h nc
          refine ite2 (fun h1 => ?_) (fun h1 => ?_)
          · have h2 : ss2[last + j] = ln := by
              have := of_decide_eq_true h1
              injection this
            refine ⟨_, rfl, _, hc, ?_, hp'.upd (fun e => ?_), fun b o h => ?_, js ++ [(last : Int) + 1 + (j : Int)], ?_, ?_, ?_⟩
            · rw [List.length_map]
              exact Nat.lt_of_le_of_lt ljs (Nat.lt_of_lt_of_le (show j < 61 by omega) (by decide))
            · obtain ⟨x, y, e2, _⟩ := hp1
              rw [e, nc] at e2; cases e2
            · rw [upd_ne (nc' b o h)]; exact sm' _ _ h
            · rw [upd_same, List.map_append]; rfl
            · intro x hx
              rcases List.mem_append.mp hx with hx | hx
              · exact hjs x hx
              · rw [List.mem_singleton.mp hx]
                refine ⟨by omega, ?_⟩
                rw [show ((last : Int) + 1 + (j : Int) - 1).toNat = last + j by omega, List.getElem?_eq_getElem hlt, h2]
            · rw [List.length_append]; simp; omega
          · exact ⟨hp', sm', js, hc, hjs, by omega⟩
      · rintro Hd ⟨hp', sm', js, hc, hjs, ljs⟩
        refine ⟨_, rfl, fr, rfl, c, _, rfl, SqL.of hc, fun u nu => ?_⟩
        rw [cut_ints js fr1]
        have hjt : ∀ x, x ∈ js.take fr.toNat → (last : Int) < x ∧ ss2[(x - 1).toNat]? = some ln := fun x hx => hjs x (List.mem_of_mem_take hx)
        have ljt : (js.take fr.toNat).length ≤ 61 := by rw [List.length_take]; omega
        have hu := upd_same (H := Hd) (a := u) (o := .lst ((js.take fr.toNat).map V.int))
        have su := same_upd (o := .lst ((js.take fr.toNat).map V.int)) nu
        have sall := sm'.trans su
        have hpu := hp'.same su
        have au : a ≠ u := hp'.ne nu
        generalize js.take fr.toNat = jt at hjt ljt hu su sall hpu ⊢
        generalize upd Hd u (.lst (jt.map V.int)) = He at hu su sall hpu ⊢
        clear su hc nu
        refine ⟨_, rfl, ll20 (by decide), fun e1 ne1 => ?_⟩
        have se := same_upd (o := .lst []) ne1
        refine ⟨.list (jt.map .int), .list [], .lst (SqL.of (se _ _ hu)) (dpInts _), .lst (SqL.of upd_same) .nil, int_lay _, int_lay [], _, rfl, ?_⟩
        have sf := sall.trans se
        have hpf' := hpu.same se
        have huf := se _ _ hu
        generalize upd He e1 (.lst []) = Hf at sf hpf' huf ⊢
        clear se ne1 hu
        have bf := hb1.same sf
        have stay : ∀ (Hz : Hp), PotAt Hz a → But a Hf Hz → (Hz pf = some (.lst (refs rs)) ∧ PsAt Hz rs ps ∧ IsDf ss1 ss2 ps ∧ (∀ q, q ∈ ps → q.1 ≤ i + 1 ∧ q.2 ≤ last) ∧ last ≤ 60 ∧ ps.length ≤ i + 1) := fun Hz hz bz =>
          ⟨bz _ _ (sf _ _ hf1) af.symm, (hps1.same sf).but bz hpf', hdf, fun q hq => ⟨Nat.le_succ_of_le (hlast q hq).1, (hlast q hq).2⟩, last60, by omega⟩
        cases jt with
        | nil =>
          rw [show PyData.eqv (.list ([].map PyData.int)) (.list []) = true from eqv_nil0]
          exact iteF (iteF ⟨hpf', bf, rs, ps, last, _, _, _, _, rfl, stay Hf hpf' (But.refl a Hf)⟩)
        | cons j0 jt =>
          rw [show PyData.eqv (.list ((j0 :: jt).map PyData.int)) (.list []) = false from eqv_nil _ _]
          refine iteT ⟨_, rfl, a, 4, rfl, hpf', by decide, by decide, fun r Hg r0 r1 hpg bg => ⟨_, _, rfl, rfl, _, rfl, ?_⟩⟩
          have hug := bg _ _ huf au.symm
          refine ite2 (fun _ => ?_) (fun _ => ?_)
          · refine ⟨_, rfl, _, rfl, a, u, _, rfl, hpg, hug, au, by simp, by rw [List.length_map]; exact Nat.le_trans ljt (by decide), fun x Hh hx hph bh => ?_⟩
            obtain ⟨jv, hjv, rfl⟩ := List.mem_map.mp hx
            obtain ⟨jl, jm⟩ := hjt jv hjv
            obtain ⟨jn, rfl⟩ : ∃ jn : Nat, jv = (jn : Int) := ⟨jv.toNat, by omega⟩
            have bgh := bg.trans bh
            obtain ⟨st1, st2, st3, st4, st5, st6⟩ := stay Hh hph bgh
            refine ⟨_, rfl, .inl ⟨rfl, _, SqL.of st1⟩, ?_⟩
            refine ⟨_, rfl, _, _, rfl, rfl, _, rfl, ll20 (by show 2 ≤ 20; decide), fun v nv => ?_⟩
            have sv := same_upd (o := .tup [V.int ((i : Int) + 1), V.int (jn : Int)]) nv
            have hfv := sv _ _ st1
            have jlen : jn ≤ ss2.length := by
              have := (List.getElem?_eq_some_iff.mp jm).1
              omega
            refine ⟨pf, _, _, rfl, rfl, hfv, ?_, ?_⟩
            · unfold refs
              rw [List.length_map, st2.1]
              exact Nat.lt_of_le_of_lt st6 (Nat.lt_of_lt_of_le (show i + 1 < 62 by omega) (by decide))
            · have hv : upd Hh v (.tup [V.int ((i : Int) + 1), V.int (jn : Int)]) v = some (tupV (i + 1, jn)) := by
                rw [upd_same]; rfl
              have ps2 := ((st2.same sv).snoc hv).updL (ys := refs rs ++ [V.ref v]) hfv
              refine ⟨(hph.same sv).upd af, fun b o h n => ?_, rs ++ [v], ps ++ [(i + 1, jn)], jn, _, _, _, _, rfl, ?_, ps2, st3.snoc hln (by omega) ?_ (fun q hq => ⟨?_, ?_⟩), fun q hq => ?_, by omega, ?_⟩
              · have e := sv _ _ ((bf.trans bgh) b o h n)
                rw [upd_ne (fun e2 => by rw [e2, nf] at h; cases h)]
                exact e
              · rw [upd_same]
                unfold refs
                rw [List.map_append]
                rfl
              · rw [show ((jn : Int) - 1).toNat = jn - 1 by omega] at jm
                exact jm
              · have := (hlast q hq).1; omega
              · have := (hlast q hq).2; omega
              · rcases List.mem_append.mp hq with hq | hq
                · have := hlast q hq
                  exact ⟨by omega, by omega⟩
                · rw [List.mem_singleton.mp hq]
                  exact ⟨Nat.le_refl _, Nat.le_refl _⟩
              · rw [List.length_append]; simp; omega
          · exact ⟨hpg, bf.trans bg, rs, ps, last, _, _, _, _, rfl, stay Hg hpg bg⟩
    · rintro σ G' ⟨hp, hb, rs, ps, last, x6, x7, x8, x9, rfl, hf, hps, hdf, hlast, last60, psl⟩
      refine ⟨_, rfl, pf, _, rfl, SqL.of hf, fun u ob nu hcl hdn => ?_⟩
      have su := same_upd (o := .frz ob (.tup (refs rs))) nu
      exact z u ps _ (hp.same su) (hb.same su) (hb.fresh hp nu) ⟨ob, rs, upd_same, hcl, hdn, hps.same su⟩ hdf
end
end K16
namespace XR
open PySem L2
theorem far_append (ps qs : List (Nat × Nat)) (i : Nat) : far (ps ++ qs) i = (far ps i).or (far qs i) := by
  unfold far
  rw [List.find?_append]
  cases ps.find? (fun q => decide (q.1 = i)) with
  | none => rfl
  | some q => rfl
theorem far_none {ps : List (Nat × Nat)} {i : Nat} (h : ∀ q, q ∈ ps → q.1 ≠ i) : far ps i = none := by
  unfold far
  rw [List.find?_eq_none.mpr fun q hq => by simp [h q hq]]
  rfl
theorem far_one (p : Nat × Nat) (i : Nat) : far [p] i = if p.1 = i then some p.2 else none := by
  unfold far
  by_cases e : p.1 = i
  · simp [e]
  · simp [e]
/-- what a law's own joining tells of line k + 1 -/
def lawAt (ps qs : List (Nat × Nat)) (k : Nat) : Option (Nat × Nat) := (far ps (k + 1)).bind fun j => (far qs j).map fun f => (k + 1, f)
def lawJ (ps qs : List (Nat × Nat)) (m : Nat) : List (Nat × Nat) := (List.range m).filterMap (lawAt ps qs)
theorem lawJ_succ (ps qs : List (Nat × Nat)) (m : Nat) : lawJ ps qs (m + 1) = lawJ ps qs m ++ (lawAt ps qs m).toList := by
  unfold lawJ
  rw [List.range_succ, List.filterMap_append]
  have e0 : List.filterMap (lawAt ps qs) [m] = (lawAt ps qs m).toList := by
    cases e : lawAt ps qs m <;> simp [e]
  rw [e0]
theorem joinD_append (ps ps' qs : List (Nat × Nat)) : joinD (ps ++ ps') qs = joinD ps qs ++ joinD ps' qs := by
  unfold joinD
  rw [List.filterMap_append]
theorem lawJ_is (qs : List (Nat × Nat)) : ∀ (m : Nat) (ps : List (Nat × Nat)), ps.Pairwise (fun x y => x.1 < y.1 ∧ x.2 < y.2) → (∀ q, q ∈ ps → 1 ≤ q.1 ∧ q.1 ≤ m) → lawJ ps qs m = joinD ps qs
  | 0, ps, _, h => by
    cases ps with
    | nil => rfl
    | cons p ps =>
      have := h p (List.mem_cons_self ..)
      omega
  | m + 1, ps, hp, h => by
    rw [lawJ_succ]
    rcases List.eq_nil_or_concat ps with rfl | ⟨ps', p, rfl⟩
    · rw [lawJ_is qs m [] hp (fun q hq => nomatch hq)]
      rfl
    · rw [List.concat_eq_append] at hp h ⊢
      have hp2 := List.pairwise_append.mp hp
      have hlt : ∀ q, q ∈ ps' → q.1 < p.1 := fun q hq => (hp2.2.2 q hq p (List.mem_singleton_self p)).1
      have h0 := h p (List.mem_append_right _ (List.mem_singleton_self p))
      by_cases e : p.1 = m + 1
      · have ih := lawJ_is qs m ps' hp2.1 fun q hq => ⟨(h q (List.mem_append_left _ hq)).1, by have := hlt q hq; omega⟩
        have e1 : lawJ (ps' ++ [p]) qs m = lawJ ps' qs m := by
          unfold lawJ
          refine fmCongr fun k hk => ?_
          have hk' := List.mem_range.mp hk
          unfold lawAt
          rw [far_append, far_one, if_neg (by omega), Option.or_none]
        have e2 : lawAt (ps' ++ [p]) qs m = (far qs p.2).map fun f => (m + 1, f) := by
          unfold lawAt
          rw [far_append, far_none (fun q hq => by have := hlt q hq; omega), far_one, if_pos e]
          rfl
        rw [e1, e2, ih, joinD_append]
        have e3 : joinD [p] qs = ((far qs p.2).map fun f => (m + 1, f)).toList := by
          unfold joinD
          rw [← e]
          cases ef : far qs p.2 <;> simp [ef]
        rw [e3]
      · have ih := lawJ_is qs m (ps' ++ [p]) hp fun q hq => ⟨(h q hq).1, by
          rcases List.mem_append.mp hq with hq | hq
          · have := hlt q hq; omega
          · rw [List.mem_singleton.mp hq]; omega⟩
        have e2 : lawAt (ps' ++ [p]) qs m = none := by
          unfold lawAt
          rw [far_none fun q hq => by
            rcases List.mem_append.mp hq with hq | hq
            · have := hlt q hq; omega
            · rw [List.mem_singleton.mp hq]; omega]
          rfl
        rw [e2, ih]
        simp
theorem lawJ_df {ss1 ss2 : List Str} {ps qs : List (Nat × Nat)} (h : IsDf ss1 ss2 ps) : lawJ ps qs ss1.length = joinD ps qs := lawJ_is qs _ ps h.2 fun q hq => ⟨(h.1 q hq).1, (h.1 q hq).2.1⟩
end XR
namespace XR
open PySem L2
def idD (n : Nat) : List (Nat × Nat) := (List.range n).map fun k => (k + 1, k + 1)
def spSame (K : PySem.W.Frag) : Sp := fun vs H Q _ => ∃ (x : V) (ss : List Str), vs = [x] ∧ TxA K H x ss ∧ ss.length ≤ 60 ∧ ∀ t H', Same H H' → H t = none → DfAt H' t (idD ss.length) → Q (.ref t) H'
theorem merge_map : ∀ (ps acc : List (Nat × Nat)), (∀ (i : Nat) (q : Nat × Nat), (acc ++ ps)[i]? = some q → ∀ p, p ∈ (acc ++ ps).take i → p.1 ≠ q.1) → mergeK (mapK acc) (mapK ps) = mapK (acc ++ ps)
  | [], acc, _ => by rw [List.append_nil]; rfl
  | p :: ps, acc, h => by
    have e : putK (mapK acc) (Sum.inl (p.1 : Int)) (V.int (p.2 : Int)) = mapK (acc ++ [p]) := put_new fun q hq => by
      have := h acc.length p (by simp) q (by simp [hq])
      exact this
    have ih := merge_map ps (acc ++ [p]) (by simpa using h)
    show mergeK (putK (mapK acc) (Sum.inl (p.1 : Int)) (V.int (p.2 : Int))) (mapK ps) = _
    rw [e, ih]
    simp
theorem merge_df {ss1 ss2 : List Str} {ps : List (Nat × Nat)} (h : IsDf ss1 ss2 ps) : mergeK [] (mapK ps) = mapK ps := by
  have := merge_map ps [] (by simpa using df_dis h)
  exact this
theorem ps_paired {K : PySem.W.Frag} {H : Hp} : ∀ {rs : List Addr} {ps : List (Nat × Nat)}, PsAt H rs ps → PySem.Paired (fun (p : Addr) (kv : Key × V) => SqT K H p [kV kv.1, kv.2]) rs (mapK ps)
  | [], [], _ => .nil
  | r :: rs, [], h => by have := h.1; simp at this
  | [], p :: ps, h => by have := h.1; simp at this
  | r :: rs, p :: ps, h => by
    obtain ⟨r', e1, e2⟩ := h.2 0 p rfl
    obtain rfl : r = r' := Option.some.inj e1
    exact .cons (.inl (.inl e2)) (ps_paired ⟨by simpa using h.1, fun i q hq => h.2 (i + 1) q hq⟩)
theorem far_zero {ss1 ss2 : List Str} {ps : List (Nat × Nat)} (h : IsDf ss1 ss2 ps) : far ps 0 = none := far_none fun q hq => by
  have := (h.1 q hq).1
  omega
/-- the law's own joining -/
def spLawJ : Sp := fun vs H Q _ => ∃ (x1 : V) (t1 t2 : Addr) (ss1 ss2 ss3 : List Str) (ps qs : List (Nat × Nat)), vs = [x1, .ref t1, .ref t2] ∧ (∃ a, x1 = .ref a ∧ H a = some (.lst (ss1.map V.str))) ∧ ss1.length ≤ 60 ∧ DfX H t1 ps ∧ IsDf ss1 ss2 ps ∧ DfX H t2 qs ∧ IsDf ss2 ss3 qs ∧
  ∀ t H', Same H H' → H t = none → DfAt H' t (joinD ps qs) → Q (.ref t) H'
end XR
namespace K16
open PySem L2 XR
abbrev sSame : Stmt := top 33
abbrev sLawJ : Stmt := top 34
section
variable {P : Program} {w : World} {K : PySem.W.Frag} {mg : Str → Option Value} {base : Heap}
theorem scSame : FnScope ["_law_lines", "_law_k"] ["_law_lines"] (defScope sSame) := ⟨rfl, rfl, rfl, by decide +kernel, rfl, by decide +kernel, by decide +kernel⟩
theorem ok_same {f : Addr} {fd : FuncData} (F : Fun K "_law_same" "_law_same" sSame f fd) (T : Blt mg) : FnOk P w K mg base CX0 1 f fd ["_law_lines"] (spSame K) := by
  refine F.ok scSame (fun vs H Q E h => ?_) (fun cdv A outer s H vs Q E hr h => ?_)
  · obtain ⟨x, ss, rfl, _⟩ := h
    rfl
  · obtain ⟨x, ss, rfl, ⟨a, rfl, ha⟩, hl, z⟩ := h
    refine ⟨_, pss_one (ps_ret (pe_callTy call_tuple_of (by rfl) (T.all "tuple" (by decide)) (by decide +kernel) (pa_cons (pe_lc (own := [("_law_k", 1)]) (g := gName 1) (tt := tYes)
        (te := tTup (tCons (tOp (rI0 fun i j => V.int (i + j)) (tVar 1) (tC (V.int 1))) (tCons (tOp (rI0 fun i j => V.int (i + j)) (tVar 1) (tC (V.int 1))) tNil))) rfl scSame.nd
        (pi_range1 rfl T.range (pa_cons (pe_callB call_len_seq (by rfl) T.len PySem.boot_len (pa_cons (pv 0) pa_nil)) pa_nil))
        (blkOk_by (own := [("_law_k", 1)]) (N := ["_law_lines", "_law_k"]) (sc := defScope sSame) (by decide +kernel)) (fun _ _ _ _ _ => pg_name (i := 1) scSame.nd rfl (Or.inl rfl)) (fun _ _ _ _ _ => pts_nil)
        (fun _ _ _ _ _ => pe_tup (pa_cons (pe_op op_add (pv 1) pe_int) (pa_cons (pe_op op_add (pv 1) pe_int) pa_nil)))) pa_nil))), ?_⟩
    refine ⟨_, rfl, a, _, rfl, ha, ?_⟩
    rw [List.length_map]
    refine ⟨_, rfl, by omega, by omega, fun D nD => ?_⟩
    rw [Int.toNat_natCast]
    have sD := same_upd (o := .lst []) nD
    refine lc_range (n := ss.length) (fun j H' => Same H H' ∧ ∃ rs, H' D = some (.lst (refs rs)) ∧ PsAt H' rs (idD j)) ⟨sD, [], upd_same, .nil⟩ ?_ ?_
    · rintro j H' hj ⟨sm, rs, hD, hp⟩
      refine ⟨rfl, ?_⟩
      unfold tYes
      dsimp only
      rw [if_pos rfl]
      refine ⟨_, rfl, _, _, rfl, rfl, _, rfl, _, _, rfl, rfl, ll20 (by show 2 ≤ 20; decide), fun u nu => ?_⟩
      have eo : (.tup [V.int (0 + (j : Int) + 1), V.int (0 + (j : Int) + 1)] : HO) = tupV (j + 1, j + 1) := by
        unfold tupV
        have e1 : (((j + 1 : Nat)) : Int) = 0 + (j : Int) + 1 := by omega
        rw [e1]
      rw [eo]
      obtain ⟨k1, k2, k3⟩ := psStep (q := (j + 1, j + 1)) hD hp nu
      refine ⟨_, k1, ?_, fun b o h => ?_, rs ++ [u], k3, ?_⟩
      · unfold refs
        rw [List.length_map, hp.1]
        unfold idD
        rw [List.length_map, List.length_range]
        exact Nat.lt_of_lt_of_le (show j < 61 by omega) (by decide)
      · rw [upd_ne (ne_of_none h nD)]
        exact same_upd nu _ _ (sm _ _ h)
      · unfold idD at k2 ⊢
        rw [List.range_succ, List.map_append]
        exact k2
    · rintro H' ⟨sm, rs, hD, hp⟩
      refine ⟨D, _, rfl, .inl ⟨SqL.of hD, fun u nu => ?_⟩⟩
      have su := same_upd (o := .tup (refs rs)) nu
      refine z u _ (sm.trans su) ?_ ⟨rs, upd_same, hp.same su⟩
      cases e : H u with
      | none => rfl
      | some o => rw [sm _ _ e] at nu; cases nu
theorem scLawJ : FnScope ["_law_elder", "_law_one", "_law_other", "_law_found", "_law_k", "_law_far"] ["_law_elder", "_law_one", "_law_other"] (defScope sLawJ) := ⟨rfl, rfl, rfl, by decide +kernel, rfl, by decide +kernel, by decide +kernel⟩
theorem ok_lawJ {f : Addr} {fd : FuncData} (F : Fun K "_law_joined" "_law_joined" sLawJ f fd) (T : Blt mg) : FnOk P w K mg base CX0 1 f fd ["_law_elder", "_law_one", "_law_other"] spLawJ := by
  refine F.ok scLawJ (fun vs H Q E h => ?_) (fun cdv A outer s H vs Q E hr h => ?_)
  · obtain ⟨x1, t1, t2, ss1, ss2, ss3, ps, qs, rfl, _⟩ := h
    rfl
  · obtain ⟨x1, t1, t2, ss1, ss2, ss3, ps, qs, rfl, ⟨a, rfl, ha⟩, l60, hx1, hd1, hx2, hd2, z⟩ := h
    refine ⟨_, pss_cons (ps_set (i := 3) scLawJ.nd rfl (.inl rfl) (pe_lst pa_nil))
      (pss_cons (ps_for PassesOwn.never rfl (pi_range1 rfl T.range (pa_cons (pe_callB call_len_seq (by rfl) T.len PySem.boot_len (pa_cons (pv 0) pa_nil)) pa_nil)) (pg_name (i := 4) scLawJ.nd rfl (.inl rfl))
        (pss_cons (ps_set (i := 5) scLawJ.nd rfl (.inl rfl) (pe_dget2 (hu_of hr) (pe_callTy (call_dictT rfl) (by rfl) (T.all "dict" (by decide)) (by decide +kernel) (pa_cons (pv 2) pa_nil))
            (pe_dget2 (hu_of hr) (pe_callTy (call_dictT rfl) (by rfl) (T.all "dict" (by decide)) (by decide +kernel) (pa_cons (pv 1) pa_nil)) (pe_op op_add (pv 4) pe_int) pe_int ⟨rfl, rfl, rfl, rfl⟩) pe_int ⟨rfl, rfl, rfl, rfl⟩))
        (pss_one (ps_set (i := 3) scLawJ.nd rfl (.inl rfl) (pe_op op_cat (pv 3) (pe_op op_rep (pe_lst (pa_cons (pe_tup (pa_cons (pe_op op_add (pv 4) pe_int) (pa_cons (pv 5) pa_nil))) pa_nil)) (pe_callTy call_int1 (by rfl) T.int (by decide +kernel) (pa_cons (pe_cmpR op_gt (pv 5) pe_int (nomark _)) pa_nil))))))))
      (pss_one (ps_ret (pe_callTy call_tuple_of (by rfl) (T.all "tuple" (by decide)) (by decide +kernel) (pa_cons (pv 3) pa_nil))))), ?_⟩
    refine ⟨ll20 (by decide), fun p0 n0 => ?_⟩
    have s0 := same_upd (o := .lst []) n0
    refine ⟨_, rfl, a, _, rfl, .inl (SqL.of (s0 _ _ ha)), ?_⟩
    rw [List.length_map]
    refine ⟨_, rfl, by omega, by omega, ?_⟩
    rw [Int.toNat_natCast]
    refine for_range (n := ss1.length) (fun k σ H' => Same H H' ∧ ∃ pf rs x4 x5, σ = [some (V.ref a), some (V.ref t1), some (V.ref t2), some (V.ref pf), x4, x5] ∧ H' pf = some (.lst (refs rs)) ∧ PsAt H' rs (lawJ ps qs k)) ⟨s0, p0, [], _, _, rfl, upd_same, .nil⟩ ?_ ?_
    · rintro k σ G hk ⟨sm, pf, rs, x4, x5, rfl, hf, hp⟩
      obtain ⟨o1, rs1, a1, b1, c1, d1⟩ := hx1.same sm
      obtain ⟨o2, rs2, a2, b2, c2, d2⟩ := hx2.same sm
      refine ⟨_, rfl, t2, o2, rs2, mapK qs, rfl, a2, b2, c2, ps_paired d2, fun q1 m1 => ?_⟩
      rw [merge_df hd2]
      have u1 := same_upd (o := .dK (mapK qs)) m1
      have g1 := upd_same (H := G) (a := q1) (o := .dK (mapK qs))
      generalize upd G q1 (.dK (mapK qs)) = G1 at u1 g1 ⊢
      refine ⟨q1, rfl, .inl ⟨_, .inl g1⟩, _, rfl, t1, o1, rs1, mapK ps, rfl, u1 _ _ a1, b1, c1, ps_paired (d1.same u1), fun q2 m2 => ?_⟩
      rw [merge_df hd1]
      have u2 := same_upd (o := .dK (mapK ps)) m2
      have g2 := upd_same (H := G1) (a := q2) (o := .dK (mapK ps))
      have g1' := u2 _ _ g1
      generalize upd G1 q2 (.dK (mapK ps)) = G2 at u2 g2 g1' ⊢
      have s2 := sm.trans (u1.trans u2)
      have hf2 := u2 _ _ (u1 _ _ hf)
      have hp2 := (hp.same u1).same u2
      refine ⟨q2, rfl, .inl ⟨_, .inl g2⟩, _, rfl, _, _, rfl, rfl, _, DGet.k (k := Sum.inl (0 + (k : Int) + 1)) g2, ?_⟩
      obtain ⟨j, hj, hj2⟩ : ∃ j : Nat, (valV (mapK ps) (Sum.inl (0 + (k : Int) + 1))).getD (V.int 0) = V.int (j : Int) ∧ (far ps (k + 1) = some j ∨ (far ps (k + 1) = none ∧ j = 0)) := by
        have e := XR.valV_map ps (k + 1)
        rw [show (((k + 1 : Nat)) : Int) = 0 + (k : Int) + 1 by omega] at e
        rw [e]
        cases ef : far ps (k + 1) with
        | none => exact ⟨0, rfl, .inr ⟨rfl, rfl⟩⟩
        | some j => exact ⟨j, rfl, .inl rfl⟩
      rw [hj]
      refine ⟨_, DGet.k (k := Sum.inl (j : Int)) g1', ?_⟩
      obtain ⟨fr, hfr, hfr2⟩ : ∃ fr : Nat, (valV (mapK qs) (Sum.inl (j : Int))).getD (V.int 0) = V.int (fr : Int) ∧ ((lawAt ps qs k = some (k + 1, fr) ∧ 0 < fr) ∨ (lawAt ps qs k = none ∧ fr = 0)) := by
        rw [XR.valV_map]
        unfold lawAt
        rcases hj2 with hj2 | ⟨hj2, rfl⟩
        · rw [hj2]
          cases ef : far qs j with
          | none => exact ⟨0, rfl, .inr ⟨by simp [ef], rfl⟩⟩
          | some fr =>
            have := (hd2.1 _ (far_mem ef)).2.2.1
            exact ⟨fr, rfl, .inl ⟨by simp [ef], this⟩⟩
        · rw [far_zero hd2, hj2]
          exact ⟨0, rfl, .inr ⟨rfl, rfl⟩⟩
      rw [hfr]
      refine ⟨_, rfl, _, rfl, _, _, rfl, rfl, _, rfl, ll20 (by show 2 ≤ 20; decide), fun u nu => ⟨ll20 (by show 1 ≤ 20; decide), fun v nv => ?_⟩⟩
      have eo : (.tup [V.int (0 + (k : Int) + 1), V.int (fr : Int)] : HO) = tupV (k + 1, fr) := by
        unfold tupV
        have e1 : (((k + 1 : Nat)) : Int) = 0 + (k : Int) + 1 := by omega
        rw [e1]
      rw [eo] at nv ⊢
      have su := same_upd (o := tupV (k + 1, fr)) nu
      have sv := same_upd (o := .lst [V.ref u]) nv
      have hu := sv _ _ (upd_same (H := G2) (a := u) (o := tupV (k + 1, fr)))
      have hv := upd_same (H := upd G2 u (tupV (k + 1, fr))) (a := v) (o := .lst [V.ref u])
      have s3 := s2.trans (su.trans sv)
      have hf3 := sv _ _ (su _ _ hf2)
      have hp3 := (hp2.same su).same sv
      generalize upd (upd G2 u (tupV (k + 1, fr))) v (.lst [V.ref u]) = G3 at hu hv s3 hf3 hp3 ⊢
      refine ⟨_, rfl, _, _, rfl, rfl, .inr ⟨_, rfl, ?_⟩⟩
      have lrs : rs.length ≤ 60 := by
        rw [hp.1]
        unfold lawJ
        have := List.length_filterMap_le (lawAt ps qs) (List.range k)
        rw [List.length_range] at this
        omega
      rcases hfr2 with ⟨h1, h2⟩ | ⟨h1, rfl⟩
      · rw [decide_eq_true (show (0 : Int) < (fr : Int) by omega)]
        refine ⟨v, 1, [V.ref u], rfl, rfl, hv, by decide, by decide, ll20 (by show 1 ≤ 20; decide), fun r nr => ?_⟩
        have sr := same_upd (o := .lst (List.replicate (1 : Int).toNat [V.ref u]).flatten) nr
        refine ⟨pf, r, _, _, rfl, rfl, sr _ _ hf3, upd_same, ?_, fun w nw => ?_⟩
        · show (refs rs).length + 1 ≤ sizeLine
          unfold refs
          rw [List.length_map]
          exact Nat.le_trans (show rs.length + 1 ≤ 61 by omega) (by decide)
        · have sw := same_upd (o := .lst (refs rs ++ (List.replicate (1 : Int).toNat [V.ref u]).flatten)) nw
          refine ⟨s3.trans (sr.trans sw), w, rs ++ [u], _, _, rfl, ?_, ?_⟩
          · rw [upd_same]
            unfold refs
            rw [List.map_append]
            rfl
          · rw [lawJ_succ, h1]
            exact ((hp3.snoc hu).same sr).same sw
      · refine ⟨v, 0, [V.ref u], rfl, rfl, hv, by decide, by decide, ll20 (by show 0 ≤ 20; decide), fun r nr => ?_⟩
        have sr := same_upd (o := .lst (List.replicate (0 : Int).toNat [V.ref u]).flatten) nr
        refine ⟨pf, r, _, _, rfl, rfl, sr _ _ hf3, upd_same, ?_, fun w nw => ?_⟩
        · show (refs rs).length + 0 ≤ sizeLine
          unfold refs
          rw [List.length_map]
          exact Nat.le_trans (show rs.length + 0 ≤ 61 by omega) (by decide)
        · have sw := same_upd (o := .lst (refs rs ++ (List.replicate (0 : Int).toNat [V.ref u]).flatten)) nw
          refine ⟨s3.trans (sr.trans sw), w, rs, _, _, rfl, ?_, ?_⟩
          · rw [upd_same]
            show some (HO.lst (refs rs ++ [])) = _
            rw [List.append_nil]
          · rw [lawJ_succ, h1]
            simpa using (hp3.same sr).same sw
    · rintro σ G ⟨sm, pf, rs, x4, x5, rfl, hf, hp⟩
      refine ⟨_, rfl, pf, _, rfl, .inl ⟨SqL.of hf, fun u nu => ?_⟩⟩
      have su := same_upd (o := .tup (refs rs)) nu
      refine z u _ (sm.trans su) ?_ ⟨rs, upd_same, ?_⟩
      · cases e : H u with
        | none => rfl
        | some o => rw [sm _ _ e] at nu; cases nu
      · rw [← lawJ_df (qs := qs) hd1]
        exact hp.same su
end
end K16
/-! The mathematics of diffs joined. -/
namespace XR
open PySem L2
abbrev Ris (ps : List (Nat × Nat)) : Prop := ps.Pairwise fun x y => x.1 < y.1 ∧ x.2 < y.2
theorem far_get {ps : List (Nat × Nat)} (h : Ris ps) {q : Nat × Nat} (hq : q ∈ ps) : far ps q.1 = some q.2 := by
  induction ps with
  | nil => cases hq
  | cons p ps ih =>
    have h2 := List.pairwise_cons.mp h
    unfold far
    rw [List.find?_cons]
    rcases List.mem_cons.mp hq with rfl | hq'
    · simp
    · have lt := (h2.1 q hq').1
      rw [decide_eq_false (show ¬ p.1 = q.1 by omega)]
      exact ih h2.2 hq'
theorem far_id {n j : Nat} (h1 : 1 ≤ j) (h2 : j ≤ n) : far (idD n) j = some j := by
  have hr : Ris (idD n) := by
    unfold idD
    refine List.pairwise_map.mpr (List.Pairwise.imp ?_ List.pairwise_lt_range)
    intro a b h
    exact ⟨by show a + 1 < b + 1; omega, by show a + 1 < b + 1; omega⟩
  have hm : (j, j) ∈ idD n := by
    unfold idD
    rw [List.mem_map]
    exact ⟨j - 1, List.mem_range.mpr (by omega), by rw [show j - 1 + 1 = j by omega]⟩
  exact far_get hr hm
theorem join_id_right {ss1 ss2 : List Str} {ps : List (Nat × Nat)} (h : IsDf ss1 ss2 ps) : joinD ps (idD ss2.length) = ps := by
  have key : ∀ l : List (Nat × Nat), (∀ q, q ∈ l → 1 ≤ q.2 ∧ q.2 ≤ ss2.length) → joinD l (idD ss2.length) = l := by
    intro l
    induction l with
    | nil => intro _; rfl
    | cons p l ih =>
      intro hl
      have hp := hl p (List.mem_cons_self ..)
      unfold joinD at ih ⊢
      rw [List.filterMap_cons, far_id hp.1 hp.2]
      show p :: _ = _
      rw [ih fun q hq => hl q (List.mem_cons_of_mem _ hq)]
  exact key ps fun q hq => ⟨(h.1 q hq).2.2.1, (h.1 q hq).2.2.2.1⟩
theorem join_id_left {ss1 ss2 : List Str} {ps : List (Nat × Nat)} (h : IsDf ss1 ss2 ps) : joinD (idD ss1.length) ps = ps := by
  have e1 : joinD (idD ss1.length) ps = lawJ ps (idD ss2.length) ss1.length := by
    unfold joinD idD lawJ
    rw [List.filterMap_map]
    refine fmCongr fun k _ => ?_
    unfold lawAt
    show (far ps (k + 1)).map (fun f => (k + 1, f)) = _
    cases e : far ps (k + 1) with
    | none => rfl
    | some j =>
      have b := (h.1 _ (far_mem e)).2.2
      show some (k + 1, j) = (far (idD ss2.length) j).map fun f => (k + 1, f)
      rw [far_id b.1 b.2.1]
      rfl
  rw [e1, lawJ_df h, join_id_right h]
theorem join_ris {ps qs : List (Nat × Nat)} (h1 : Ris ps) (h2 : Ris qs) : Ris (joinD ps qs) := by
  induction ps with
  | nil => exact .nil
  | cons p l ih =>
    have hl2 := List.pairwise_cons.mp h1
    have i2 := ih hl2.2
    cases e : far qs p.2 with
    | none =>
      have e2 : joinD (p :: l) qs = joinD l qs := by unfold joinD; rw [List.filterMap_cons, e]; rfl
      rw [e2]; exact i2
    | some k =>
      have e2 : joinD (p :: l) qs = (p.1, k) :: joinD l qs := by unfold joinD; rw [List.filterMap_cons, e]; rfl
      rw [e2]
      refine List.pairwise_cons.mpr ⟨fun y hy => ?_, i2⟩
      obtain ⟨j, hy1, hy2⟩ := join_mem hy
      have lt := hl2.1 _ hy1
      exact ⟨lt.1, pair_lt (p := (p.2, k)) (q := (j, y.2)) h2 (far_mem e) hy2 lt.2⟩
theorem far_join {ps qs : List (Nat × Nat)} (h1 : Ris ps) (h2 : Ris qs) (i : Nat) : far (joinD ps qs) i = (far ps i).bind (far qs) := by
  cases e : far (joinD ps qs) i with
  | some k =>
    obtain ⟨j, hp, hq⟩ := join_mem (far_mem e)
    have a : far ps i = some j := far_get h1 hp
    have b : far qs j = some k := far_get h2 hq
    rw [a]
    exact b.symm
  | none =>
    cases e1 : far ps i with
    | none => rfl
    | some j =>
      cases e2 : far qs j with
      | none => exact e2.symm
      | some k =>
        have m : (i, k) ∈ joinD ps qs := by
          unfold joinD
          rw [List.mem_filterMap]
          exact ⟨(i, j), far_mem e1, by show (far qs j).map (fun k => (i, k)) = _; rw [e2]; rfl⟩
        have := far_get (join_ris h1 h2) m
        rw [e] at this
        cases this
theorem ris_ext {ps qs : List (Nat × Nat)} (h1 : Ris ps) (h2 : Ris qs) (h : ∀ i, far ps i = far qs i) : ps = qs := by
  induction ps generalizing qs with
  | nil =>
    cases qs with
    | nil => rfl
    | cons q qs =>
      have := h q.1
      rw [far_get h2 (List.mem_cons_self ..)] at this
      cases this
  | cons p ps ih =>
    cases qs with
    | nil =>
      have := h p.1
      rw [far_get h1 (List.mem_cons_self ..)] at this
      cases this
    | cons q qs =>
      have p1 := List.pairwise_cons.mp h1
      have q1 := List.pairwise_cons.mp h2
      have a : p ∈ q :: qs := by
        have := h p.1
        rw [far_get h1 (List.mem_cons_self ..)] at this
        exact far_mem this.symm
      have b : q ∈ p :: ps := by
        have := h q.1
        rw [far_get h2 (List.mem_cons_self ..)] at this
        exact far_mem this
      have e : p = q := by
        rcases List.mem_cons.mp a with a | a
        · exact a
        · rcases List.mem_cons.mp b with b | b
          · exact b.symm
          · have := (q1.1 p a).1
            have := (p1.1 q b).1
            omega
      subst e
      rw [ih p1.2 q1.2 fun i => ?_]
      by_cases e : p.1 = i
      · rw [far_none (ps := ps) (i := i) (fun r hr => by have := (p1.1 r hr).1; omega), far_none (ps := qs) (i := i) (fun r hr => by have := (q1.1 r hr).1; omega)]
      · have := h i
        unfold far at this ⊢
        rw [List.find?_cons, List.find?_cons, decide_eq_false e] at this
        exact this
theorem join_assoc {ps qs rs : List (Nat × Nat)} (h1 : Ris ps) (h2 : Ris qs) (h3 : Ris rs) : joinD (joinD ps qs) rs = joinD ps (joinD qs rs) := by
  refine ris_ext (join_ris (join_ris h1 h2) h3) (join_ris h1 (join_ris h2 h3)) fun i => ?_
  rw [far_join (join_ris h1 h2) h3, far_join h1 h2, far_join h1 (join_ris h2 h3)]
  cases far ps i with
  | none => rfl
  | some j =>
    show (far qs j).bind (far rs) = far (joinD qs rs) j
    rw [far_join h2 h3]
end XR
namespace XR
open PySem L2
theorem far_iff {ps : List (Nat × Nat)} (h : Ris ps) {i k : Nat} : far ps i = some k ↔ (i, k) ∈ ps := ⟨far_mem, fun m => far_get (q := (i, k)) h m⟩
theorem join_iff {ps qs : List (Nat × Nat)} (h1 : Ris ps) (h2 : Ris qs) {i k : Nat} : (i, k) ∈ joinD ps qs ↔ ∃ j, (i, j) ∈ ps ∧ (j, k) ∈ qs := by
  constructor
  · intro h
    exact join_mem h
  · rintro ⟨j, a, b⟩
    rw [← far_iff (join_ris h1 h2), far_join h1 h2, (far_iff h1).mpr a]
    exact (far_iff h2).mpr b
/-- rising lists with the same items are equal -/
theorem ris_mem {ps qs : List (Nat × Nat)} (h1 : Ris ps) (h2 : Ris qs) (h : ∀ i k, (i, k) ∈ ps ↔ (i, k) ∈ qs) : ps = qs := by
  refine ris_ext h1 h2 fun i => ?_
  cases e : far ps i with
  | some k => exact ((far_iff h2).mpr ((h i k).mp (far_mem e))).symm
  | none =>
    cases e2 : far qs i with
    | none => rfl
    | some k =>
      rw [(far_iff h1).mpr ((h i k).mpr (far_mem e2))] at e
      cases e
theorem swp_ris {ps : List (Nat × Nat)} (h : Ris ps) : Ris (ps.map swp) := List.pairwise_map.mpr (List.Pairwise.imp (fun {a b} hab => ⟨hab.2, hab.1⟩) h)
theorem swp_mem {ps : List (Nat × Nat)} {i k : Nat} : (i, k) ∈ ps.map swp ↔ (k, i) ∈ ps := by
  rw [List.mem_map]
  constructor
  · rintro ⟨⟨a, b⟩, hm, e⟩
    unfold swp at e
    injection e with e1 e2
    subst e1 e2
    exact hm
  · intro h
    exact ⟨(k, i), h, rfl⟩
theorem swp_df {ss1 ss2 : List Str} {ps : List (Nat × Nat)} (h : IsDf ss1 ss2 ps) : IsDf ss2 ss1 (ps.map swp) := by
  refine ⟨fun q hq => ?_, swp_ris h.2⟩
  obtain ⟨p, hp, rfl⟩ := List.mem_map.mp hq
  obtain ⟨a, b, c, d, s, e1, e2⟩ := h.1 p hp
  exact ⟨c, d, a, b, s, e2, e1⟩
theorem join_swp {ps qs : List (Nat × Nat)} (h1 : Ris ps) (h2 : Ris qs) : joinD (qs.map swp) (ps.map swp) = (joinD ps qs).map swp := by
  refine ris_mem (join_ris (swp_ris h2) (swp_ris h1)) (swp_ris (join_ris h1 h2)) fun i k => ?_
  rw [join_iff (swp_ris h2) (swp_ris h1), swp_mem, join_iff h1 h2]
  constructor
  · rintro ⟨j, a, b⟩
    exact ⟨j, swp_mem.mp b, swp_mem.mp a⟩
  · rintro ⟨j, a, b⟩
    exact ⟨j, swp_mem.mpr b, swp_mem.mpr a⟩
/-- within the bounds m, n -/
def Bd (m n : Nat) (ps : List (Nat × Nat)) : Prop := ∀ q, q ∈ ps → 1 ≤ q.1 ∧ q.1 ≤ m ∧ 1 ≤ q.2 ∧ q.2 ≤ n
theorem IsDf.bd {ss1 ss2 : List Str} {ps : List (Nat × Nat)} (h : IsDf ss1 ss2 ps) : Bd ss1.length ss2.length ps := fun q hq => ⟨(h.1 q hq).1, (h.1 q hq).2.1, (h.1 q hq).2.2.1, (h.1 q hq).2.2.2.1⟩
theorem over_ris {m n : Nat} {ps : List (Nat × Nat)} (h : Ris ps) (b : Bd m n ps) : Ris (ps.reverse.map (over m n)) := by
  refine List.pairwise_map.mpr (List.pairwise_reverse.mpr ?_)
  induction ps with
  | nil => exact .nil
  | cons p ps ih =>
    have h2 := List.pairwise_cons.mp h
    refine List.pairwise_cons.mpr ⟨fun q hq => ?_, ih h2.2 fun q hq => b q (List.mem_cons_of_mem _ hq)⟩
    have l := h2.1 q hq
    have b1 := b p (List.mem_cons_self ..)
    have b2 := b q (List.mem_cons_of_mem _ hq)
    exact ⟨by show m + 1 - q.1 < m + 1 - p.1; omega, by show n + 1 - q.2 < n + 1 - p.2; omega⟩
theorem over_mem {m n : Nat} {ps : List (Nat × Nat)} (b : Bd m n ps) {i k : Nat} : (i, k) ∈ ps.reverse.map (over m n) ↔ 1 ≤ i ∧ i ≤ m ∧ 1 ≤ k ∧ k ≤ n ∧ (m + 1 - i, n + 1 - k) ∈ ps := by
  rw [List.mem_map]
  constructor
  · rintro ⟨⟨a, c⟩, hm, e⟩
    have hm' := List.mem_reverse.mp hm
    have := b _ hm'
    unfold over at e
    injection e with e1 e2
    subst e1 e2
    dsimp only at this ⊢
    refine ⟨by omega, by omega, by omega, by omega, ?_⟩
    rw [show m + 1 - (m + 1 - a) = a by omega, show n + 1 - (n + 1 - c) = c by omega]
    exact hm'
  · rintro ⟨a1, a2, a3, a4, h⟩
    refine ⟨_, List.mem_reverse.mpr h, ?_⟩
    unfold over
    dsimp only
    rw [show m + 1 - (m + 1 - i) = i by omega, show n + 1 - (n + 1 - k) = k by omega]
theorem join_bd {m n l : Nat} {ps qs : List (Nat × Nat)} (b1 : Bd m n ps) (b2 : Bd n l qs) : Bd m l (joinD ps qs) := fun q hq => by
  obtain ⟨j, a, c⟩ := join_mem hq
  have x := b1 _ a
  have y := b2 _ c
  exact ⟨x.1, x.2.1, y.2.2.1, y.2.2.2⟩
theorem join_over {m n l : Nat} {ps qs : List (Nat × Nat)} (h1 : Ris ps) (h2 : Ris qs) (b1 : Bd m n ps) (b2 : Bd n l qs) :
    joinD (ps.reverse.map (over m n)) (qs.reverse.map (over n l)) = (joinD ps qs).reverse.map (over m l) := by
  refine ris_mem (join_ris (over_ris h1 b1) (over_ris h2 b2)) (over_ris (join_ris h1 h2) (join_bd b1 b2)) fun i k => ?_
  rw [join_iff (over_ris h1 b1) (over_ris h2 b2), over_mem (join_bd b1 b2), join_iff h1 h2]
  constructor
  · rintro ⟨j, a, c⟩
    obtain ⟨x1, x2, x3, x4, x5⟩ := (over_mem b1).mp a
    obtain ⟨y1, y2, y3, y4, y5⟩ := (over_mem b2).mp c
    exact ⟨x1, x2, y3, y4, _, x5, y5⟩
  · rintro ⟨x1, x2, y1, y2, j, a, c⟩
    have bj := b1 _ a
    dsimp only at bj
    refine ⟨n + 1 - j, (over_mem b1).mpr ⟨x1, x2, by omega, by omega, ?_⟩, (over_mem b2).mpr ⟨by omega, by omega, y1, y2, ?_⟩⟩
    · rw [show n + 1 - (n + 1 - j) = j by omega]; exact a
    · rw [show n + 1 - (n + 1 - j) = j by omega]; exact c
/-- a diff turned over is one of the texts turned over -/
theorem over_df {ss1 ss2 : List Str} {ps : List (Nat × Nat)} (h : IsDf ss1 ss2 ps) : IsDf ss1.reverse ss2.reverse (ps.reverse.map (over ss1.length ss2.length)) := by
  refine ⟨fun q hq => ?_, over_ris h.2 h.bd⟩
  obtain ⟨p, hp, rfl⟩ := List.mem_map.mp hq
  obtain ⟨a, b, c, d, s, e1, e2⟩ := h.1 p (List.mem_reverse.mp hp)
  unfold over
  dsimp only
  rw [List.length_reverse, List.length_reverse]
  refine ⟨by omega, by omega, by omega, by omega, s, ?_, ?_⟩
  · rw [List.getElem?_reverse (by omega), show ss1.length - 1 - (ss1.length + 1 - p.1 - 1) = p.1 - 1 by omega]; exact e1
  · rw [List.getElem?_reverse (by omega), show ss2.length - 1 - (ss2.length + 1 - p.2 - 1) = p.2 - 1 by omega]; exact e2
end XR
namespace XR
open PySem L2
theorem tup_lay : ∀ ps : List (Nat × Nat), PyData.canLayAll0 (ps.map tupD) = true ∧ PyData.depthAll (ps.map tupD) ≤ 3
  | [] => ⟨by simp [PyData.canLayAll0], by simp [PyData.depthAll]⟩
  | p :: ps => by
    obtain ⟨h1, h2⟩ := tup_lay ps
    refine ⟨by simp [PyData.canLayAll0, PyData.canLay0, tupD, h1], ?_⟩
    simp [PyData.depthAll, PyData.depth, tupD]
    omega
theorem df_lay (ps : List (Nat × Nat)) : (dfD ps).canLay0 = true ∧ SeqAt.shaped (dfD ps) = true := by
  obtain ⟨h1, h2⟩ := tup_lay ps
  have a : (dfD ps).canLay0 = true := by unfold dfD; simp only [PyData.canLay0, h1]
  refine ⟨a, ?_⟩
  unfold SeqAt.shaped
  rw [a, Bool.true_and, decide_eq_true_eq]
  have e : (dfD ps).depth = PyData.depthAll (ps.map tupD) + 1 := by unfold dfD; simp only [PyData.depth]
  omega
theorem DfV.dp {K : PySem.W.Frag} {H : Hp} {v : V} {ps : List (Nat × Nat)} (h : DfV K H v ps) : Dp K H v (dfD ps) := by
  have key : ∀ (xs : List V) (l : List (Nat × Nat)), DqAll K H xs (l.map tupD) → DpAll K H xs (l.map tupD) := by
    intro xs l
    induction l generalizing xs with
    | nil =>
      intro h
      cases h
      exact .nil
    | cons p l ih =>
      intro h
      cases h with
      | cons a b =>
        refine .cons ?_ (ih _ b)
        unfold tupD at a ⊢
        cases a with
        | tup k1 k2 =>
          obtain ⟨d1, d2, y1, y2, e3, rfl, m1, m2⟩ := k2.two rfl
          injection e3 with e3 e4
          injection e4 with e4 _
          subst e3 e4
          cases m1
          cases m2
          exact .tup k1 (.cons (.int _) (.cons (.int _) .nil))
  unfold DfV dfD at h
  cases h with
  | tup h1 h2 => exact .tup h1 (key _ _ h2)
/-- a list of words that stands -/
def LsAt (H : Hp) (x : V) (ss : List Str) : Prop := ∃ a, x = .ref a ∧ H a = some (.lst (ss.map V.str)) ∧ Wd ss ∧ ss.length ≤ 60
theorem LsAt.same {H H' : Hp} {x : V} {ss : List Str} (s : Same H H') (h : LsAt H x ss) : LsAt H' x ss := let ⟨a, e, h1, h2⟩ := h; ⟨a, e, s _ _ h1, h2⟩
theorem LsAt.t {K : PySem.W.Frag} {H : Hp} {x : V} {ss : List Str} (h : LsAt H x ss) : TxV K H x ss := by
  obtain ⟨a, rfl, h1, h2, h3⟩ := h
  exact lst_text (SqL.of h1) h2 h3
def spTR (K : PySem.W.Frag) : Sp := fun vs H Q _ => ∃ (x1 x2 x3 v1 v2 : V) (ss1 ss2 ss3 : List Str) (ps qs : List (Nat × Nat)), vs = [x1, x2, x3, v1, v2] ∧ LsAt H x1 ss1 ∧ LsAt H x2 ss2 ∧ LsAt H x3 ss3 ∧ DfV K H v1 ps ∧ IsDf ss1 ss2 ps ∧ DfV K H v2 qs ∧ IsDf ss2 ss3 qs ∧
  ∀ H', Same H H' → Q (.bl true) H'
end XR
namespace K16
open PySem L2 XR
abbrev sTR : Stmt := top 36
section
variable {P : Program} {w : World} {K : PySem.W.Frag} {mg : Str → Option Value} {base : Heap}
theorem scTR : FnScope ["_law_elder", "_law_midway", "_law_newer", "_law_one", "_law_other", "_law_due", "_law_back", "_law_over", "_law_told"] ["_law_elder", "_law_midway", "_law_newer", "_law_one", "_law_other"] (defScope sTR) := ⟨rfl, rfl, rfl, by decide +kernel, rfl, by decide +kernel, by decide +kernel⟩
theorem ok_TR {f fJ fA fO CT CD : Addr} {fd fdJ fdA fdO : FuncData} (F : Fun K "_law_turned_right" "_law_turned_right" sTR f fd)
    (FJ : Fun K "joined_diffs" "joined_diffs" sJoined fJ fdJ) (GJ : FnOk P w K mg base (L2.CX P w) 6 fJ fdJ ["old", "middle", "new", "first", "second"] (spJoined K CT CD)) (bJ : Binds K fdJ ["old", "middle", "new", "first", "second"] []) (mJ : mg "joined_diffs" = some (.ref fJ))
    (FA : Fun K "turned_about" "turned_about" sAbout fA fdA) (GA : FnOk P w K mg base CX0 6 fA fdA ["old", "new", "diff"] (spAbout K)) (bA : Binds K fdA ["old", "new", "diff"] []) (mA : mg "turned_about" = some (.ref fA))
    (FO : Fun K "turned_over" "turned_over" sOver fO fdO) (GO : FnOk P w K mg base CX0 6 fO fdO ["old", "new", "diff"] (spOver K)) (bO : Binds K fdO ["old", "new", "diff"] []) (mO : mg "turned_over" = some (.ref fO)) : FnOk P w K mg base CX0 7 f fd ["_law_elder", "_law_midway", "_law_newer", "_law_one", "_law_other"] (spTR K) := by
  refine F.ok scTR (fun vs H Q E h => ?_) (fun cdv A outer s H vs Q E hr h => ?_)
  · obtain ⟨x1, x2, x3, v1, v2, ss1, ss2, ss3, ps, qs, rfl, _⟩ := h
    rfl
  · obtain ⟨x1, x2, x3, v1, v2, ss1, ss2, ss3, ps, qs, rfl, t1, t2, t3, hv1, hd1, hv2, hd2, z⟩ := h
    have J : ∀ {a b c d e : PySem.Expr} {ta : TA} {X : Cx}, True := fun {_ _ _ _ _ _ _} => trivial
    refine ⟨_, pss_cons (ps_set (i := 5) scTR.nd rfl (.inl rfl) (pe_callS GJ hr rfl mJ FJ.kp bJ (fun σ => passF σ) (pa_cons (pv 0) (pa_cons (pv 1) (pa_cons (pv 2) (pa_cons (pv 3) (pa_cons (pv 4) pa_nil)))))))
      (pss_cons (ps_set (i := 6) scTR.nd rfl (.inl rfl) (pe_lst (pa_cons (pe_call GA hr rfl mA FA.kp bA .nil pass0 (pa_cons (pv 1) (pa_cons (pv 2) (pa_cons (pv 4) pa_nil)))) (pa_cons (pe_call GA hr rfl mA FA.kp bA .nil pass0 (pa_cons (pv 0) (pa_cons (pv 1) (pa_cons (pv 3) pa_nil)))) pa_nil))))
      (pss_cons (ps_if (pt_cmpR (op_neD hr.units) (pe_callS GJ hr rfl mJ FJ.kp bJ (fun σ => passF σ) (pa_cons (pv 2) (pa_cons (pv 1) (pa_cons (pv 0) (pa_cons (pe_ix ix_list (pv 6) pe_int (fun _ _ => rfl)) (pa_cons (pe_ix ix_list (pv 6) pe_int (fun _ _ => rfl)) pa_nil))))))
          (pe_call GA hr rfl mA FA.kp bA .nil pass0 (pa_cons (pv 0) (pa_cons (pv 2) (pa_cons (pv 5) pa_nil)))) (nomark _)) (pss_one (ps_ret pe_bl)) pss_nil)
      (pss_cons (ps_set (i := 7) scTR.nd rfl (.inl rfl) (pe_lst (pa_cons (pe_call GO hr rfl mO FO.kp bO .nil pass0 (pa_cons (pv 0) (pa_cons (pv 1) (pa_cons (pv 3) pa_nil)))) (pa_cons (pe_call GO hr rfl mO FO.kp bO .nil pass0 (pa_cons (pv 1) (pa_cons (pv 2) (pa_cons (pv 4) pa_nil)))) pa_nil))))
      (pss_cons (ps_set (i := 8) scTR.nd rfl (.inl rfl) (pe_callS GJ hr rfl mJ FJ.kp bJ (fun σ => passF σ) (pa_cons (pe_revL (pv 0)) (pa_cons (pe_revL (pv 1)) (pa_cons (pe_revL (pv 2)) (pa_cons (pe_ix ix_list (pv 7) pe_int (fun _ _ => rfl)) (pa_cons (pe_ix ix_list (pv 7) pe_int (fun _ _ => rfl)) pa_nil)))))))
      (pss_one (ps_ret (pe_cmpR (op_eqD hr.units) (pv 8) (pe_call GO hr rfl mO FO.kp bO .nil pass0 (pa_cons (pv 0) (pa_cons (pv 2) (pa_cons (pv 5) pa_nil)))) (nomark _)))))))), ?_⟩
    have hd3 := join_df hd1 hd2
    refine ⟨_, rfl, _, rfl, _, rfl, _, rfl, _, rfl, x1, x2, x3, v1, v2, rfl, .inl ⟨ss1, ss2, ss3, ps, qs, t1.t, t2.t, t3.t, hv1, hd1, hv2, hd2, fun u1 H1 s1 n1 e1 => ?_⟩⟩
    refine ⟨_, rfl, _, rfl, _, rfl, x2, x3, v2, ss2, ss3, qs, rfl, (t2.same s1).t, (t3.same s1).t, hv2.same s1, hd2, fun u2 H2 s2 n2 e2 => ?_⟩
    have s12 := s1.trans s2
    refine ⟨_, rfl, _, rfl, _, rfl, x1, x2, v1, ss1, ss2, ps, rfl, (t1.same s12).t, (t2.same s12).t, hv1.same s12, hd1, fun u3 H3 s3 n3 e3 => ⟨ll20 (by show 2 ≤ 20; decide), fun b1 nb => ?_⟩⟩
    have sb := same_upd (o := .lst [V.ref u2, V.ref u3]) nb
    have hb := upd_same (H := H3) (a := b1) (o := .lst [V.ref u2, V.ref u3])
    have s3' := s3.trans sb
    have e2' := e2.same s3'
    have e3' := e3.same sb
    have s13 := s12.trans s3'
    have e1' := e1.same (s2.trans s3')
    generalize upd H3 b1 (.lst [V.ref u2, V.ref u3]) = H4 at sb hb s3' e2' e3' s13 e1' ⊢
    refine ⟨_, rfl, _, rfl, _, rfl, _, rfl, b1, _, _, _, rfl, rfl, SqL.of hb, atI_nat (j := 0) rfl, _, rfl, b1, _, _, _, rfl, rfl, SqL.of hb, atI_nat (j := 1) rfl, x3, x2, x1, _, _, rfl, .inl ⟨ss3, ss2, ss1, qs.map swp, ps.map swp, (t3.same s13).t, (t2.same s13).t, (t1.same s13).t, e2'.v, swp_df hd2, e3'.v, swp_df hd1, fun u5 H5 s5 n5 e5 => ?_⟩⟩
    have s15 := s13.trans s5
    refine ⟨_, rfl, _, rfl, _, rfl, x1, x3, _, ss1, ss3, joinD ps qs, rfl, (t1.same s15).t, (t3.same s15).t, (e1'.same s5).v, hd3, fun u6 H6 s6 n6 e6 => ?_⟩
    have s16 := s15.trans s6
    have e5' := e5.same s6
    rw [join_swp hd1.2 hd2.2] at e5'
    refine ⟨dfD ((joinD ps qs).map swp), dfD ((joinD ps qs).map swp), e5'.v.dp, e6.v.dp, (df_lay _).2, (df_lay _).2, _, rfl, ?_⟩
    rw [SeqAt.eqv_refl _ (df_lay _).1]
    refine iteF ?_
    refine ⟨_, rfl, _, rfl, _, rfl, _, _, v1, ss1, ss2, ps, rfl, (t1.same s16).t, (t2.same s16).t, hv1.same s16, hd1, fun u7 H7 s7 n7 e7 => ?_⟩
    have s17 := s16.trans s7
    refine ⟨_, rfl, _, rfl, _, rfl, _, _, v2, ss2, ss3, qs, rfl, (t2.same s17).t, (t3.same s17).t, hv2.same s17, hd2, fun u8 H8 s8 n8 e8 => ⟨ll20 (by show 2 ≤ 20; decide), fun b2 nb2 => ?_⟩⟩
    have s18 := s17.trans s8
    have sc := same_upd (o := .lst [V.ref u7, V.ref u8]) nb2
    have hc := upd_same (H := H8) (a := b2) (o := .lst [V.ref u7, V.ref u8])
    have s19 := s18.trans sc
    have e7' := (e7.same s8).same sc
    have e8' := e8.same sc
    have e1c := ((((e1'.same s5).same s6).same s7).same s8).same sc
    generalize upd H8 b2 (.lst [V.ref u7, V.ref u8]) = H9 at sc hc s19 e7' e8' e1c ⊢
    have r1 := t1.same s19
    have r2 := t2.same s19
    have r3 := t3.same s19
    obtain ⟨a1, rfl, h1, w1, l1⟩ := id r1
    obtain ⟨a2, rfl, h2, w2, l2⟩ := id r2
    obtain ⟨a3, rfl, h3, w3, l3⟩ := id r3
    refine ⟨_, rfl, a1, _, rfl, SqL.of h1, fun p1 m1 => ?_⟩
    rw [← List.map_reverse]
    have z1 := same_upd (o := .lst (ss1.reverse.map V.str)) m1
    have g1 := upd_same (H := H9) (a := p1) (o := .lst (ss1.reverse.map V.str))
    generalize upd H9 p1 (.lst (ss1.reverse.map V.str)) = K1 at z1 g1 ⊢
    refine ⟨_, rfl, a2, _, rfl, SqL.of (z1 _ _ h2), fun p2 m2 => ?_⟩
    rw [← List.map_reverse]
    have z2 := same_upd (o := .lst (ss2.reverse.map V.str)) m2
    have g2 := upd_same (H := K1) (a := p2) (o := .lst (ss2.reverse.map V.str))
    generalize upd K1 p2 (.lst (ss2.reverse.map V.str)) = K2 at z2 g2 ⊢
    refine ⟨_, rfl, a3, _, rfl, SqL.of (z2 _ _ (z1 _ _ h3)), fun p3 m3 => ?_⟩
    rw [← List.map_reverse]
    have z3 := same_upd (o := .lst (ss3.reverse.map V.str)) m3
    have g3 := upd_same (H := K2) (a := p3) (o := .lst (ss3.reverse.map V.str))
    have g2' := z3 _ _ g2
    have g1' := z3 _ _ (z2 _ _ g1)
    have z13 := z1.trans (z2.trans z3)
    generalize upd K2 p3 (.lst (ss3.reverse.map V.str)) = K3 at z3 g3 g2' g1' z13 ⊢
    have rw1 : ∀ {ss : List Str}, Wd ss → Wd ss.reverse := fun w s hs => w s (List.mem_reverse.mp hs)
    have q1 : TxV K K3 (.ref p1) ss1.reverse := lst_text (SqL.of g1') (rw1 w1) (by rw [List.length_reverse]; exact l1)
    have q2 : TxV K K3 (.ref p2) ss2.reverse := lst_text (SqL.of g2') (rw1 w2) (by rw [List.length_reverse]; exact l2)
    have q3 : TxV K K3 (.ref p3) ss3.reverse := lst_text (SqL.of g3) (rw1 w3) (by rw [List.length_reverse]; exact l3)
    have hc3 := z13 _ _ hc
    refine ⟨_, rfl, b2, _, _, _, rfl, rfl, SqL.of hc3, atI_nat (j := 0) rfl, _, rfl, b2, _, _, _, rfl, rfl, SqL.of hc3, atI_nat (j := 1) rfl, _, _, _, _, _, rfl, .inl ⟨_, _, _, _, _, q1, q2, q3, (e7'.same z13).v, over_df hd1, (e8'.same z13).v, over_df hd2, fun u9 K4 s10 n10 e10 => ?_⟩⟩
    have s20 := s19.trans (z13.trans s10)
    rw [join_over hd1.2 hd2.2 hd1.bd hd2.bd] at e10
    refine ⟨_, rfl, _, rfl, _, rfl, _, rfl, _, _, _, ss1, ss3, joinD ps qs, rfl, (t1.same s20).t, (t3.same s20).t, ((e1c.same z13).same s10).v, hd3, fun u10 K5 s11 n11 e11 => ?_⟩
    refine ⟨_, _, (e10.same s11).v.dp, e11.v.dp, (df_lay _).2, (df_lay _).2, ?_⟩
    rw [SeqAt.eqv_refl _ (df_lay _).1]
    exact z _ (s20.trans s11)
end
end K16
/-! How long the repr of texts and diffs is. -/
namespace XR
open PySem L2
theorem sepFrom_le (B : Nat) : ∀ (ts : List Str) (k : Nat) (acc : Str), (∀ t ∈ ts, t.length ≤ B) → (textFrom k acc ts).length ≤ acc.length + ts.length * (B + 2)
  | [], k, acc, _ => by
    show acc.length ≤ acc.length + 0 * (B + 2)
    omega
  | t :: r, k, acc, h => by
    have ih := sepFrom_le B r (k + 1) (acc ++ (if k > 0 then ", " else "" : String) ++ t) fun x hx => h x (List.mem_cons_of_mem _ hx)
    have e : (acc ++ (if k > 0 then ", " else "" : String) ++ t).length ≤ acc.length + 2 + t.length := by
      rw [strLen_append, strLen_append]
      have q : (Str.ofString (if k > 0 then ", " else "")).length ≤ 2 := by
        by_cases hk : k > 0
        · rw [if_pos hk]; decide
        · rw [if_neg hk]; decide
      omega
    have ht := h t (List.mem_cons_self ..)
    show (textFrom (k + 1) _ r).length ≤ _
    rw [List.length_cons, Nat.succ_mul]
    omega
theorem shownAll_in {ds : List PyData} {t : Str} (h : t ∈ PyData.shownAll ds) : ∃ d ∈ ds, t = d.shown := by
  induction ds with
  | nil => simp [PyData.shownAll] at h
  | cons d ds ih =>
    simp only [PyData.shownAll, List.mem_cons] at h
    rcases h with rfl | h
    · exact ⟨d, List.mem_cons_self .., rfl⟩
    · obtain ⟨e, h1, h2⟩ := ih h
      exact ⟨e, List.mem_cons_of_mem _ h1, h2⟩
theorem shownAll_len : ∀ ds : List PyData, (PyData.shownAll ds).length = ds.length
  | [] => by simp [PyData.shownAll]
  | d :: ds => by simp [PyData.shownAll, shownAll_len ds]
theorem joined_le (B : Nat) : ∀ (ts : List Str), (∀ t ∈ ts, t.length ≤ B) → (Str.join ", " ts).length ≤ ts.length * (B + 2)
  | [], _ => by
    show (0 : Nat) ≤ _
    exact Nat.zero_le _
  | [x], h => by
    have := h x (List.mem_cons_self ..)
    show x.length ≤ _
    rw [List.length_cons, List.length_nil]
    omega
  | x :: y :: r, h => by
    have ih := joined_le B (y :: r) fun t ht => h t (List.mem_cons_of_mem _ ht)
    have hx := h x (List.mem_cons_self ..)
    have e2 : (Str.ofString ", ").length = 2 := by decide
    show (x ++ Str.ofString ", " ++ Str.join ", " (y :: r)).length ≤ _
    rw [strLen_append, strLen_append, e2]
    rw [List.length_cons, Nat.succ_mul]
    omega
/-- what can be shown, in at most n signs and k levels -/
structure Shw (n k : Nat) (d : PyData) : Prop where
  ok : d.showable = true
  len : d.shown.length ≤ n
  dep : d.depth ≤ k
theorem showAll_of : ∀ {ds : List PyData}, (∀ d ∈ ds, d.showable = true) → PyData.showableAll ds = true
  | [], _ => by simp [PyData.showableAll]
  | d :: ds, h => by
    simp only [PyData.showableAll, Bool.and_eq_true]
    exact ⟨h d (List.mem_cons_self ..), showAll_of fun x hx => h x (List.mem_cons_of_mem _ hx)⟩
theorem depAll_of {k : Nat} : ∀ {ds : List PyData}, (∀ d ∈ ds, d.depth ≤ k) → PyData.depthAll ds ≤ k
  | [], _ => by simp [PyData.depthAll]
  | d :: ds, h => by
    simp only [PyData.depthAll]
    exact Nat.max_le.mpr ⟨h d (List.mem_cons_self ..), depAll_of fun x hx => h x (List.mem_cons_of_mem _ hx)⟩
theorem Shw.list {n k m : Nat} {ds : List PyData} (h : ∀ d ∈ ds, Shw n k d) (l : ds.length ≤ m) : Shw (2 + m * (n + 2)) (k + 1) (.list ds) := by
  refine ⟨?_, ?_, ?_⟩
  · simp only [PyData.showable]
    exact showAll_of fun d hd => (h d hd).ok
  · simp only [PyData.shown]
    have e := sepFrom_le n (PyData.shownAll ds) 0 "[" fun t ht => by
      obtain ⟨d, hd, rfl⟩ := shownAll_in ht
      exact (h d hd).len
    have q : (listText (PyData.shownAll ds)).length = (textFrom 0 "[" (PyData.shownAll ds)).length + 1 := by
      show (textFrom 0 "[" (PyData.shownAll ds) ++ "]").length = _
      rw [strLen_append]; rfl
    have q2 : (Str.ofString "[").length = 1 := by decide
    rw [shownAll_len] at e
    have := Nat.mul_le_mul_right (n + 2) l
    omega
  · simp only [PyData.depth]
    have := depAll_of fun d hd => (h d hd).dep
    omega
theorem Shw.tuple {n k m : Nat} {ds : List PyData} (h : ∀ d ∈ ds, Shw n k d) (l : ds.length ≤ m) : Shw (3 + m * (n + 2)) (k + 1) (.tuple ds) := by
  refine ⟨?_, ?_, ?_⟩
  · simp only [PyData.showable]
    exact showAll_of fun d hd => (h d hd).ok
  · simp only [PyData.shown]
    have e := joined_le n (PyData.shownAll ds) fun t ht => by
      obtain ⟨d, hd, rfl⟩ := shownAll_in ht
      exact (h d hd).len
    have q1 : (Str.ofString "(").length = 1 := by decide
    have q2 : (Str.ofString (if (PyData.shownAll ds).length == 1 then ",)" else ")")).length ≤ 2 := by
      by_cases hk : ((PyData.shownAll ds).length == 1) = true
      · rw [if_pos hk]; decide
      · rw [if_neg hk]; decide
    unfold tupleText
    rw [strLen_append, strLen_append, q1]
    rw [shownAll_len] at e
    have := Nat.mul_le_mul_right (n + 2) l
    omega
  · simp only [PyData.depth]
    have := depAll_of fun d hd => (h d hd).dep
    omega
theorem Shw.le {n k n' k' : Nat} {d : PyData} (h : Shw n k d) (a : n ≤ n') (b : k ≤ k') : Shw n' k' d := ⟨h.ok, Nat.le_trans h.len a, Nat.le_trans h.dep b⟩
theorem shw_words : ∀ s ∈ words, (PyData.str s).showable = true ∧ (PyData.str s).shown.length ≤ 8 ∧ (PyData.str s).depth ≤ 1 := by decide +kernel
theorem shw_nums : ∀ i : Fin 61, (PyData.int ((i : Nat) : Int)).showable = true ∧ (PyData.int ((i : Nat) : Int)).shown.length ≤ 2 ∧ (PyData.int ((i : Nat) : Int)).depth ≤ 1 := by decide +kernel
theorem shw_num {i : Nat} (h : i ≤ 60) : Shw 2 1 (.int (i : Int)) := let ⟨a, b, c⟩ := shw_nums ⟨i, by omega⟩; ⟨a, b, c⟩
def lsD (ss : List Str) : PyData := .list (ss.map .str)
theorem shw_ls {ss : List Str} (w : Wd ss) (l : ss.length ≤ 60) : Shw 602 2 (lsD ss) := by
  refine Shw.list (n := 8) (k := 1) (m := 60) (fun d hd => ?_) (by rw [List.length_map]; exact l)
  obtain ⟨s, hs, rfl⟩ := List.mem_map.mp hd
  obtain ⟨a, b, c⟩ := shw_words s (w s hs)
  exact ⟨a, b, c⟩
theorem shw_tup {q : Nat × Nat} (h1 : q.1 ≤ 60) (h2 : q.2 ≤ 60) : Shw 11 2 (tupD q) := by
  refine Shw.tuple (n := 2) (k := 1) (m := 2) (fun d hd => ?_) (Nat.le_refl 2)
  simp only [List.mem_cons, List.not_mem_nil, or_false] at hd
  rcases hd with rfl | rfl
  · exact shw_num h1
  · exact shw_num h2
theorem shw_df {ss1 ss2 : List Str} {ps : List (Nat × Nat)} (h : IsDf ss1 ss2 ps) (l1 : ss1.length ≤ 60) (l2 : ss2.length ≤ 60) : Shw 783 3 (dfD ps) := by
  refine Shw.tuple (n := 11) (k := 2) (m := 60) (fun d hd => ?_) (by rw [List.length_map]; have := df_len h; omega)
  obtain ⟨q, hq, rfl⟩ := List.mem_map.mp hd
  obtain ⟨a, b, c, d, _⟩ := h.1 q hq
  exact shw_tup (by omega) (by omega)
theorem line_ge : 8000 ≤ sizeLine := by decide
end XR
/-! Calls by names alone; try with several clauses 'except C as n' of one name. -/
namespace XR
open PySem PySem.Spec L2
section
variable {X : Cx} {CX : CXT} {k : Nat} {f : Addr} {fd : FuncData} {ps ks : List Str} {sp : Sp} {E : St → XK} {x : Str} {p pos : Pos} {kws : List Keyword} {tk : TA} {g : List Value → List Value → List Value} {gV : List V → List V → List V}
/-- f(k = v, ..), nothing by its place -/
theorem pe_callKw (F : FnOk X.prog X.w X.K X.mg X.base CX k f fd ps sp) (hr : Room k X.A) (hgl : Gl X x) (hm : X.mg x = some (.ref f)) (hk : PySem.W.keepIn X.K (.ref f) = true) (kb : KBinds X.K fd ps ks g gV) (hx : ∀ σ, PassesAt CX X σ (E σ)) (hkw : PK X kws tk)
    (ok1 : (backToKw pos (keywordEach kws X.env)).all (·.1.isSome) = true := by rfl) (ok2 : (backToKw pos (keywordEach kws X.env)).filterMap (·.1) = ks := by rfl) (ok3 : (x == ("__debug__" : Str)) = false := by decide)
    (ok4 : ((backTo pos (starEach [] X.env)).any (·.1) || (backToKw pos (keywordEach kws X.env)).any (·.1.isNone)) = false := by rfl) :
    PE X (.Call (.Name x p) [] kws pos) (fun σ H Q => tk σ H fun zs H1 => sp (gV [] zs) H1 Q (E σ)) := by
  refine ⟨fun pins s σ H Q I h => wpAny_Call_Name_kw (ld_glob I hgl hm ?_ ok3)⟩
  refine PySem.W.callWith_KW0 (h₀ := X.base) I.ok.mod.kin hk ok1 (thn (hkw.run pos pins s σ H _ I h) fun ws t ⟨zs, H2, J, rz, q⟩ => ⟨J.kIn, ?_⟩) ok4
  rw [ok2]
  have r2 : Vals (gV [] zs) (g [] ws) := kb.rel .nil rz
  have hl : (g [] ws).length = ps.length := r2.length.symm.trans (F.len _ _ _ _ q)
  refine wpAny_call (codeAny_mono (F.run X.A X.stack t H2 ⟨[], ks.zip ws⟩ (g [] ws) (gV [] zs) Q (E σ) hr J.env0 (kb.to t [] ws J.kIn hl) r2 q) fun r t' hq => ?_)
  match r, hq with
  | .error e, hq => exact hx σ pins H2 t e t' J hq
  | .ok (.ret u), hq => exact J.after hq
  | .ok .next, hq => exact hq.elim
  | .ok .brk, hq => exact hq.elim
  | .ok .cont, hq => exact hq.elim
end
def turn4 {α : Type} : List α → List α → List α
  | [], [a, b, c, d] => [d, c, b, a]
  | _, _ => []
def turn5 {α : Type} : List α → List α → List α
  | [], [a, b, c, d, e] => [e, d, c, b, a]
  | _, _ => []
theorem turn4_rel {vs : List V} {us : List Value} {zs : List V} {ws : List Value} (r : Vals vs us) (t : Vals zs ws) : Vals (turn4 vs zs) (turn4 us ws) := by
  cases r with
  | cons _ _ => exact .nil
  | nil =>
    cases t with
    | nil => exact .nil
    | cons a t => cases t with
      | nil => exact .nil
      | cons b t => cases t with
        | nil => exact .nil
        | cons c t => cases t with
          | nil => exact .nil
          | cons d t => cases t with
            | nil => exact .cons d (.cons c (.cons b (.cons a .nil)))
            | cons e t => exact .nil
theorem turn5_rel {vs : List V} {us : List Value} {zs : List V} {ws : List Value} (r : Vals vs us) (t : Vals zs ws) : Vals (turn5 vs zs) (turn5 us ws) := by
  cases r with
  | cons _ _ => exact .nil
  | nil =>
    cases t with
    | nil => exact .nil
    | cons a t => cases t with
      | nil => exact .nil
      | cons b t => cases t with
        | nil => exact .nil
        | cons c t => cases t with
          | nil => exact .nil
          | cons d t => cases t with
            | nil => exact .nil
            | cons e t => cases t with
              | nil => exact .cons e (.cons d (.cons c (.cons b (.cons a .nil))))
              | cons f t => exact .nil
theorem turn4_len {us ws : List Value} (h : (turn4 us ws).length = 4) : ∃ a b c d, us = [] ∧ ws = [a, b, c, d] := by
  unfold turn4 at h
  split at h
  · exact ⟨_, _, _, _, rfl, rfl⟩
  · cases h
theorem turn5_len {us ws : List Value} (h : (turn5 us ws).length = 5) : ∃ a b c d e, us = [] ∧ ws = [a, b, c, d, e] := by
  unfold turn5 at h
  split at h
  · exact ⟨_, _, _, _, _, rfl, rfl⟩
  · cases h
section
variable {K : PySem.W.Frag} {x qual : Str} {st : Stmt} {f : Addr} {fd : FuncData} {p1 p2 p3 p4 p5 : Str}
theorem kb4 (F : Fun K x qual st f fd) (h : ∀ (kV doc pm : Value) (an : Option Addr) (cdv ct a b c d : Value), bindArgs (PySem.W.fnOf x qual (defArgs st) (defBody st) (defScope st) .none kV doc pm an cdv ct) ⟨[], [(p4, a), (p3, b), (p2, c), (p1, d)]⟩ = pure [(p1, d), (p2, c), (p3, b), (p4, a)]) :
    KBinds K fd [p1, p2, p3, p4] [p4, p3, p2, p1] turn4 turn4 := by
  obtain ⟨oc, od, kV, doc, pm, an, cdv, ct, osl, rfl, lk, hcd⟩ := F.ex
  refine ⟨fun s us ws _ hl => ?_, turn4_rel⟩
  obtain ⟨a, b, c, d, rfl, rfl⟩ := turn4_len hl
  exact .of_eq (h kV doc pm an cdv ct a b c d)
theorem kb5 (F : Fun K x qual st f fd) (h : ∀ (kV doc pm : Value) (an : Option Addr) (cdv ct a b c d e : Value), bindArgs (PySem.W.fnOf x qual (defArgs st) (defBody st) (defScope st) .none kV doc pm an cdv ct) ⟨[], [(p5, a), (p4, b), (p3, c), (p2, d), (p1, e)]⟩ = pure [(p1, e), (p2, d), (p3, c), (p4, b), (p5, a)]) :
    KBinds K fd [p1, p2, p3, p4, p5] [p5, p4, p3, p2, p1] turn5 turn5 := by
  obtain ⟨oc, od, kV, doc, pm, an, cdv, ct, osl, rfl, lk, hcd⟩ := F.ex
  refine ⟨fun s us ws _ hl => ?_, turn5_rel⟩
  obtain ⟨a, b, c, d, e, rfl, rfl⟩ := turn5_len hl
  exact .of_eq (h kV doc pm an cdv ct a b c d e)
end
/-- behind the suite of 'except C as n' the slot of n is empty -/
def freed (i : Nat) (D : Ends) : Ends := { nx := fun τ G => D.nx (τ.set i none) G, rt := D.rt, bk := fun τ G => D.bk (τ.set i none) G, ct := fun τ G => D.ct (τ.set i none) G }
abbrev Clauses := List (Value × (Addr → Value → Option Addr → TS))
/-- what the clauses, from the first one on, wish of an exception -/
def wishA (K : PySem.W.Frag) (i : Nat) (Wout : WX) (D : Ends) : Clauses → WX
  | [] => Wout
  | (c, ts) :: r => fun cls d σ H => ∃ b, PySem.W.exmOne K cls c = some b ∧ (b = true → ∀ a, H a = none → ts a cls d (freed i D) (σ.set i (some (.ref a))) H) ∧ (b = false → wishA K i Wout D r cls d σ H)
inductive ClausesOk (X : Cx) (n : Str) : List ExceptHandler → Clauses → Prop
  | nil : ClausesOk X n [] []
  | cons {x : Str} {c : Value} {ts : Addr → Value → Option Addr → TS} {st : Stmt} {sts : List Stmt} {np q : Pos} {hl : List ExceptHandler} {l : Clauses} (hc : Names X x c)
      (su : ∀ (a : Addr) (o : Obj) (cls : Value) (d : Option Addr) (pn : List (Addr × Obj)), Zc cls d o → (∃ vs, o.data = .fields vs) → PSs (X.suite a ((a, o) :: pn)) (st :: sts) (ts a cls d)) (r : ClausesOk X n hl l) :
      ClausesOk X n (.ExceptHandler (some (.Name x np)) (some n) (st :: sts) q :: hl) ((c, ts) :: l)
/-- what becomes of an exception that the clauses look at -/
def looked (X : Cx) (hl : List ExceptHandler) (Q : Flow → Shared → Prop) : Value → Shared → Prop := fun e t1 =>
  wpAny (model X.prog X.w) X.A (noteFrame e X.env) (fun _ t2 => wpAny (model X.prog X.w) X.A (setFlight e none) (fun _ t3 => wpAny (model X.prog X.w) X.A (handleBy e X.env hl) Q X.xe t3) X.xe t2) X.xe t1
section
variable {X : Cx} {body : List Stmt} {c₀ : ExceptHandler} {cl : List ExceptHandler} {l : Clauses} {pos : Pos} {tb : WX → TS} {Wout : WX} {i : Nat} {n : Str}
theorem ps_try_asMany (hs : X.stack = X.env :: X.outer) (hf : X.env.frame = some X.env.locals) (hN : X.N.Nodup) (hi : X.N[i]? = some n) (hln : X.env.kindOf n = some .local) (tk : Takes X Wout)
    (hb : ∀ (W : WX) (pn : List (Addr × Obj)) (xe : Value → Shared → Prop), Takes (X.tr pn xe) W → PySem.PassesOwn (model X.prog X.w) X.A X.env xe → PSs (X.tr pn xe) body (tb W)) (hc : ClausesOk X n (c₀ :: cl) l) :
    PS X (.Try body (c₀ :: cl) [] [] pos) (fun D σ H => tb (wishA X.K i Wout D l) D σ H) := by
  refine ⟨fun pins s σ H D I h => ?_⟩
  have ok := I.ok
  have hfr : X.A.frames = some (X.env :: X.outer) := ok.frames.trans (congrArg some hs)
  have hloc : Loc X.env.scope n := .inl hln
  refine wpAny_Try_except (wpAny_mono ((hb (wishA X.K i Wout D l) (X.pn ++ pins) (looked X (c₀ :: cl) (SP X pins D)) (fun u t xx => ?_) PySem.PassesOwn.looking).run [] s σ H D (I.toTry _) h) (fun fl t q => ?_) fun e t he => he)
  · obtain ⟨a, B, sI, pins', σ', H', cls, d, rfl, J', nb, up, sk, na, os, ag, w⟩ := xx
    have J : Inv X pins σ' H' sI := J'.ofTry ok
    rw [show (X.tr (X.pn ++ pins) (looked X (c₀ :: cl) (SP X pins D))).stack = X.env :: X.outer from hs] at sk
    show wpAny (model X.prog X.w) X.A (noteFrame (.ref a) X.env) _ _ _
    refine Sky.land Zc.steady hfr hf sk fun g3 fl3 up3 => ?_
    have J3 : Inv X pins σ' H' { t with heap := g3 } := J.landed nb fl3.1 (up.trans up3) os ag
    obtain ⟨o3, vs3, e3, z3, d3⟩ := fl3.there
    have nofr : a ∉ frs (X.env :: X.outer) := fun hm => by
      obtain ⟨_, o', e', hnf⟩ := fl3.2.2.1.mem hm
      rw [e3] at e'
      cases e'
      exact hnf _ d3
    have nL : a ≠ X.env.locals := fun z => nofr (List.mem_filterMap.mpr ⟨X.env, List.mem_cons_self, hf.trans (congrArg some z.symm)⟩)
    have nF : a ∉ X.fs := fun hm => let ⟨e, he, q⟩ := List.mem_filterMap.mp hm; nofr (List.mem_filterMap.mpr ⟨e, List.mem_cons_of_mem _ he, q⟩)
    have S3 := J3.suite e3 d3 na nL nF
    have go : ∀ {hl : List ExceptHandler} {k : Clauses}, ClausesOk X n hl k → wishA X.K i Wout D k cls d σ' H' →
        wpAny (model X.prog X.w) X.A (handleBy (.ref a) X.env hl) (SP X pins D) X.xe { t with heap := g3 } := by
      intro hl k hk
      induction hk with
      | nil =>
        intro w
        refine wpAny_handleBy_nil ?_
        obtain ⟨k1, k2, k3, oe, vs, T, oT, ts', he, hz, hd, h1, hr⟩ := id fl3
        unfold PySem.passOn
        refine wpAny_bind (wpAny_field he hd h1 ?_)
        rw [if_neg (by simp : ¬ ((Value.ref T == Value.none) = true))]
        have out : wpAny (model X.prog X.w) X.A (setFlight (.ref a) X.env.frame) (fun _ t4 => wpAny (model X.prog X.w) X.A (throw (.ref a) : Sem Flow) (SP X pins D) X.xe t4) X.xe { t with heap := g3 } := by
          rw [hf]
          exact HandSPX.setFlight_upZ fl3 fun g4 hh4 up4 => wpAny_throw (tk _ _ ⟨a, B, sI, pins, σ', H', cls, d, rfl, J, nb, (up.trans up3).trans up4, .inr (.inr (by rw [hs]; exact hh4)), na, os, ag, w⟩)
        first
          | exact wpAny_bind (wpAny_pure (wpAny_bind out))
          | exact wpAny_bind out
      | @cons x c ts st sts np q hl2 l2 hc su r ih =>
        intro w
        obtain ⟨b, hb1, yes, no⟩ := w
        refine wpAny_handleBy_cons (codeAny_handlers_test ?_) (fun q => nomatch q)
        have LT : PySem.W.Looks (model X.prog X.w) g3 (typeOf (.ref a)) cls := fun A Q E t k q => wpAny_typeOf_ref (k _ _ e3) (by rw [z3.1]; exact q)
        have test : ∀ {Q : Value → Shared → Prop} {E : Value → Shared → Prop}, Q c { t with heap := g3 } → wpAny (model X.prog X.w) (X.A.mark (some (.ref a))) (eval (.Name x np) X.env) Q E { t with heap := g3 } := fun {Q E} q => by
          obtain ⟨hg, hdb, hm | ⟨hm, hv, hnn⟩⟩ := hc
          · exact ld_glob (X := X.suite a ((a, o3) :: (X.pn ++ pins))) S3 hg hm q hdb
          · exact ld_blt (X := X.suite a ((a, o3) :: (X.pn ++ pins))) S3 hg hm hv q hnn hdb
        refine test ((PySem.W.exm_one (M := model X.prog X.w) J3.kIn LT hb1).here ?_)
        cases b with
        | false => exact ih (no rfl)
        | true =>
          refine codeAny_handlers_suite_as (HandSPX.lands_againZ fl3 fun g4 fl4 up4 => ?_)
          have J4 : Inv X pins σ' H' { t with heap := g4 } := J.landed nb fl4.1 ((up.trans up3).trans up4) os ag
          obtain ⟨o4, vs4, e4, z4, d4⟩ := fl4.there
          refine store_ok (X := X.suite a ((a, o4) :: (X.pn ++ pins))) (v := .ref a) (J4.suite e4 d4 na nL nF) hN hi hloc rfl (fun t5 S5 => ?_) (.inr hln)
          refine wpAny_mono ((su a o4 cls d (X.pn ++ pins) z4 ⟨_, d4⟩).run [] t5 _ H' _ S5 (yes rfl a na)) (fun fl t6 hsp => ?_) (fun _ _ z => z.elim)
          have gone : ∀ {σ6 : St} {H6 : Hp} {Q : Shared → Prop}, Inv (X.suite a ((a, o4) :: (X.pn ++ pins))) [] σ6 H6 t6 → (∀ t7, Inv X pins (σ6.set i none) H6 t7 → Q t7) →
              wpAny (model X.prog X.w) X.A (do bindName X.env n .none; unbindBehindTheSuite X.env n q) (fun _ t7 => Q t7) X.xe t6 := fun {σ6 H6 Q} S6 hq => gone_ok (S6.unsuite ok) hN hi hln hq
          cases fl with
          | ret u =>
            obtain ⟨v6, σ6, H6, S6, r6, q6⟩ := hsp
            exact gone S6 fun t7 J7 => ⟨_, _, _, J7, r6, q6⟩
          | next =>
            obtain ⟨σ6, H6, S6, q6⟩ := hsp
            exact gone S6 fun t7 J7 => ⟨_, _, J7, q6⟩
          | brk =>
            obtain ⟨σ6, H6, S6, q6⟩ := hsp
            exact gone S6 fun t7 J7 => ⟨_, _, J7, q6⟩
          | cont =>
            obtain ⟨σ6, H6, S6, q6⟩ := hsp
            exact gone S6 fun t7 J7 => ⟨_, _, J7, q6⟩
    exact go hc w
  · cases fl with
    | ret u =>
      obtain ⟨v, τ, G, J', r, z⟩ := q
      exact ⟨v, τ, G, J'.ofTry ok, r, z⟩
    | next =>
      obtain ⟨τ, G, J', z⟩ := q
      exact wpAny_execs_nil ⟨τ, G, J'.ofTry ok, z⟩
    | brk =>
      obtain ⟨τ, G, J', z⟩ := q
      exact ⟨τ, G, J'.ofTry ok, z⟩
    | cont =>
      obtain ⟨τ, G, J', z⟩ := q
      exact ⟨τ, G, J'.ofTry ok, z⟩
end
end XR
namespace XR
open PySem L2
def spTwoR (K : PySem.W.Frag) : Sp := fun vs H Q _ => ∃ (a1 a2 a3 t1 t2 : Addr) (ss1 ss2 ss3 : List Str) (ps qs : List (Nat × Nat)), vs = [.ref a1, .ref a2, .ref a3, .ref t1, .ref t2] ∧ LsAt H (.ref a1) ss1 ∧ LsAt H (.ref a2) ss2 ∧ LsAt H (.ref a3) ss3 ∧ DfX H t1 ps ∧ IsDf ss1 ss2 ps ∧ DfX H t2 qs ∧ IsDf ss2 ss3 qs ∧
  ∀ H', Same H H' → Q (.bl true) H'
theorem passP {X : Cx} (σ : St) : PassesAt CX0 X σ E0 := fun _ _ _ _ _ _ h => h.elim
theorem LsAt.at {H : Hp} {a : Addr} {ss : List Str} (h : LsAt H (.ref a) ss) : H a = some (.lst (ss.map V.str)) := by
  obtain ⟨b, e, h1, _⟩ := h
  cases e
  exact h1
theorem LsAt.dq {K : PySem.W.Frag} {H : Hp} {a : Addr} {ss : List Str} (h : LsAt H (.ref a) ss) : Dq K H (.ref a) (lsD ss) := .lst (SqL.of h.at) (dqStrs ss)
theorem LsAt.wd {H : Hp} {x : V} {ss : List Str} (h : LsAt H x ss) : Wd ss := let ⟨_, _, _, w, _⟩ := h; w
theorem LsAt.le {H : Hp} {x : V} {ss : List Str} (h : LsAt H x ss) : ss.length ≤ 60 := let ⟨_, _, _, _, l⟩ := h; l
theorem DfAt.updL {H : Hp} {t p : Addr} {ps : List (Nat × Nat)} {xs ys : List V} (h : DfAt H t ps) (k : H p = some (.lst xs)) : DfAt (upd H p (.lst ys)) t ps := by
  obtain ⟨rs, h1, h2⟩ := h
  refine ⟨rs, ?_, h2.updL k⟩
  rw [upd_ne (ne_of h1 k (by intro z; cases z))]
  exact h1
/-- a list made new, then changed: nothing that stood is changed -/
theorem same_new {H H1 : Hp} {p : Addr} {o o' : HO} (n : H p = none) (s : Same (upd H p o) H1) : Same H (upd H1 p o') := fun b u e => by
  rw [upd_ne (ne_of_none e n)]
  exact s _ _ (same_upd n _ _ e)
theorem isdiff_ok {K : PySem.W.Frag} {CT : Addr} {H : Hp} {x1 x2 v : V} {ss1 ss2 : List Str} {ps : List (Nat × Nat)} {Q : VK} {E : XK} (t1 : TxV K H x1 ss1) (t2 : TxV K H x2 ss2) (hv : DfV K H v ps) (h : IsDf ss1 ss2 ps) (z : ∀ H', Same H H' → Q (.bl true) H') : spIsDiff K CT [x1, x2, v] H Q E := by
  have l1 := t1.len
  obtain ⟨d1, a1, b1, rfl⟩ := t1
  obtain ⟨d2, a2, b2, rfl⟩ := t2
  have hl := df_len h
  refine ⟨x1, x2, v, d1, d2, dfD ps, rfl, a1, a2, hv, ?_, fun _ _ => ?_, BadT.none (by simp [b1, b2])⟩
  · show (ps.map tupD).length ≤ 1000
    rw [List.length_map]
    omega
  · rw [df_ok h]
    exact z
def five (ss1 ss2 ss3 : List Str) (ps qs : List (Nat × Nat)) : PyData := .list [lsD ss1, lsD ss2, lsD ss3, dfD ps, dfD qs]
theorem shw_five {ss1 ss2 ss3 : List Str} {ps qs : List (Nat × Nat)} (w1 : Wd ss1) (w2 : Wd ss2) (w3 : Wd ss3) (l1 : ss1.length ≤ 60) (l2 : ss2.length ≤ 60) (l3 : ss3.length ≤ 60) (h1 : IsDf ss1 ss2 ps) (h2 : IsDf ss2 ss3 qs) : Shw 3927 4 (five ss1 ss2 ss3 ps qs) := by
  refine Shw.list (n := 783) (k := 3) (m := 5) (fun d hd => ?_) (Nat.le_refl 5)
  simp only [List.mem_cons, List.not_mem_nil, or_false] at hd
  rcases hd with rfl | rfl | rfl | rfl | rfl
  · exact (shw_ls w1 l1).le (by decide) (by decide)
  · exact (shw_ls w2 l2).le (by decide) (by decide)
  · exact (shw_ls w3 l3).le (by decide) (by decide)
  · exact shw_df h1 l1 l2
  · exact shw_df h2 l2 l3
theorem Shw.line {n k : Nat} {d : PyData} (h : Shw n k d) (hn : n ≤ 8000) : d.shown.length ≤ sizeLine := Nat.le_trans h.len (Nat.le_trans hn line_ge)
theorem Shw.low {n k : Nat} {d : PyData} (h : Shw n k d) (hk : k ≤ 60) : d.depth ≤ 60 := Nat.le_trans h.dep hk
theorem dq_five {K : PySem.W.Frag} {H : Hp} {p a1 a2 a3 t1 t2 : Addr} {ss1 ss2 ss3 : List Str} {ps qs : List (Nat × Nat)} (h : H p = some (.lst [.ref a1, .ref a2, .ref a3, .ref t1, .ref t2])) (k1 : LsAt H (.ref a1) ss1) (k2 : LsAt H (.ref a2) ss2) (k3 : LsAt H (.ref a3) ss3) (k4 : DfV K H (.ref t1) ps) (k5 : DfV K H (.ref t2) qs) : Dq K H (.ref p) (five ss1 ss2 ss3 ps qs) :=
  .lst (SqL.of h) (.cons k1.dq (.cons k2.dq (.cons k3.dq (.cons k4 (.cons k5 .nil)))))
def twice (ps : List (Nat × Nat)) : PyData := .list [dfD ps, dfD ps]
theorem shw_twice {ss1 ss2 : List Str} {ps : List (Nat × Nat)} (h : IsDf ss1 ss2 ps) (l1 : ss1.length ≤ 60) (l2 : ss2.length ≤ 60) : Shw 1572 4 (twice ps) := by
  refine Shw.list (n := 783) (k := 3) (m := 2) (fun d hd => ?_) (Nat.le_refl 2)
  simp only [List.mem_cons, List.not_mem_nil, or_false] at hd
  rcases hd with rfl | rfl <;> exact shw_df h l1 l2
theorem dq_twice {K : PySem.W.Frag} {H : Hp} {p : Addr} {x y : V} {ps : List (Nat × Nat)} (h : H p = some (.lst [x, y])) (k1 : DfV K H x ps) (k2 : DfV K H y ps) : Dq K H (.ref p) (twice ps) := .lst (SqL.of h) (.cons k1 (.cons k2 .nil))
theorem dp_twice {K : PySem.W.Frag} {H : Hp} {p : Addr} {x y : V} {ps : List (Nat × Nat)} (h : H p = some (.lst [x, y])) (k1 : DfV K H x ps) (k2 : DfV K H y ps) : Dp K H (.ref p) (twice ps) := .lst (SqL.of h) (.cons k1.dp (.cons k2.dp .nil))
theorem lay_twice (ps : List (Nat × Nat)) : (twice ps).canLay0 = true ∧ SeqAt.shaped (twice ps) = true := by
  obtain ⟨h1, h2⟩ := df_lay ps
  have h3 := SeqAt.depth_of_shaped h2
  obtain ⟨_, h4⟩ := tup_lay ps
  have e : (dfD ps).depth ≤ 4 := by unfold dfD; simp only [PyData.depth]; omega
  have a : (twice ps).canLay0 = true := by unfold twice; simp only [PyData.canLay0, PyData.canLayAll0, h1, Bool.and_self]
  refine ⟨a, ?_⟩
  unfold SeqAt.shaped
  rw [a, Bool.true_and, decide_eq_true_eq]
  unfold twice
  simp only [PyData.depth, PyData.depthAll]
  omega
def farD (ps : List (Nat × Nat)) (i : Nat) : PyData := match far ps i with
  | some k => .int (k : Int)
  | none => .none
theorem dq_far {K : PySem.W.Frag} {H : Hp} (ps : List (Nat × Nat)) (i : Nat) : Dq K H (farV ps i) (farD ps i) := by
  unfold farV farD
  cases far ps i with
  | none => exact .non
  | some k => exact .int _
theorem shw_far {ss1 ss2 : List Str} {ps : List (Nat × Nat)} (h : IsDf ss1 ss2 ps) (l2 : ss2.length ≤ 60) (i : Nat) : Shw 4 1 (farD ps i) := by
  unfold farD
  cases e : far ps i with
  | none => exact ⟨by decide +kernel, by decide +kernel, by decide +kernel⟩
  | some k =>
    have := (h.1 _ (far_mem e)).2.2.2.1
    exact (shw_num (show k ≤ 60 by omega)).le (by decide) (by decide)
theorem id_df (ss : List Str) : IsDf ss ss (idD ss.length) := by
  refine ⟨fun q hq => ?_, ?_⟩
  · unfold idD at hq
    obtain ⟨k, hk, rfl⟩ := List.mem_map.mp hq
    have := List.mem_range.mp hk
    exact ⟨by show 1 ≤ k + 1; omega, by show k + 1 ≤ _; omega, by show 1 ≤ k + 1; omega, by show k + 1 ≤ _; omega, ss[k], List.getElem?_eq_getElem this, List.getElem?_eq_getElem this⟩
  · unfold idD
    rw [List.pairwise_map]
    exact List.Pairwise.imp (fun {a b} h => ⟨by show a + 1 < b + 1; omega, by show a + 1 < b + 1; omega⟩) List.pairwise_lt_range
theorem far_both {ps qs : List (Nat × Nat)} (h1 : Ris ps) (h2 : Ris qs) {i j : Nat} (e : far ps i = some j) : farV (joinD ps qs) i = farV qs j := by
  unfold farV
  rw [far_join h1 h2, e]
  rfl
theorem far_gone {ps qs : List (Nat × Nat)} (h1 : Ris ps) (h2 : Ris qs) {i : Nat} (e : far ps i = none) : farV (joinD ps qs) i = .non := by
  unfold farV
  rw [far_join h1 h2, e]
  rfl
end XR
namespace K16
open PySem L2 XR
abbrev sTwoR : Stmt := top 35
section
variable {P : Program} {w : World} {K : PySem.W.Frag} {mg : Str → Option Value} {base : Heap}
theorem scTwoR : FnScope ["_law_elder", "_law_midway", "_law_newer", "_law_one", "_law_other", "_law_due", "_law_shown", "_law_told", "_law_k", "_law_near_here", "_law_far"] ["_law_elder", "_law_midway", "_law_newer", "_law_one", "_law_other"] (defScope sTwoR) := ⟨rfl, rfl, rfl, by decide +kernel, rfl, by decide +kernel, by decide +kernel⟩
/-- the package's functions, as the law calls them -/
structure Pkg (P : Program) (w : World) (K : PySem.W.Frag) (mg : Str → Option Value) (base : Heap) (CT CD fJ fA fO fP fI : Addr) (fdJ fdA fdO fdP fdI : FuncData) : Prop where
  FJ : Fun K "joined_diffs" "joined_diffs" sJoined fJ fdJ
  GJ : FnOk P w K mg base (L2.CX P w) 6 fJ fdJ ["old", "middle", "new", "first", "second"] (spJoined K CT CD)
  bJ : Binds K fdJ ["old", "middle", "new", "first", "second"] []
  kJ : KBinds K fdJ ["old", "middle", "new", "first", "second"] ["second", "first", "new", "middle", "old"] turn5 turn5
  mJ : mg "joined_diffs" = some (.ref fJ)
  FA : Fun K "turned_about" "turned_about" sAbout fA fdA
  GA : FnOk P w K mg base CX0 6 fA fdA ["old", "new", "diff"] (spAbout K)
  bA : Binds K fdA ["old", "new", "diff"] []
  mA : mg "turned_about" = some (.ref fA)
  FO : Fun K "turned_over" "turned_over" sOver fO fdO
  GO : FnOk P w K mg base CX0 6 fO fdO ["old", "new", "diff"] (spOver K)
  bO : Binds K fdO ["old", "new", "diff"] []
  mO : mg "turned_over" = some (.ref fO)
  FP : Fun K "partner_of" "partner_of" sPartner fP fdP
  GP : FnOk P w K mg base CX0 6 fP fdP ["old", "new", "diff", "i"] (spPartner K)
  bP : Binds K fdP ["old", "new", "diff", "i"] []
  kP : KBinds K fdP ["old", "new", "diff", "i"] ["i", "diff", "new", "old"] turn4 turn4
  mP : mg "partner_of" = some (.ref fP)
  FI : Fun K "is_diff" "is_diff" sIsDiff fI fdI
  GI : FnOk P w K mg base (L2.CX P w) 4 fI fdI ["old", "new", "value"] (spIsDiff K CT)
  bI : Binds K fdI ["old", "new", "value"] []
  mI : mg "is_diff" = some (.ref fI)
def Blt.repr {mg : Str → Option Value} (T : Blt mg) : mg "repr" = none := T.all _ (by decide)
def Blt.tuple {mg : Str → Option Value} (T : Blt mg) : mg "tuple" = none := T.all _ (by decide)
theorem ok_twoR {f fS fL CT CD fJ fA fO fP fI : Addr} {fd fdS fdL fdJ fdA fdO fdP fdI : FuncData} (F : Fun K "_law_two_right" "_law_two_right" sTwoR f fd) (T : Blt mg) (G : Pkg P w K mg base CT CD fJ fA fO fP fI fdJ fdA fdO fdP fdI)
    (FS : Fun K "_law_same" "_law_same" sSame fS fdS) (GS : FnOk P w K mg base CX0 1 fS fdS ["_law_lines"] (spSame K)) (bS : Binds K fdS ["_law_lines"] []) (mS : mg "_law_same" = some (.ref fS))
    (FL : Fun K "_law_joined" "_law_joined" sLawJ fL fdL) (GL : FnOk P w K mg base CX0 1 fL fdL ["_law_elder", "_law_one", "_law_other"] spLawJ) (bL : Binds K fdL ["_law_elder", "_law_one", "_law_other"] []) (mL : mg "_law_joined" = some (.ref fL)) :
    FnG P w K mg base 7 f fd ["_law_elder", "_law_midway", "_law_newer", "_law_one", "_law_other"] (spTwoR K) := by
  refine okG F scTwoR (fun vs H Q E h => ?_) (fun cdv A outer s H vs Q E hr hg h => ?_)
  · obtain ⟨a1, a2, a3, t1, t2, ss1, ss2, ss3, ps, qs, rfl, _⟩ := h
    rfl
  · obtain ⟨a1, a2, a3, t1, t2, ss1, ss2, ss3, ps, qs, rfl, k1, k2, k3, x1, d1, x2, d2, z⟩ := h
    have hr1 := hr.mono (show 1 ≤ 6 by decide)
    have hr4 := hr.mono (show 4 ≤ 6 by decide)
    refine ⟨_, pss_cons (ps_par (i := 5) (j := 6) rfl scTwoR.nd rfl rfl (by decide) rfl rfl (pa_cons (pe_call GL hr1 rfl mL FL.kp bL .nil pass0 (pa_cons (pv 0) (pa_cons (pv 3) (pa_cons (pv 4) pa_nil))))
          (pa_cons (pe_callB (call_reprQ hg hr.units) (by rfl) T.repr (by decide +kernel) (pa_cons (pe_lst (pa_cons (pv 0) (pa_cons (pv 1) (pa_cons (pv 2) (pa_cons (pv 3) (pa_cons (pv 4) pa_nil)))))) pa_nil)) pa_nil)) rfl)
      (pss_cons (ps_set (i := 7) scTwoR.nd rfl (.inl rfl) (pe_lst (pa_cons (pe_callS G.GJ hr rfl G.mJ G.FJ.kp G.bJ (fun σ => passF σ) (pa_cons (pv 0) (pa_cons (pv 1) (pa_cons (pv 2) (pa_cons (pv 3) (pa_cons (pv 4) pa_nil)))))) pa_nil)))
      (pss_cons (ps_expr (pe_bm PySem.F.plainAttrs_list PySem.F.slot_list_append PySem.F.type_list_append mt_append (pv 7) (pa_cons (pe_callKw G.GJ hr rfl G.mJ G.FJ.kp G.kJ (fun σ => passF σ)
          (pk_cons (pv 4) (pk_cons (pv 3) (pk_cons (pv 2) (pk_cons (pe_callTy call_tuple_of (by rfl) T.tuple (by decide +kernel) (pa_cons (pv 1) pa_nil)) (pk_cons (pv 0) pk_nil)))))) pa_nil)))
      (pss_cons (ps_if (PW.pt (pw_or (pt_cmpR op_ne (pe_callB (call_reprQ hg hr.units) (by rfl) T.repr (by decide +kernel) (pa_cons (pv 7) pa_nil)) (pe_callB (call_reprQ hg hr.units) (by rfl) T.repr (by decide +kernel) (pa_cons (pe_lst (pa_cons (pv 5) (pa_cons (pv 5) pa_nil))) pa_nil)) (nomark _))
          (pw_or1 (pt_not (pt_val (pe_callS G.GI hr4 rfl G.mI G.FI.kp G.bI (fun σ => passF σ) (pa_cons (pv 0) (pa_cons (pv 2) (pa_cons (pv 5) pa_nil))))))))) (pss_one (ps_ret pe_bl)) pss_nil)
      (pss_cons (ps_for PassesOwn.never rfl (pi_range1 rfl T.range (pa_cons (pe_callB call_len_seq (by rfl) T.len PySem.boot_len (pa_cons (pv 0) pa_nil)) pa_nil)) (pg_name (i := 8) scTwoR.nd rfl (.inl rfl))
        (pss_cons (ps_set (i := 9) scTwoR.nd rfl (.inl rfl) (pe_callKw G.GP hr rfl G.mP G.FP.kp G.kP (fun σ => passP σ) (pk_cons (pe_op op_add (pv 8) pe_int) (pk_cons (pv 3) (pk_cons (pv 1) (pk_cons (pv 0) pk_nil))))))
        (pss_cons (ps_set (i := 10) scTwoR.nd rfl (.inl rfl) (pe_ifExp (pt_cmp (pc_isN (pv 9))) pe_non (pe_call G.GP hr rfl G.mP G.FP.kp G.bP .nil pass0 (pa_cons (pv 1) (pa_cons (pv 2) (pa_cons (pv 4) (pa_cons (pv 9) pa_nil)))))))
        (pss_one (ps_if (pt_cmpR op_ne (pe_callB (call_reprQ hg hr.units) (by rfl) T.repr (by decide +kernel) (pa_cons (pe_call G.GP hr rfl G.mP G.FP.kp G.bP .nil pass0 (pa_cons (pv 0) (pa_cons (pv 2) (pa_cons (pv 5) (pa_cons (pe_op op_add (pv 8) pe_int) pa_nil))))) pa_nil))
          (pe_callB (call_reprQ hg hr.units) (by rfl) T.repr (by decide +kernel) (pa_cons (pv 10) pa_nil)) (nomark _)) (pss_one (ps_ret pe_bl)) pss_nil)))))
      (pss_cons (ps_set (i := 7) scTwoR.nd rfl (.inl rfl) (pe_lst (pa_cons (pe_callS G.GJ hr rfl G.mJ G.FJ.kp G.bJ (fun σ => passF σ) (pa_cons (pv 0) (pa_cons (pv 0) (pa_cons (pv 1) (pa_cons (pe_call GS hr1 rfl mS FS.kp bS .nil pass0 (pa_cons (pv 0) pa_nil)) (pa_cons (pv 3) pa_nil)))))) pa_nil)))
      (pss_cons (ps_expr (pe_bm PySem.F.plainAttrs_list PySem.F.slot_list_append PySem.F.type_list_append mt_append (pv 7) (pa_cons (pe_callS G.GJ hr rfl G.mJ G.FJ.kp G.bJ (fun σ => passF σ) (pa_cons (pv 0) (pa_cons (pv 1) (pa_cons (pv 1) (pa_cons (pv 3) (pa_cons (pe_call GS hr1 rfl mS FS.kp bS .nil pass0 (pa_cons (pv 1) pa_nil)) pa_nil)))))) pa_nil)))
      (pss_one (ps_ret (pe_and (pe_cmpR (op_eqD hr.units) (pv 7) (pe_lst (pa_cons (pv 3) (pa_cons (pv 3) pa_nil))) (nomark _)) (pe_one (pe_cmpR op_eq (pv 6)
          (pe_callB (call_reprQ hg hr.units) (by rfl) T.repr (by decide +kernel) (pa_cons (pe_lst (pa_cons (pv 0) (pa_cons (pv 1) (pa_cons (pv 2) (pa_cons (pv 3) (pa_cons (pv 4) pa_nil)))))) pa_nil)) (nomark _)))))))))))), ?_⟩
    have w1 := k1.wd
    have w2 := k2.wd
    have w3 := k3.wd
    have l1 := k1.le
    have l2 := k2.le
    have l3 := k3.le
    have dJ := join_df d1 d2
    have S5 := shw_five w1 w2 w3 l1 l2 l3 d1 d2
    refine ⟨_, rfl, _, rfl, _, rfl, .ref a1, t1, t2, ss1, ss2, ss3, ps, qs, rfl, ⟨a1, rfl, k1.at⟩, l1, x1, d1, x2, d2, fun due G1 s1 n1 e1 => ?_⟩
    refine ⟨_, rfl, _, rfl, _, rfl, _, rfl, _, rfl, ll20 (by show 5 ≤ 20; decide), fun p0 n0 => ?_⟩
    have sp0 := same_upd (o := .lst [V.ref a1, V.ref a2, V.ref a3, V.ref t1, V.ref t2]) n0
    have s2 := s1.trans sp0
    have e2 := e1.same sp0
    have hp0 := upd_same (H := G1) (a := p0) (o := .lst [V.ref a1, V.ref a2, V.ref a3, V.ref t1, V.ref t2])
    generalize upd G1 p0 (.lst [V.ref a1, V.ref a2, V.ref a3, V.ref t1, V.ref t2]) = G2 at sp0 s2 e2 hp0 ⊢
    refine ⟨_, five ss1 ss2 ss3 ps qs, rfl, dq_five hp0 (k1.same s2) (k2.same s2) (k3.same s2) (x1.same s2).v (x2.same s2).v, S5.ok, S5.line (by decide), S5.low (by decide), ?_⟩
    refine ⟨_, _, rfl, _, rfl, _, rfl, _, rfl, _, rfl, _, rfl, .ref a1, .ref a2, .ref a3, .ref t1, .ref t2, rfl, .inl ⟨ss1, ss2, ss3, ps, qs, (k1.same s2).t, (k2.same s2).t, (k3.same s2).t, (x1.same s2).v, d1, (x2.same s2).v, d2, fun u1 G3 s3 n3 e3 => ⟨ll20 (by show 1 ≤ 20; decide), fun b1 nb => ?_⟩⟩⟩
    have s23 := s2.trans s3
    have e23 := e2.same s3
    have N : ∀ G', Same (upd G3 b1 (.lst [V.ref u1])) G' → ∀ o', Same G3 (upd G' b1 o') := fun G' s o' => same_new nb s
    have sb := same_upd (o := .lst [V.ref u1]) nb
    have hb := upd_same (H := G3) (a := b1) (o := .lst [V.ref u1])
    generalize upd G3 b1 (.lst [V.ref u1]) = G4 at N sb hb ⊢
    have s4 := s23.trans sb
    refine ⟨_, rfl, .inl ⟨rfl, _, SqL.of hb⟩, _, rfl, _, rfl, _, rfl, _, rfl, a2, _, rfl, .inl ⟨SqL.of (k2.same s4).at, fun um nm => ?_⟩⟩
    have sm := same_upd (o := .tup (ss2.map V.str)) nm
    have hm := upd_same (H := G4) (a := um) (o := .tup (ss2.map V.str))
    generalize upd G4 um (.tup (ss2.map V.str)) = G5 at sm hm ⊢
    have s5 := s4.trans sm
    refine ⟨_, rfl, .ref a1, .ref um, .ref a3, .ref t1, .ref t2, rfl, .inl ⟨ss1, ss2, ss3, ps, qs, (k1.same s5).t, tup_text (.inl (.inl hm)) w2 l2, (k3.same s5).t, (x1.same s5).v, d1, (x2.same s5).v, d2, fun u2 G6 s6 n6 e6 => ?_⟩⟩
    have hb6 := s6 _ _ (sm _ _ hb)
    refine ⟨b1, _, _, rfl, rfl, hb6, by show 1 < sizeLine; decide, ?_⟩
    have s36 := N G6 (sm.trans s6) (.lst ([V.ref u1] ++ [V.ref u2]))
    have e7 := e6.updL (ys := [V.ref u1] ++ [V.ref u2]) hb6
    have hb7 := upd_same (H := G6) (a := b1) (o := .lst ([V.ref u1] ++ [V.ref u2]))
    generalize upd G6 b1 (.lst ([V.ref u1] ++ [V.ref u2])) = G7 at s36 e7 hb7 ⊢
    have s7 := s23.trans s36
    have e37 := e3.same s36
    have e27 := e23.same s36
    clear N sb hb s4 sm hm s5 s6 n6 e6 hb6 nb nm
    have ST := shw_twice dJ l1 l3
    refine ⟨_, rfl, _, twice (joinD ps qs), rfl, dq_twice hb7 e37.v e7.v, ST.ok, ST.line (by decide), ST.low (by decide), ?_⟩
    refine ⟨_, rfl, _, rfl, ll20 (by show 2 ≤ 20; decide), fun p8 n8 => ?_⟩
    have s8' := same_upd (o := .lst [V.ref due, V.ref due]) n8
    have hp8 := upd_same (H := G7) (a := p8) (o := .lst [V.ref due, V.ref due])
    generalize upd G7 p8 (.lst [V.ref due, V.ref due]) = G8 at s8' hp8 ⊢
    have s8 := s7.trans s8'
    have e8 := e27.same s8'
    refine ⟨_, twice (joinD ps qs), rfl, dq_twice hp8 e8.v e8.v, ST.ok, ST.line (by decide), ST.low (by decide), rfl, _, rfl, ?_⟩
    have nb : ∀ v : V, (!decide (v = v)) = false := fun v => by rw [decide_eq_true rfl]; rfl
    rw [nb]
    refine iteF ⟨_, rfl, _, rfl, _, rfl, ?_⟩
    dsimp only [tNil]
    refine isdiff_ok (k1.same s8).t (k3.same s8).t e8.v dJ fun G9 s9' => ⟨true, rfl, iteF ?_⟩
    have s9 := s8.trans s9'
    have e9 := e8.same s9'
    refine ⟨_, rfl, a1, _, rfl, .inl (SqL.of (k1.same s9).at), ?_⟩
    rw [List.length_map]
    refine ⟨_, rfl, by omega, by omega, ?_⟩
    rw [Int.toNat_natCast]
    refine for_range (n := ss1.length) (fun k σ H' => Same G9 H' ∧ ∃ x8 x9 x10, σ = [some (V.ref a1), some (V.ref a2), some (V.ref a3), some (V.ref t1), some (V.ref t2), some (V.ref due), some (V.str (five ss1 ss2 ss3 ps qs).shown), some (V.ref b1), x8, x9, x10]) ⟨fun _ _ h => h, _, _, _, rfl⟩ ?_ ?_
    · rintro k σ H' hk ⟨sm, y8, y9, y10, rfl⟩
      have ek : (0 + (k : Int) + 1) = ((k + 1 : Nat) : Int) := by omega
      have q := s9.trans sm
      refine ⟨_, rfl, _, _, rfl, rfl, _, rfl, _, rfl, _, rfl, .ref a1, .ref a2, .ref t1, ss1, ss2, ps, k + 1, by rw [← ek]; rfl, (k1.same q).t, (k2.same q).t, (x1.same q).v, d1, by omega, by omega, fun Ha sa => ?_⟩
      have SF := shw_far dJ l3 (k + 1)
      have qa := q.trans sa
      cases ef : far ps (k + 1) with
      | none =>
        have e1 : farV ps (k + 1) = .non := by unfold farV; rw [ef]
        have hy := far_gone d1.2 d2.2 ef
        have q2 := qa
        have sm2 := sm.trans sa
        rw [e1]
        refine ⟨_, rfl, _, rfl, ?_⟩
        rw [decide_eq_true rfl]
        refine iteT ?_
        rw [← hy]
        refine ⟨_, rfl, _, rfl, _, rfl, _, rfl, _, _, rfl, rfl, .ref a1, .ref a3, .ref due, ss1, ss3, joinD ps qs, k + 1, by rw [← ek]; rfl, (k1.same q2).t, (k3.same q2).t, (e9.same sm2).v, dJ, by omega, by omega, fun Hc sc => ?_⟩
        have q3 := q2.trans sc
        refine ⟨_, farD (joinD ps qs) (k + 1), rfl, dq_far _ _, SF.ok, SF.line (by decide), SF.low (by decide), _, rfl, _, farD (joinD ps qs) (k + 1), rfl, dq_far _ _, SF.ok, SF.line (by decide), SF.low (by decide), rfl, _, rfl, ?_⟩
        rw [nb]
        exact iteF ⟨sm2.trans sc, _, _, _, rfl⟩
      | some j =>
        have e1 : farV ps (k + 1) = .int (j : Int) := by unfold farV; rw [ef]
        have hy := far_both d1.2 d2.2 ef
        obtain ⟨_, _, j1, j2, _⟩ := d1.1 _ (far_mem ef)
        rw [e1]
        refine ⟨_, rfl, _, rfl, ?_⟩
        rw [decide_eq_false (by intro z; cases z)]
        refine iteF ⟨_, rfl, _, rfl, _, rfl, _, rfl, .ref a2, .ref a3, .ref t2, ss2, ss3, qs, j, rfl, (k2.same qa).t, (k3.same qa).t, (x2.same qa).v, d2, j1, j2, fun Hb sb => ?_⟩
        have q2 := qa.trans sb
        have sm2 := (sm.trans sa).trans sb
        rw [← hy]
        refine ⟨_, rfl, _, rfl, _, rfl, _, rfl, _, _, rfl, rfl, .ref a1, .ref a3, .ref due, ss1, ss3, joinD ps qs, k + 1, by rw [← ek]; rfl, (k1.same q2).t, (k3.same q2).t, (e9.same sm2).v, dJ, by omega, by omega, fun Hc sc => ?_⟩
        have q3 := q2.trans sc
        refine ⟨_, farD (joinD ps qs) (k + 1), rfl, dq_far _ _, SF.ok, SF.line (by decide), SF.low (by decide), _, rfl, _, farD (joinD ps qs) (k + 1), rfl, dq_far _ _, SF.ok, SF.line (by decide), SF.low (by decide), rfl, _, rfl, ?_⟩
        rw [nb]
        exact iteF ⟨sm2.trans sc, _, _, _, rfl⟩
    · rintro σ Ga ⟨sm, y8, y9, y10, rfl⟩
      have sa := s9.trans sm
      refine ⟨_, rfl, _, rfl, _, rfl, _, rfl, .ref a1, ss1, rfl, (k1.same sa).t.a, l1, fun i1 Gb sb nb1 eb => ?_⟩
      have s10 := sa.trans sb
      refine ⟨_, rfl, .ref a1, .ref a1, .ref a2, .ref i1, .ref t1, rfl, .inl ⟨ss1, ss1, ss2, idD ss1.length, ps, (k1.same s10).t, (k1.same s10).t, (k2.same s10).t, eb.v, id_df ss1, (x1.same s10).v, d1, fun u1 G3 s3 n3 e3 => ⟨ll20 (by show 1 ≤ 20; decide), fun b2 nb2 => ?_⟩⟩⟩
      have s13 := s10.trans s3
      rw [join_id_left d1] at e3
      have N : ∀ G', Same (upd G3 b2 (.lst [V.ref u1])) G' → ∀ o', Same G3 (upd G' b2 o') := fun G' s o' => same_new nb2 s
      have sx := same_upd (o := .lst [V.ref u1]) nb2
      have hx := upd_same (H := G3) (a := b2) (o := .lst [V.ref u1])
      generalize upd G3 b2 (.lst [V.ref u1]) = G4 at N sx hx ⊢
      have s14 := s13.trans sx
      refine ⟨_, rfl, .inl ⟨rfl, _, SqL.of hx⟩, _, rfl, _, rfl, _, rfl, _, rfl, _, rfl, .ref a2, ss2, rfl, (k2.same s14).t.a, l2, fun i2 G5 s5 n5 e5 => ?_⟩
      have s15 := s14.trans s5
      refine ⟨.ref a1, .ref a2, .ref a2, .ref t1, .ref i2, rfl, .inl ⟨ss1, ss2, ss2, ps, idD ss2.length, (k1.same s15).t, (k2.same s15).t, (k2.same s15).t, (x1.same s15).v, d1, e5.v, id_df ss2, fun u2 G6 s6 n6 e6 => ?_⟩⟩
      rw [join_id_right d1] at e6
      have hx6 := s6 _ _ (s5 _ _ hx)
      refine ⟨b2, _, _, rfl, rfl, hx6, by show 1 < sizeLine; decide, ?_⟩
      have s36 := N G6 (s5.trans s6) (.lst ([V.ref u1] ++ [V.ref u2]))
      have e7 := e6.updL (ys := [V.ref u1] ++ [V.ref u2]) hx6
      have hx7 := upd_same (H := G6) (a := b2) (o := .lst ([V.ref u1] ++ [V.ref u2]))
      generalize upd G6 b2 (.lst ([V.ref u1] ++ [V.ref u2])) = G7 at s36 e7 hx7 ⊢
      have s17 := s13.trans s36
      have e37 := e3.same s36
      refine ⟨_, rfl, _, rfl, _, rfl, ll20 (by show 2 ≤ 20; decide), fun p8 n8 => ?_⟩
      have s8' := same_upd (o := .lst [V.ref t1, V.ref t1]) n8
      have hp8 := upd_same (H := G7) (a := p8) (o := .lst [V.ref t1, V.ref t1])
      generalize upd G7 p8 (.lst [V.ref t1, V.ref t1]) = G8 at s8' hp8 ⊢
      have s18 := s17.trans s8'
      have v1 : DfV K G8 (.ref t1) ps := (x1.same s18).v
      refine ⟨twice ps, twice ps, dp_twice (s8' _ _ hx7) (e37.same s8').v (e7.same s8').v, dp_twice hp8 v1 v1, (lay_twice _).2, (lay_twice _).2, _, rfl, ?_⟩
      rw [SeqAt.eqv_refl _ (lay_twice ps).1]
      refine iteT ⟨_, rfl, _, rfl, _, rfl, _, rfl, _, rfl, _, rfl, ll20 (by show 5 ≤ 20; decide), fun p9 n9 => ?_⟩
      have s9'' := same_upd (o := .lst [V.ref a1, V.ref a2, V.ref a3, V.ref t1, V.ref t2]) n9
      have hp9 := upd_same (H := G8) (a := p9) (o := .lst [V.ref a1, V.ref a2, V.ref a3, V.ref t1, V.ref t2])
      have s19 := s18.trans s9''
      refine ⟨_, five ss1 ss2 ss3 ps qs, rfl, dq_five hp9 (k1.same s19) (k2.same s19) (k3.same s19) (x1.same s19).v (x2.same s19).v, S5.ok, S5.line (by decide), S5.low (by decide), rfl, ?_⟩
      rw [decide_eq_true rfl]
      exact z _ s19
end
end K16
namespace XR
open PySem L2
def tellD (w : Str) (d : PyData) : PyData := .list [.str w, d]
/-- what is told of what was refused, from a heap on -/
def Told (w : Str) (d : PyData) (H : Hp) (Q : VK) : Prop := Shw 4000 4 d ∧ ∀ H', Same H H' → Q (.str (tellD w d).shown) H'
/-- _law_met, for what is refused -/
def spMet (K : PySem.W.Frag) : Sp := fun vs H Q _ => ∃ (x1 x2 x3 v1 v2 : V), vs = [x1, x2, x3, v1, v2] ∧
  ((∃ d1 d2 d3 : PyData, Dq K H x1 d1 ∧ Dq K H x2 d2 ∧ Dq K H x3 d3 ∧ ([d1, d2, d3] : List PyData).all isText = false ∧
      (∀ (i : Nat) (d : PyData), ([d1, d2, d3] : List PyData)[i]? = some d → isText d = false → (∀ d', d' ∈ ([d1, d2, d3] : List PyData).take i → isText d' = true) → Told "text" d H Q)) ∨
   (∃ (ss1 ss2 ss3 : List Str) (dv : PyData), TxV K H x1 ss1 ∧ TxV K H x2 ss2 ∧ TxV K H x3 ss3 ∧ Dq K H v1 dv ∧ (itemsOf dv).length ≤ 1000 ∧ isDiffB ss1 ss2 dv = false ∧ Told "diff" dv H Q) ∨
   (∃ (ss1 ss2 ss3 : List Str) (ps : List (Nat × Nat)) (dv : PyData), TxV K H x1 ss1 ∧ TxV K H x2 ss2 ∧ TxV K H x3 ss3 ∧ DfV K H v1 ps ∧ IsDf ss1 ss2 ps ∧ Dq K H v2 dv ∧ (itemsOf dv).length ≤ 1000 ∧ isDiffB ss2 ss3 dv = false ∧ Told "diff" dv H Q))
theorem shw_tell {w : Str} {d : PyData} (hw : Shw 8 1 (.str w)) (h : Shw 4000 4 d) : Shw 8006 5 (tellD w d) := by
  refine Shw.list (n := 4000) (k := 4) (m := 2) (fun x hx => ?_) (Nat.le_refl 2)
  simp only [List.mem_cons, List.not_mem_nil, or_false] at hx
  rcases hx with rfl | rfl
  · exact hw.le (by decide) (by decide)
  · exact h
theorem Shw.line2 {n k : Nat} {d : PyData} (h : Shw n k d) (hn : n ≤ 9000) : d.shown.length ≤ sizeLine := Nat.le_trans h.len (Nat.le_trans hn (by decide))
/-- two own classes of exceptions, told apart -/
structure Apart (K : PySem.W.Frag) (CT CD : Addr) : Prop where
  tt : PySem.W.exmOne K (.ref CT) (.ref CT) = some true
  dt : PySem.W.exmOne K (.ref CD) (.ref CT) = some false
  dd : PySem.W.exmOne K (.ref CD) (.ref CD) = some true
end XR
namespace K16
open PySem L2 XR
abbrev sMet : Stmt := top 37
section
variable {P : Program} {w : World} {K : PySem.W.Frag} {mg : Str → Option Value} {base : Heap}
theorem scMet : FnScope ["_law_one", "_law_two_here", "_law_three", "_law_early", "_law_later", "_law_told", "e"] ["_law_one", "_law_two_here", "_law_three", "_law_early", "_law_later"] (defScope sMet) := ⟨rfl, rfl, rfl, by decide +kernel, rfl, by decide +kernel, by decide +kernel⟩
theorem shw_wd : Shw 8 1 (.str "text") ∧ Shw 8 1 (.str "diff") := ⟨⟨by decide +kernel, by decide +kernel, by decide +kernel⟩, ⟨by decide +kernel, by decide +kernel, by decide +kernel⟩⟩
theorem ok_met {f CT CD fJ fA fO fP fI : Addr} {fd fdJ fdA fdO fdP fdI : FuncData} (F : Fun K "_law_met" "_law_met" sMet f fd) (T : Blt mg) (G : Pkg P w K mg base CT CD fJ fA fO fP fI fdJ fdA fdO fdP fdI)
    (XT : XOk P K mg "InvalidText" CT 1 (fvOne "value")) (XD : XOk P K mg "InvalidDiff" CD 1 (fvOne "value")) (Z : Apart K CT CD) :
    FnG P w K mg base 7 f fd ["_law_one", "_law_two_here", "_law_three", "_law_early", "_law_later"] (spMet K) := by
  refine okG F scMet (fun vs H Q E h => ?_) (fun cdv A outer s H vs Q E hr hg h => ?_)
  · obtain ⟨x1, x2, x3, v1, v2, rfl, _⟩ := h
    rfl
  · obtain ⟨x1, x2, x3, v1, v2, rfl, h⟩ := h
    refine ⟨_, pss_cons (ps_set (i := 5) scMet.nd rfl (.inl rfl) (pe_lst pa_nil))
      (pss_cons (ps_try_asMany (i := 6) (n := "e") rfl rfl scMet.nd rfl rfl takes0
          (fun W pn xe tk _ => pss_one (ps_set (i := 5) scMet.nd rfl (.inl rfl) (pe_lst (pa_cons (pe_callS G.GJ hr rfl G.mJ G.FJ.kp G.bJ (fun σ => passAt tk σ) (pa_cons (pv 0) (pa_cons (pv 1) (pa_cons (pv 2) (pa_cons (pv 3) (pa_cons (pv 4) pa_nil)))))) pa_nil))))
          (.cons (c := .ref CT) ⟨rfl, by decide, .inl XT.g⟩ (fun a oe cls d pn hz hf => pss_one (ps_set (i := 5) scMet.nd rfl (.inl rfl) (pe_lst (pa_cons pe_str (pa_cons (pe_byX hz hf (pv 6) (by rfl)) pa_nil)))))
          (.cons (c := .ref CD) ⟨rfl, by decide, .inl XD.g⟩ (fun a oe cls d pn hz hf => pss_one (ps_set (i := 5) scMet.nd rfl (.inl rfl) (pe_lst (pa_cons pe_str (pa_cons (pe_byX hz hf (pv 6) (by rfl)) pa_nil))))) .nil)))
      (pss_one (ps_ret (pe_callB (call_reprQ hg hr.units) (by rfl) T.repr (by decide +kernel) (pa_cons (pv 5) pa_nil))))), ?_⟩
    refine ⟨ll20 (by decide), fun p0 n0 => ?_⟩
    have s0 := same_upd (o := .lst []) n0
    generalize upd H p0 (.lst []) = G0 at s0 ⊢
    refine ⟨_, rfl, _, rfl, _, rfl, _, rfl, _, rfl, x1, x2, x3, v1, v2, rfl, ?_⟩
    rcases h with ⟨d1, d2, d3, q1, q2, q3, ea, ht⟩ | ⟨ss1, ss2, ss3, dv, t1, t2, t3, hv, hl0, ea, ht⟩ | ⟨ss1, ss2, ss3, ps, dv, t1, t2, t3, hp, hd, hv, hl0, ea, ht⟩
    · refine .inr (.inl ⟨d1, d2, d3, q1.same s0, q2.same s0, q3.same s0, ea, fun i x d hx hd hf hpre Hx dd sx nx kx => ?_⟩)
      have dqx : Dq K H x d := by
        obtain ⟨e, h1, h2⟩ := DqAll.get (.cons q1 (.cons q2 (.cons q3 .nil))) hx
        rw [hd] at h1
        cases h1
        exact h2
      have td := ht i d hd hf hpre
      refine ⟨true, Z.tt, fun _ a ha => ?_, fun q => Bool.noConfusion q⟩
      refine ⟨_, rfl, rfl, CT, dd, _, x, rfl, rfl, XT.rd, XT.nf [.non] ("value", .non) (List.mem_cons_self ..), kx, rfl, ll20 (by show 2 ≤ 20; decide), fun l hl => ?_⟩
      have sl := same_upd (o := .lst [V.str "text", x]) hl
      have hl2 := upd_same (H := Hx) (a := l) (o := .lst [V.str "text", x])
      have st := (s0.trans sx).trans sl
      have S := shw_tell shw_wd.1 td.1
      exact ⟨_, rfl, _, tellD "text" d, rfl, .lst (SqL.of hl2) (.cons (.str _) (.cons (dqx.same st) .nil)), S.ok, S.line2 (by decide), S.low (by decide), td.2 _ st⟩
    · refine .inr (.inr (.inl ⟨ss1, ss2, ss3, dv, t1.same s0, t2.same s0, t3.same s0, hv.same s0, hl0, ea, fun Hx dd sx nx kx => ?_⟩))
      refine ⟨false, Z.dt, fun q => Bool.noConfusion q, fun _ => ⟨true, Z.dd, fun _ a ha => ?_, fun q => Bool.noConfusion q⟩⟩
      refine ⟨_, rfl, rfl, CD, dd, _, v1, rfl, rfl, XD.rd, XD.nf [.non] ("value", .non) (List.mem_cons_self ..), kx, rfl, ll20 (by show 2 ≤ 20; decide), fun l hl => ?_⟩
      have sl := same_upd (o := .lst [V.str "diff", v1]) hl
      have hl2 := upd_same (H := Hx) (a := l) (o := .lst [V.str "diff", v1])
      have st := (s0.trans sx).trans sl
      have S := shw_tell shw_wd.2 ht.1
      exact ⟨_, rfl, _, tellD "diff" dv, rfl, .lst (SqL.of hl2) (.cons (.str _) (.cons (hv.same st) .nil)), S.ok, S.line2 (by decide), S.low (by decide), ht.2 _ st⟩
    · refine .inr (.inr (.inr ⟨ss1, ss2, ss3, ps, dv, t1.same s0, t2.same s0, t3.same s0, hp.same s0, hd, hv.same s0, hl0, ea, fun Hx dd sx nx kx => ?_⟩))
      refine ⟨false, Z.dt, fun q => Bool.noConfusion q, fun _ => ⟨true, Z.dd, fun _ a ha => ?_, fun q => Bool.noConfusion q⟩⟩
      refine ⟨_, rfl, rfl, CD, dd, _, v2, rfl, rfl, XD.rd, XD.nf [.non] ("value", .non) (List.mem_cons_self ..), kx, rfl, ll20 (by show 2 ≤ 20; decide), fun l hl => ?_⟩
      have sl := same_upd (o := .lst [V.str "diff", v2]) hl
      have hl2 := upd_same (H := Hx) (a := l) (o := .lst [V.str "diff", v2])
      have st := (s0.trans sx).trans sl
      have S := shw_tell shw_wd.2 ht.1
      exact ⟨_, rfl, _, tellD "diff" dv, rfl, .lst (SqL.of hl2) (.cons (.str _) (.cons (hv.same st) .nil)), S.ok, S.line2 (by decide), S.low (by decide), ht.2 _ st⟩
end
end K16
namespace XR
open PySem L2
def spRefused : Sp := fun vs H Q _ => ∃ (p a1 a2 a3 t1 t2 : Addr) (ss1 ss2 ss3 : List Str) (ps qs : List (Nat × Nat)), vs = [.ref p, .ref a1, .ref a2, .ref a3, .ref t1, .ref t2] ∧ PotAt H p ∧ LsAt H (.ref a1) ss1 ∧ LsAt H (.ref a2) ss2 ∧ LsAt H (.ref a3) ss3 ∧ DfX H t1 ps ∧ IsDf ss1 ss2 ps ∧
  ∀ H', PotAt H' p → But p H H' → Q (.bl true) H'
theorem LsAt.but {p : Addr} {H H' : Hp} {x : V} {ss : List Str} (b : But p H H') (hp : PotAt H p) (h : LsAt H x ss) : LsAt H' x ss := let ⟨a, e, h1, h2⟩ := h; ⟨a, e, b _ _ h1 (lst_ne hp h1).symm, h2⟩
theorem DfX.but {a t : Addr} {H H' : Hp} {ps : List (Nat × Nat)} (b : But a H H') (hp : PotAt H a) (h : DfX H t ps) : DfX H' t ps := by
  obtain ⟨o, rs, h1, h2, h3, h4⟩ := h
  refine ⟨o, rs, b _ _ h1 (fun e => ?_), h2, h3, h4.but b hp⟩
  obtain ⟨p, q, h, _⟩ := hp
  rw [e, h] at h1
  cases h1
/-- data that is no text, or no diff, and small -/
structure Odd (K : PySem.W.Frag) (p : Addr) (H : Hp) (x : V) (d : PyData) : Prop where
  dq : Dq K (L2.del H p) x d
  sh : Shw 100 4 d
theorem Odd.same {K : PySem.W.Frag} {p : Addr} {H H' : Hp} {x : V} {d : PyData} (s : But p H H') (h : Odd K p H x d) : Odd K p H' x d := ⟨h.dq.same s.del, h.sh⟩
theorem Odd.q {K : PySem.W.Frag} {p : Addr} {H : Hp} {x : V} {d : PyData} (h : Odd K p H x d) : Dq K H x d := h.dq.same del_sub
theorem del_at {p q : Addr} {H : Hp} {o : HO} (h : H q = some o) (n : p ≠ q) : L2.del H p q = some o := by
  rw [del_ne n.symm]
  exact h
end XR
namespace XR
open PySem L2
theorem shw_nonD : Shw 100 4 .none := ⟨by decide +kernel, by decide +kernel, by decide +kernel⟩
theorem odd_non {K : PySem.W.Frag} {p : Addr} {H : Hp} : Odd K p H .non .none := ⟨.non, shw_nonD⟩
/-- the five that are no text -/
theorem bad_odd {K : PySem.W.Frag} {p q d : Addr} {H : Hp} {x : V} (hq : H q = some (.lst [.int 1])) (hd : H d = some (.dK [])) (n1 : p ≠ q) (n2 : p ≠ d) (hx : x ∈ ([.non, .int 1, .str "a", .ref q, .ref d] : List V)) : ∃ e, Odd K p H x e ∧ isText e = false := by
  simp only [List.mem_cons, List.not_mem_nil, or_false] at hx
  rcases hx with rfl | rfl | rfl | rfl | rfl
  · exact ⟨_, odd_non, rfl⟩
  · exact ⟨.int 1, ⟨.int 1, ⟨by decide +kernel, by decide +kernel, by decide +kernel⟩⟩, rfl⟩
  · exact ⟨.str "a", ⟨.str "a", ⟨by decide +kernel, by decide +kernel, by decide +kernel⟩⟩, rfl⟩
  · exact ⟨.list [.int 1], ⟨.lst (SqL.of (del_at hq n1)) (.cons (.int 1) .nil), ⟨by decide +kernel, by decide +kernel, by decide +kernel⟩⟩, by decide +kernel⟩
  · exact ⟨.dict [], ⟨.dct (del_at hd n2) .nil .nil, ⟨by decide +kernel, by decide +kernel, by decide +kernel⟩⟩, rfl⟩
theorem worse_odd {K : PySem.W.Frag} {p q : Addr} {H : Hp} {x : V} (hq : H q = some (.lst [.non])) (n1 : p ≠ q) (hx : x ∈ ([.non, .ref q, .int 7] : List V)) : ∃ e, Odd K p H x e ∧ isText e = false := by
  simp only [List.mem_cons, List.not_mem_nil, or_false] at hx
  rcases hx with rfl | rfl | rfl
  · exact ⟨_, odd_non, rfl⟩
  · exact ⟨.list [.none], ⟨.lst (SqL.of (del_at hq n1)) (.cons .non .nil), ⟨by decide +kernel, by decide +kernel, by decide +kernel⟩⟩, by decide +kernel⟩
  · exact ⟨.int 7, ⟨.int 7, ⟨by decide +kernel, by decide +kernel, by decide +kernel⟩⟩, rfl⟩
def pairD (i j : PyData) : PyData := .tuple [i, j]
theorem dq_pair {K : PySem.W.Frag} {H : Hp} {a : Addr} {i j : Int} (h : H a = some (.tup [.int i, .int j])) : Dq K H (.ref a) (pairD (.int i) (.int j)) := .tup (.inl (.inl h)) (.cons (.int i) (.cons (.int j) .nil))
theorem shw_ints : ∀ i : Fin 70, Shw 2 1 (.int ((i : Nat) : Int)) := fun i => by
  have h : ∀ i : Fin 70, (PyData.int ((i : Nat) : Int)).showable = true ∧ (PyData.int ((i : Nat) : Int)).shown.length ≤ 2 ∧ (PyData.int ((i : Nat) : Int)).depth ≤ 1 := by decide +kernel
  exact ⟨(h i).1, (h i).2.1, (h i).2.2⟩
theorem shw_one {i j : PyData} (h1 : Shw 4 1 i) (h2 : Shw 4 1 j) : Shw 100 4 (.tuple [pairD i j]) := by
  have a : Shw 15 2 (pairD i j) := Shw.tuple (n := 4) (k := 1) (m := 2) (fun d hd => by
    simp only [List.mem_cons, List.not_mem_nil, or_false] at hd
    rcases hd with rfl | rfl
    · exact h1
    · exact h2) (Nat.le_refl 2)
  exact (Shw.tuple (ds := [pairD i j]) (n := 15) (k := 2) (m := 1) (fun d hd => by
    simp only [List.mem_cons, List.not_mem_nil, or_false] at hd
    rw [hd]; exact a) (Nat.le_refl 1)).le (by decide) (by decide)
theorem small {n : Nat} (h : n < 70) : Shw 4 1 (.int (n : Int)) := (shw_ints ⟨n, h⟩).le (by decide) (by decide)
/-- the first of some that is no text -/
theorem first_bad {l : List PyData} {k i : Nat} {e d : PyData} (hk : l[k]? = some e) (he : isText e = false) (pre : ∀ j d, j < k → l[j]? = some d → isText d = true) (hi : l[i]? = some d) (hf : isText d = false) (hp : ∀ d', d' ∈ l.take i → isText d' = true) : d = e := by
  rcases Nat.lt_trichotomy i k with c | c | c
  · rw [pre i d c hi] at hf
    cases hf
  · subst c
    rw [hk] at hi
    exact (Option.some.inj hi).symm
  · have : e ∈ l.take i := by
      refine List.mem_iff_getElem?.mpr ⟨k, ?_⟩
      rw [List.getElem?_take, if_pos c]
      exact hk
    rw [hp e this] at he
    cases he
/-- the first five that are no diff; n: how many lines the second text has -/
theorem wrong1 {K : PySem.W.Frag} {p b c1 d1 c2 d2 c3 d3 e3 : Addr} {n : Int} {H : Hp} {x : V} {ss1 ss2 : List Str} (hn : n = (ss2.length : Int) + 1) (hl : ss2.length ≤ 60) (hb : H b = some (.lst [])) (hc1 : H c1 = some (.tup [.int 0, .int 1])) (hd1 : H d1 = some (.tup [.ref c1])) (hc2 : H c2 = some (.tup [.int 1, .int n])) (hd2 : H d2 = some (.tup [.ref c2]))
    (hc3 : H c3 = some (.tup [.int 1, .int 1])) (hd3 : H d3 = some (.tup [.int 1, .int 1])) (he3 : H e3 = some (.tup [.ref c3, .ref d3])) (hp : ∀ a ∈ [b, c1, d1, c2, d2, c3, d3, e3], p ≠ a)
    (hx : x ∈ ([.non, .ref b, .ref d1, .ref d2, .ref e3] : List V)) : ∃ e, Odd K p H x e ∧ isDiffB ss1 ss2 e = false ∧ (itemsOf e).length ≤ 1000 := by
  simp only [List.mem_cons, List.not_mem_nil, or_false, forall_eq_or_imp, forall_eq] at hp
  obtain ⟨q1, q2, q3, q4, q5, q6, q7, q8⟩ := hp
  simp only [List.mem_cons, List.not_mem_nil, or_false] at hx
  rcases hx with rfl | rfl | rfl | rfl | rfl
  · exact ⟨_, odd_non, rfl, Nat.zero_le _⟩
  · exact ⟨.list [], ⟨.lst (SqL.of (del_at hb q1)) .nil, ⟨by decide +kernel, by decide +kernel, by decide +kernel⟩⟩, rfl, Nat.zero_le _⟩
  · exact ⟨.tuple [pairD (.int 0) (.int 1)], ⟨.tup (.inl (.inl (del_at hd1 q3))) (.cons (dq_pair (del_at hc1 q2)) .nil), ⟨by decide +kernel, by decide +kernel, by decide +kernel⟩⟩, rfl, by show 1 ≤ 1000; decide⟩
  · have e : n = ((ss2.length + 1 : Nat) : Int) := by omega
    subst e
    refine ⟨.tuple [pairD (.int 1) (.int ((ss2.length + 1 : Nat) : Int))], ⟨.tup (.inl (.inl (del_at hd2 q5))) (.cons (dq_pair (del_at hc2 q4)) .nil), shw_one (small (n := 1) (by decide)) (small (by omega))⟩, ?_, by show 1 ≤ 1000; decide⟩
    show (([pairD (.int 1) (.int ((ss2.length + 1 : Nat) : Int))] : List PyData).all (pairOk ss1 ss2) && _) = false
    have : pairOk ss1 ss2 (pairD (.int 1) (.int ((ss2.length + 1 : Nat) : Int))) = false := by
      show (decide ((1 : Int) ≤ 1) && (decide ((1 : Int) ≤ ss1.length) && (decide (1 ≤ ((ss2.length + 1 : Nat) : Int)) && (decide (((ss2.length + 1 : Nat) : Int) ≤ ss2.length) && _)))) = false
      rw [decide_eq_false (show ¬ (((ss2.length + 1 : Nat) : Int) ≤ ss2.length) by omega)]
      simp
    rw [List.all_cons, this, Bool.false_and, Bool.false_and]
  · refine ⟨.tuple [pairD (.int 1) (.int 1), pairD (.int 1) (.int 1)], ⟨.tup (.inl (.inl (del_at he3 q8))) (.cons (dq_pair (del_at hc3 q6)) (.cons (dq_pair (del_at hd3 q7)) .nil)), ⟨by decide +kernel, by decide +kernel, by decide +kernel⟩⟩, ?_, by show 2 ≤ 1000; decide⟩
    show (_ && rising [(1, 1), (1, 1)]) = false
    rw [show rising [(1, 1), (1, 1)] = false from rfl, Bool.and_false]
theorem wrong2 {K : PySem.W.Frag} {p b c1 d1 c2 d2 : Addr} {n : Int} {H : Hp} {x : V} {ss1 ss2 : List Str} (hn : n = (ss1.length : Int) + 1) (hl : ss1.length ≤ 60) (hb : H b = some (.lst [])) (hc1 : H c1 = some (.tup [.int n, .int 1])) (hd1 : H d1 = some (.tup [.ref c1])) (hc2 : H c2 = some (.tup [.bl true, .int 1])) (hd2 : H d2 = some (.tup [.ref c2]))
    (hp : ∀ a ∈ [b, c1, d1, c2, d2], p ≠ a) (hx : x ∈ ([.non, .ref b, .ref d1, .ref d2] : List V)) : ∃ e, Odd K p H x e ∧ isDiffB ss1 ss2 e = false ∧ (itemsOf e).length ≤ 1000 := by
  simp only [List.mem_cons, List.not_mem_nil, or_false, forall_eq_or_imp, forall_eq] at hp
  obtain ⟨q1, q2, q3, q4, q5⟩ := hp
  simp only [List.mem_cons, List.not_mem_nil, or_false] at hx
  rcases hx with rfl | rfl | rfl | rfl
  · exact ⟨_, odd_non, rfl, Nat.zero_le _⟩
  · exact ⟨.list [], ⟨.lst (SqL.of (del_at hb q1)) .nil, ⟨by decide +kernel, by decide +kernel, by decide +kernel⟩⟩, rfl, Nat.zero_le _⟩
  · have e : n = ((ss1.length + 1 : Nat) : Int) := by omega
    subst e
    refine ⟨.tuple [pairD (.int ((ss1.length + 1 : Nat) : Int)) (.int 1)], ⟨.tup (.inl (.inl (del_at hd1 q3))) (.cons (dq_pair (del_at hc1 q2)) .nil), shw_one (small (by omega)) (small (n := 1) (by decide))⟩, ?_, by show 1 ≤ 1000; decide⟩
    show (([pairD (.int ((ss1.length + 1 : Nat) : Int)) (.int 1)] : List PyData).all (pairOk ss1 ss2) && _) = false
    have : pairOk ss1 ss2 (pairD (.int ((ss1.length + 1 : Nat) : Int)) (.int 1)) = false := by
      show (decide ((1 : Int) ≤ ((ss1.length + 1 : Nat) : Int)) && (decide (((ss1.length + 1 : Nat) : Int) ≤ ss1.length) && _)) = false
      rw [decide_eq_false (show ¬ (((ss1.length + 1 : Nat) : Int) ≤ ss1.length) by omega)]
      simp
    rw [List.all_cons, this, Bool.false_and, Bool.false_and]
  · exact ⟨.tuple [pairD (.bool true) (.int 1)], ⟨.tup (.inl (.inl (del_at hd2 q5))) (.cons (.tup (.inl (.inl (del_at hc2 q4))) (.cons (.bl true) (.cons (.int 1) .nil))) .nil), ⟨by decide +kernel, by decide +kernel, by decide +kernel⟩⟩, rfl, by show 1 ≤ 1000; decide⟩
end XR
namespace K16
open PySem L2 XR
abbrev sRefused : Stmt := top 38
section
variable {P : Program} {w : World} {K : PySem.W.Frag} {mg : Str → Option Value} {base : Heap}
theorem scRefused : FnScope ["_law_pot_here", "_law_elder", "_law_midway", "_law_newer", "_law_one", "_law_other", "_law_bad", "_law_worse", "_law_three", "_law_wrong"] ["_law_pot_here", "_law_elder", "_law_midway", "_law_newer", "_law_one", "_law_other"] (defScope sRefused) := ⟨rfl, rfl, rfl, by decide +kernel, rfl, by decide +kernel, by decide +kernel⟩
theorem ok_refused {f fM fD fP : Addr} {fd fdM fdD fdP : FuncData} (F : Fun K "_law_refused" "_law_refused" sRefused f fd) (T : Blt mg) (D : Draws P w K mg base fD fP fdD fdP)
    (FM : Fun K "_law_met" "_law_met" sMet fM fdM) (GM : FnG P w K mg base 7 fM fdM ["_law_one", "_law_two_here", "_law_three", "_law_early", "_law_later"] (spMet K)) (bM : Binds K fdM ["_law_one", "_law_two_here", "_law_three", "_law_early", "_law_later"] []) (mM : mg "_law_met" = some (.ref fM)) :
    FnG P w K mg base 8 f fd ["_law_pot_here", "_law_elder", "_law_midway", "_law_newer", "_law_one", "_law_other"] spRefused := by
  refine okG F scRefused (fun vs H Q E h => ?_) (fun cdv A outer s H vs Q E hr hg h => ?_)
  · obtain ⟨p, a1, a2, a3, t1, t2, ss1, ss2, ss3, ps, qs, rfl, _⟩ := h
    rfl
  · obtain ⟨p, a1, a2, a3, t1, t2, ss1, ss2, ss3, ps, qs, rfl, hpot, k1, k2, k3, x1, d1, z⟩ := h
    have hr2 := hr.mono (show 2 ≤ 7 by decide)
    refine ⟨_, pss_cons (ps_par (i := 6) (j := 7) rfl scRefused.nd rfl rfl (by decide) rfl rfl
          (pa_cons (pe_call D.GP hr2 rfl D.mP D.FP.kp D.bP .nil pass0 (pa_cons (pv 0) (pa_cons (pe_lst (pa_cons pe_non (pa_cons pe_int (pa_cons pe_str (pa_cons (pe_lst (pa_cons pe_int pa_nil)) (pa_cons pe_dnewK pa_nil)))))) pa_nil)))
          (pa_cons (pe_call D.GP hr2 rfl D.mP D.FP.kp D.bP .nil pass0 (pa_cons (pv 0) (pa_cons (pe_lst (pa_cons pe_non (pa_cons (pe_lst (pa_cons pe_non pa_nil)) (pa_cons pe_int pa_nil)))) pa_nil))) pa_nil)) rfl)
      (pss_cons (ps_for PassesOwn.never rfl (pi_list (pe_lst (pa_cons (pe_tup (pa_cons (pv 6) (pa_cons (pv 7) (pa_cons (pv 7) pa_nil)))) (pa_cons (pe_tup (pa_cons (pv 1) (pa_cons (pv 6) (pa_cons (pv 7) pa_nil)))) (pa_cons (pe_tup (pa_cons (pv 1) (pa_cons (pv 2) (pa_cons (pv 6) pa_nil)))) pa_nil))))) (pg_name (i := 8) scRefused.nd rfl (.inl rfl))
        (pss_one (ps_if (pt_cmpR op_ne (pe_callG GM hg hr rfl mM FM.kp bM (pa_cons (pe_ix ix_tup (pv 8) pe_int (fun _ _ => rfl)) (pa_cons (pe_ix ix_tup (pv 8) pe_int (fun _ _ => rfl)) (pa_cons (pe_ix ix_tup (pv 8) pe_int (fun _ _ => rfl)) (pa_cons pe_non (pa_cons pe_non pa_nil))))))
          (pe_callB (call_reprQ hg hr.units) (by rfl) T.repr (by decide +kernel) (pa_cons (pe_lst (pa_cons pe_str (pa_cons (pv 6) pa_nil))) pa_nil)) (nomark _)) (pss_one (ps_ret pe_bl)) pss_nil)))
      (pss_cons (ps_set (i := 9) scRefused.nd rfl (.inl rfl) (pe_call D.GP hr2 rfl D.mP D.FP.kp D.bP .nil pass0 (pa_cons (pv 0) (pa_cons (pe_lst (pa_cons pe_non (pa_cons (pe_lst pa_nil) (pa_cons (pe_tup (pa_cons (pe_tup (pa_cons pe_int (pa_cons pe_int pa_nil))) pa_nil))
          (pa_cons (pe_tup (pa_cons (pe_tup (pa_cons pe_int (pa_cons (pe_op op_add (pe_callB call_len_seq (by rfl) T.len PySem.boot_len (pa_cons (pv 2) pa_nil)) pe_int) pa_nil))) pa_nil))
          (pa_cons (pe_tup (pa_cons (pe_tup (pa_cons pe_int (pa_cons pe_int pa_nil))) (pa_cons (pe_tup (pa_cons pe_int (pa_cons pe_int pa_nil))) pa_nil))) pa_nil)))))) pa_nil))))
      (pss_cons (ps_if (pt_cmpR op_ne (pe_callG GM hg hr rfl mM FM.kp bM (pa_cons (pv 1) (pa_cons (pv 2) (pa_cons (pv 3) (pa_cons (pv 9) (pa_cons (pv 7) pa_nil))))))
          (pe_callB (call_reprQ hg hr.units) (by rfl) T.repr (by decide +kernel) (pa_cons (pe_lst (pa_cons pe_str (pa_cons (pv 9) pa_nil))) pa_nil)) (nomark _)) (pss_one (ps_ret pe_bl)) pss_nil)
      (pss_cons (ps_set (i := 9) scRefused.nd rfl (.inl rfl) (pe_call D.GP hr2 rfl D.mP D.FP.kp D.bP .nil pass0 (pa_cons (pv 0) (pa_cons (pe_lst (pa_cons pe_non (pa_cons (pe_lst pa_nil)
          (pa_cons (pe_tup (pa_cons (pe_tup (pa_cons (pe_op op_add (pe_callB call_len_seq (by rfl) T.len PySem.boot_len (pa_cons (pv 2) pa_nil)) pe_int) (pa_cons pe_int pa_nil))) pa_nil))
          (pa_cons (pe_tup (pa_cons (pe_tup (pa_cons pe_bl (pa_cons pe_int pa_nil))) pa_nil)) pa_nil))))) pa_nil))))
      (pss_one (ps_ret (pe_cmpR op_eq (pe_callG GM hg hr rfl mM FM.kp bM (pa_cons (pv 1) (pa_cons (pv 2) (pa_cons (pv 3) (pa_cons (pv 4) (pa_cons (pv 9) pa_nil))))))
          (pe_callB (call_reprQ hg hr.units) (by rfl) T.repr (by decide +kernel) (pa_cons (pe_lst (pa_cons pe_str (pa_cons (pv 9) pa_nil))) pa_nil)) (nomark _)))))))), ?_⟩
    have BB : But p H H := But.refl p H
    have hpot0 := hpot
    refine ⟨_, rfl, ll20 (by show 1 ≤ 20; decide), fun q nq => ?_⟩
    have S1 := same_upd (o := HO.lst [V.int 1]) nq
    have fq := upd_same (H := H) (a := q) (o := HO.lst [V.int 1])
    have pq : p ≠ q := hpot.ne nq
    replace hpot := hpot.same S1
    replace BB := BB.same S1
    generalize upd H q (HO.lst [V.int 1]) = J1 at S1 fq hpot BB ⊢
    refine fun d nd => ?_
    have S2 := same_upd (o := HO.dK []) nd
    have fd := upd_same (H := J1) (a := d) (o := HO.dK [])
    have pd : p ≠ d := hpot.ne nd
    replace hpot := hpot.same S2
    replace BB := BB.same S2
    generalize upd J1 d (HO.dK []) = J2 at S2 fd hpot BB ⊢
    replace fq := S2 _ _ fq
    refine ⟨ll20 (by show 5 ≤ 20; decide), fun r nr => ?_⟩
    have S3 := same_upd (o := HO.lst [V.non, V.int 1, V.str "a", V.ref q, V.ref d]) nr
    have fr := upd_same (H := J2) (a := r) (o := HO.lst [V.non, V.int 1, V.str "a", V.ref q, V.ref d])
    have pr : p ≠ r := hpot.ne nr
    replace hpot := hpot.same S3
    replace BB := BB.same S3
    generalize upd J2 r (HO.lst [V.non, V.int 1, V.str "a", V.ref q, V.ref d]) = J3 at S3 fr hpot BB ⊢
    replace fq := S3 _ _ fq
    replace fd := S3 _ _ fd
    refine ⟨p, r, _, rfl, hpot, fr, pr, by show 0 < 5; decide, by show 5 ≤ 1000; decide, fun bad J4 mbad hp4 b4 => ?_⟩
    replace hpot := hp4
    replace BB := BB.trans b4
    replace fq := b4 _ _ fq pq.symm
    replace fd := b4 _ _ fd pd.symm
    replace fr := b4 _ _ fr pr.symm
    obtain ⟨db, ob, eb⟩ := bad_odd (K := K) fq fd pq pd mbad
    refine ⟨_, rfl, ll20 (by show 1 ≤ 20; decide), fun q2 nq2 => ?_⟩
    have S5 := same_upd (o := HO.lst [V.non]) nq2
    have fq2 := upd_same (H := J4) (a := q2) (o := HO.lst [V.non])
    have pq2 : p ≠ q2 := hpot.ne nq2
    replace hpot := hpot.same S5
    replace BB := BB.same S5
    generalize upd J4 q2 (HO.lst [V.non]) = J5 at S5 fq2 hpot BB ⊢
    replace ob := ob.same (Same.but S5)
    refine ⟨ll20 (by show 3 ≤ 20; decide), fun r2 nr2 => ?_⟩
    have S6 := same_upd (o := HO.lst [V.non, V.ref q2, V.int 7]) nr2
    have fr2 := upd_same (H := J5) (a := r2) (o := HO.lst [V.non, V.ref q2, V.int 7])
    have pr2 : p ≠ r2 := hpot.ne nr2
    replace hpot := hpot.same S6
    replace BB := BB.same S6
    generalize upd J5 r2 (HO.lst [V.non, V.ref q2, V.int 7]) = J6 at S6 fr2 hpot BB ⊢
    replace fq2 := S6 _ _ fq2
    replace ob := ob.same (Same.but S6)
    refine ⟨p, r2, _, rfl, hpot, fr2, pr2, by show 0 < 3; decide, by show 3 ≤ 1000; decide, fun worse J7 mworse hp7 b7 => ?_⟩
    replace hpot := hp7
    replace BB := BB.trans b7
    replace fq2 := b7 _ _ fq2 pq2.symm
    replace fr2 := b7 _ _ fr2 pr2.symm
    replace ob := ob.same b7
    obtain ⟨dw, ow, ew⟩ := worse_odd (K := K) fq2 pq2 mworse
    refine ⟨_, _, rfl, ?_⟩
    refine ⟨_, rfl, _, rfl, _, rfl, ll20 (by show 3 ≤ 20; decide), fun u1 nu1 => ?_⟩
    have S8 := same_upd (o := HO.tup [bad, worse, worse]) nu1
    have fu1 := upd_same (H := J7) (a := u1) (o := HO.tup [bad, worse, worse])
    have pu1 : p ≠ u1 := hpot.ne nu1
    replace hpot := hpot.same S8
    replace BB := BB.same S8
    generalize upd J7 u1 (HO.tup [bad, worse, worse]) = J8 at S8 fu1 hpot BB ⊢
    replace ob := ob.same (Same.but S8)
    replace ow := ow.same (Same.but S8)
    refine ⟨_, rfl, _, rfl, _, rfl, ll20 (by show 3 ≤ 20; decide), fun u2 nu2 => ?_⟩
    have S9 := same_upd (o := HO.tup [V.ref a1, bad, worse]) nu2
    have fu2 := upd_same (H := J8) (a := u2) (o := HO.tup [V.ref a1, bad, worse])
    have pu2 : p ≠ u2 := hpot.ne nu2
    replace hpot := hpot.same S9
    replace BB := BB.same S9
    generalize upd J8 u2 (HO.tup [V.ref a1, bad, worse]) = J9 at S9 fu2 hpot BB ⊢
    replace fu1 := S9 _ _ fu1
    replace ob := ob.same (Same.but S9)
    replace ow := ow.same (Same.but S9)
    refine ⟨_, rfl, _, rfl, _, rfl, ll20 (by show 3 ≤ 20; decide), fun u3 nu3 => ?_⟩
    have S10 := same_upd (o := HO.tup [V.ref a1, V.ref a2, bad]) nu3
    have fu3 := upd_same (H := J9) (a := u3) (o := HO.tup [V.ref a1, V.ref a2, bad])
    have pu3 : p ≠ u3 := hpot.ne nu3
    replace hpot := hpot.same S10
    replace BB := BB.same S10
    generalize upd J9 u3 (HO.tup [V.ref a1, V.ref a2, bad]) = J10 at S10 fu3 hpot BB ⊢
    replace fu1 := S10 _ _ fu1
    replace fu2 := S10 _ _ fu2
    replace ob := ob.same (Same.but S10)
    replace ow := ow.same (Same.but S10)
    refine ⟨ll20 (by show 3 ≤ 20; decide), fun v nv => ?_⟩
    have S11 := same_upd (o := HO.lst [V.ref u1, V.ref u2, V.ref u3]) nv
    have fv := upd_same (H := J10) (a := v) (o := HO.lst [V.ref u1, V.ref u2, V.ref u3])
    have pv : p ≠ v := hpot.ne nv
    replace hpot := hpot.same S11
    replace BB := BB.same S11
    generalize upd J10 v (HO.lst [V.ref u1, V.ref u2, V.ref u3]) = J11 at S11 fv hpot BB ⊢
    replace fu1 := S11 _ _ fu1
    replace fu2 := S11 _ _ fu2
    replace fu3 := S11 _ _ fu3
    replace ob := ob.same (Same.but S11)
    replace ow := ow.same (Same.but S11)
    have nb : ∀ v : V, (!decide (v = v)) = false := fun v => by rw [decide_eq_true rfl]; rfl
    have T1 : isText (lsD ss1) = true := text_ok rfl rfl k1.wd k1.le
    have T2 : isText (lsD ss2) = true := text_ok rfl rfl k2.wd k2.le
    refine ⟨v, rfl, ⟨_, SqL.of fv⟩, ?_⟩
    refine for_list (K := K) (a := v) (xs := [.ref u1, .ref u2, .ref u3]) (fun i σ H' => Same J11 H' ∧ ∃ y8 y9, σ = [some (V.ref p), some (V.ref a1), some (V.ref a2), some (V.ref a3), some (V.ref t1), some (V.ref t2), some bad, some worse, y8, y9]) ⟨fun _ _ h => h, _, _, rfl⟩ (fun i σ H' _ hh => SqL.of (hh.1 _ _ fv)) ?_ ?_
    · rintro i x σ H' hx ⟨sm, y8, y9, rfl⟩
      have B2 := BB.same sm
      have o2 := ob.same (Same.but sm)
      have w2 := ow.same (Same.but sm)
      have K1 := (k1.but B2 hpot0).dq (K := K)
      have K2 := (k2.but B2 hpot0).dq (K := K)
      have kb : Shw 8006 5 (tellD "text" db) := shw_tell shw_wd.1 (ob.sh.le (by decide) (by decide))
      have pre1 : ∀ j d, j < 1 → ([lsD ss1, db, dw] : List PyData)[j]? = some d → isText d = true := fun j d hj hd => by
        obtain rfl : j = 0 := by omega
        cases hd
        exact T1
      have pre2 : ∀ j d, j < 2 → ([lsD ss1, lsD ss2, db] : List PyData)[j]? = some d → isText d = true := fun j d hj hd => by
        rcases (show j = 0 ∨ j = 1 by omega) with rfl | rfl
        · cases hd
          exact T1
        · cases hd
          exact T2
      match i, hx with
      | 0, hx =>
        have ex := Option.some.inj hx
        subst ex
        refine ⟨_, rfl, u1, _, _, _, rfl, rfl, .inl (.inl (sm _ _ fu1)), atI_nat (j := 0) rfl, _, rfl, u1, _, _, _, rfl, rfl, .inl (.inl (sm _ _ fu1)), atI_nat (j := 1) rfl, _, rfl, u1, _, _, _, rfl, rfl, .inl (.inl (sm _ _ fu1)), atI_nat (j := 2) rfl, _, _, _, _, _, rfl, .inl ⟨db, dw, dw, o2.q, w2.q, w2.q, by simp [eb], fun i d hi hf hp => ?_⟩⟩
        have ed := first_bad (l := [db, dw, dw]) (k := 0) (e := db) rfl eb (fun j d hj _ => absurd hj (Nat.not_lt_zero _)) hi hf hp
        subst ed
        refine ⟨ob.sh.le (by decide) (by decide), fun H3 s3 => ⟨_, rfl, ll20 (by show 2 ≤ 20; decide), fun l nl => ?_⟩⟩
        have sl := same_upd (o := HO.lst [V.str "text", bad]) nl
        have hl := upd_same (H := H3) (a := l) (o := HO.lst [V.str "text", bad])
        refine ⟨_, tellD "text" d, rfl, .lst (SqL.of hl) (.cons (.str _) (.cons (o2.q.same (s3.trans sl)) .nil)), kb.ok, kb.line2 (by decide), kb.low (by decide), rfl, _, rfl, ?_⟩
        rw [nb]
        exact iteF ⟨sm.trans (s3.trans sl), _, _, rfl⟩
      | 1, hx =>
        have ex := Option.some.inj hx
        subst ex
        refine ⟨_, rfl, u2, _, _, _, rfl, rfl, .inl (.inl (sm _ _ fu2)), atI_nat (j := 0) rfl, _, rfl, u2, _, _, _, rfl, rfl, .inl (.inl (sm _ _ fu2)), atI_nat (j := 1) rfl, _, rfl, u2, _, _, _, rfl, rfl, .inl (.inl (sm _ _ fu2)), atI_nat (j := 2) rfl, _, _, _, _, _, rfl, .inl ⟨lsD ss1, db, dw, K1, o2.q, w2.q, by simp [eb], fun i d hi hf hp => ?_⟩⟩
        have ed := first_bad (l := [lsD ss1, db, dw]) (k := 1) (e := db) rfl eb pre1 hi hf hp
        subst ed
        refine ⟨ob.sh.le (by decide) (by decide), fun H3 s3 => ⟨_, rfl, ll20 (by show 2 ≤ 20; decide), fun l nl => ?_⟩⟩
        have sl := same_upd (o := HO.lst [V.str "text", bad]) nl
        have hl := upd_same (H := H3) (a := l) (o := HO.lst [V.str "text", bad])
        refine ⟨_, tellD "text" d, rfl, .lst (SqL.of hl) (.cons (.str _) (.cons (o2.q.same (s3.trans sl)) .nil)), kb.ok, kb.line2 (by decide), kb.low (by decide), rfl, _, rfl, ?_⟩
        rw [nb]
        exact iteF ⟨sm.trans (s3.trans sl), _, _, rfl⟩
      | 2, hx =>
        have ex := Option.some.inj hx
        subst ex
        refine ⟨_, rfl, u3, _, _, _, rfl, rfl, .inl (.inl (sm _ _ fu3)), atI_nat (j := 0) rfl, _, rfl, u3, _, _, _, rfl, rfl, .inl (.inl (sm _ _ fu3)), atI_nat (j := 1) rfl, _, rfl, u3, _, _, _, rfl, rfl, .inl (.inl (sm _ _ fu3)), atI_nat (j := 2) rfl, _, _, _, _, _, rfl, .inl ⟨lsD ss1, lsD ss2, db, K1, K2, o2.q, by simp [eb], fun i d hi hf hp => ?_⟩⟩
        have ed := first_bad (l := [lsD ss1, lsD ss2, db]) (k := 2) (e := db) rfl eb pre2 hi hf hp
        subst ed
        refine ⟨ob.sh.le (by decide) (by decide), fun H3 s3 => ⟨_, rfl, ll20 (by show 2 ≤ 20; decide), fun l nl => ?_⟩⟩
        have sl := same_upd (o := HO.lst [V.str "text", bad]) nl
        have hl := upd_same (H := H3) (a := l) (o := HO.lst [V.str "text", bad])
        refine ⟨_, tellD "text" d, rfl, .lst (SqL.of hl) (.cons (.str _) (.cons (o2.q.same (s3.trans sl)) .nil)), kb.ok, kb.line2 (by decide), kb.low (by decide), rfl, _, rfl, ?_⟩
        rw [nb]
        exact iteF ⟨sm.trans (s3.trans sl), _, _, rfl⟩
      | i + 3, hx => exact absurd hx (by simp)
    · rintro σ G1 ⟨sm, y8, y9, rfl⟩
      replace BB := BB.same sm
      replace hpot := hpot.same sm
      replace ob := ob.same (Same.but sm)
      replace ow := ow.same (Same.but sm)
      refine ⟨_, rfl, ll20 (by show 0 ≤ 20; decide), fun b0 nb0 => ?_⟩
      have S12 := same_upd (o := HO.lst []) nb0
      have fb0 := upd_same (H := G1) (a := b0) (o := HO.lst [])
      have pb0 : p ≠ b0 := hpot.ne nb0
      replace hpot := hpot.same S12
      replace BB := BB.same S12
      generalize upd G1 b0 (HO.lst []) = J12 at S12 fb0 hpot BB ⊢
      replace ob := ob.same (Same.but S12)
      replace ow := ow.same (Same.but S12)
      refine ⟨ll20 (by show 2 ≤ 20; decide), fun c1 nc1 => ?_⟩
      have S13 := same_upd (o := HO.tup [V.int 0, V.int 1]) nc1
      have fc1 := upd_same (H := J12) (a := c1) (o := HO.tup [V.int 0, V.int 1])
      have pc1 : p ≠ c1 := hpot.ne nc1
      replace hpot := hpot.same S13
      replace BB := BB.same S13
      generalize upd J12 c1 (HO.tup [V.int 0, V.int 1]) = J13 at S13 fc1 hpot BB ⊢
      replace fb0 := S13 _ _ fb0
      replace ob := ob.same (Same.but S13)
      replace ow := ow.same (Same.but S13)
      refine ⟨ll20 (by show 1 ≤ 20; decide), fun e1 ne1 => ?_⟩
      have S14 := same_upd (o := HO.tup [V.ref c1]) ne1
      have fe1 := upd_same (H := J13) (a := e1) (o := HO.tup [V.ref c1])
      have pe1 : p ≠ e1 := hpot.ne ne1
      replace hpot := hpot.same S14
      replace BB := BB.same S14
      generalize upd J13 e1 (HO.tup [V.ref c1]) = J14 at S14 fe1 hpot BB ⊢
      replace fb0 := S14 _ _ fb0
      replace fc1 := S14 _ _ fc1
      replace ob := ob.same (Same.but S14)
      replace ow := ow.same (Same.but S14)
      refine ⟨_, rfl, a2, _, rfl, .inl (SqL.of (k2.but BB hpot0).at), _, _, rfl, rfl, ll20 (by show 2 ≤ 20; decide), fun c2 nc2 => ?_⟩
      have S15 := same_upd (o := HO.tup [V.int 1, V.int (((ss2.map V.str).length : Int) + 1)]) nc2
      have fc2 := upd_same (H := J14) (a := c2) (o := HO.tup [V.int 1, V.int (((ss2.map V.str).length : Int) + 1)])
      have pc2 : p ≠ c2 := hpot.ne nc2
      replace hpot := hpot.same S15
      replace BB := BB.same S15
      generalize upd J14 c2 (HO.tup [V.int 1, V.int (((ss2.map V.str).length : Int) + 1)]) = J15 at S15 fc2 hpot BB ⊢
      replace fb0 := S15 _ _ fb0
      replace fc1 := S15 _ _ fc1
      replace fe1 := S15 _ _ fe1
      replace ob := ob.same (Same.but S15)
      replace ow := ow.same (Same.but S15)
      refine ⟨ll20 (by show 1 ≤ 20; decide), fun e2 ne2 => ?_⟩
      have S16 := same_upd (o := HO.tup [V.ref c2]) ne2
      have fe2 := upd_same (H := J15) (a := e2) (o := HO.tup [V.ref c2])
      have pe2 : p ≠ e2 := hpot.ne ne2
      replace hpot := hpot.same S16
      replace BB := BB.same S16
      generalize upd J15 e2 (HO.tup [V.ref c2]) = J16 at S16 fe2 hpot BB ⊢
      replace fb0 := S16 _ _ fb0
      replace fc1 := S16 _ _ fc1
      replace fe1 := S16 _ _ fe1
      replace fc2 := S16 _ _ fc2
      replace ob := ob.same (Same.but S16)
      replace ow := ow.same (Same.but S16)
      refine ⟨ll20 (by show 2 ≤ 20; decide), fun c3 nc3 => ?_⟩
      have S17 := same_upd (o := HO.tup [V.int 1, V.int 1]) nc3
      have fc3 := upd_same (H := J16) (a := c3) (o := HO.tup [V.int 1, V.int 1])
      have pc3 : p ≠ c3 := hpot.ne nc3
      replace hpot := hpot.same S17
      replace BB := BB.same S17
      generalize upd J16 c3 (HO.tup [V.int 1, V.int 1]) = J17 at S17 fc3 hpot BB ⊢
      replace fb0 := S17 _ _ fb0
      replace fc1 := S17 _ _ fc1
      replace fe1 := S17 _ _ fe1
      replace fc2 := S17 _ _ fc2
      replace fe2 := S17 _ _ fe2
      replace ob := ob.same (Same.but S17)
      replace ow := ow.same (Same.but S17)
      refine ⟨ll20 (by show 2 ≤ 20; decide), fun d3 nd3 => ?_⟩
      have S18 := same_upd (o := HO.tup [V.int 1, V.int 1]) nd3
      have fd3 := upd_same (H := J17) (a := d3) (o := HO.tup [V.int 1, V.int 1])
      have pd3 : p ≠ d3 := hpot.ne nd3
      replace hpot := hpot.same S18
      replace BB := BB.same S18
      generalize upd J17 d3 (HO.tup [V.int 1, V.int 1]) = J18 at S18 fd3 hpot BB ⊢
      replace fb0 := S18 _ _ fb0
      replace fc1 := S18 _ _ fc1
      replace fe1 := S18 _ _ fe1
      replace fc2 := S18 _ _ fc2
      replace fe2 := S18 _ _ fe2
      replace fc3 := S18 _ _ fc3
      replace ob := ob.same (Same.but S18)
      replace ow := ow.same (Same.but S18)
      refine ⟨ll20 (by show 2 ≤ 20; decide), fun e3 ne3 => ?_⟩
      have S19 := same_upd (o := HO.tup [V.ref c3, V.ref d3]) ne3
      have fe3 := upd_same (H := J18) (a := e3) (o := HO.tup [V.ref c3, V.ref d3])
      have pe3 : p ≠ e3 := hpot.ne ne3
      replace hpot := hpot.same S19
      replace BB := BB.same S19
      generalize upd J18 e3 (HO.tup [V.ref c3, V.ref d3]) = J19 at S19 fe3 hpot BB ⊢
      replace fb0 := S19 _ _ fb0
      replace fc1 := S19 _ _ fc1
      replace fe1 := S19 _ _ fe1
      replace fc2 := S19 _ _ fc2
      replace fe2 := S19 _ _ fe2
      replace fc3 := S19 _ _ fc3
      replace fd3 := S19 _ _ fd3
      replace ob := ob.same (Same.but S19)
      replace ow := ow.same (Same.but S19)
      refine ⟨ll20 (by show 5 ≤ 20; decide), fun r3 nr3 => ?_⟩
      have S20 := same_upd (o := HO.lst [V.non, V.ref b0, V.ref e1, V.ref e2, V.ref e3]) nr3
      have fr3 := upd_same (H := J19) (a := r3) (o := HO.lst [V.non, V.ref b0, V.ref e1, V.ref e2, V.ref e3])
      have pr3 : p ≠ r3 := hpot.ne nr3
      replace hpot := hpot.same S20
      replace BB := BB.same S20
      generalize upd J19 r3 (HO.lst [V.non, V.ref b0, V.ref e1, V.ref e2, V.ref e3]) = J20 at S20 fr3 hpot BB ⊢
      replace fb0 := S20 _ _ fb0
      replace fc1 := S20 _ _ fc1
      replace fe1 := S20 _ _ fe1
      replace fc2 := S20 _ _ fc2
      replace fe2 := S20 _ _ fe2
      replace fc3 := S20 _ _ fc3
      replace fd3 := S20 _ _ fd3
      replace fe3 := S20 _ _ fe3
      replace ob := ob.same (Same.but S20)
      replace ow := ow.same (Same.but S20)
      refine ⟨p, r3, _, rfl, hpot, fr3, pr3, by show 0 < 5; decide, by show 5 ≤ 1000; decide, fun wrong J21 mwrong hp21 b21 => ?_⟩
      replace hpot := hp21
      replace BB := BB.trans b21
      replace fb0 := b21 _ _ fb0 pb0.symm
      replace fc1 := b21 _ _ fc1 pc1.symm
      replace fe1 := b21 _ _ fe1 pe1.symm
      replace fc2 := b21 _ _ fc2 pc2.symm
      replace fe2 := b21 _ _ fe2 pe2.symm
      replace fc3 := b21 _ _ fc3 pc3.symm
      replace fd3 := b21 _ _ fd3 pd3.symm
      replace fe3 := b21 _ _ fe3 pe3.symm
      replace fr3 := b21 _ _ fr3 pr3.symm
      replace ob := ob.same b21
      replace ow := ow.same b21
      obtain ⟨dx, ox, ex, lx⟩ := wrong1 (K := K) (ss1 := ss1) (ss2 := ss2) (by rw [List.length_map]) k2.le fb0 fc1 fe1 fc2 fe2 fc3 fd3 fe3 (by
        intro a ha
        simp only [List.mem_cons, List.not_mem_nil, or_false] at ha
        rcases ha with rfl | rfl | rfl | rfl | rfl | rfl | rfl | rfl <;> assumption) mwrong
      have kx : Shw 8006 5 (tellD "diff" dx) := shw_tell shw_wd.2 (ox.sh.le (by decide) (by decide))
      refine ⟨_, rfl, _, rfl, _, rfl, _, rfl, _, rfl, _, _, _, _, _, rfl, .inr (.inl ⟨ss1, ss2, ss3, dx, (k1.but BB hpot0).t, (k2.but BB hpot0).t, (k3.but BB hpot0).t, ox.q, lx, ex, ox.sh.le (by decide) (by decide), fun H3 s3 => ?_⟩)⟩
      replace ob := ob.same (Same.but s3)
      replace ow := ow.same (Same.but s3)
      replace ox := ox.same (Same.but s3)
      replace BB := BB.same s3
      replace hpot := hpot.same s3
      refine ⟨_, rfl, ll20 (by show 2 ≤ 20; decide), fun l nl => ?_⟩
      have S22 := same_upd (o := HO.lst [V.str "diff", wrong]) nl
      have fl := upd_same (H := H3) (a := l) (o := HO.lst [V.str "diff", wrong])
      have pl : p ≠ l := hpot.ne nl
      replace hpot := hpot.same S22
      replace BB := BB.same S22
      generalize upd H3 l (HO.lst [V.str "diff", wrong]) = J22 at S22 fl hpot BB ⊢
      replace ob := ob.same (Same.but S22)
      replace ow := ow.same (Same.but S22)
      replace ox := ox.same (Same.but S22)
      refine ⟨_, tellD "diff" dx, rfl, .lst (SqL.of fl) (.cons (.str _) (.cons ox.q .nil)), kx.ok, kx.line2 (by decide), kx.low (by decide), rfl, _, rfl, ?_⟩
      rw [nb]
      refine iteF ?_
      refine ⟨_, rfl, ll20 (by show 0 ≤ 20; decide), fun b4 nb4 => ?_⟩
      have S23 := same_upd (o := HO.lst []) nb4
      have fb4 := upd_same (H := J22) (a := b4) (o := HO.lst [])
      have pb4 : p ≠ b4 := hpot.ne nb4
      replace hpot := hpot.same S23
      replace BB := BB.same S23
      generalize upd J22 b4 (HO.lst []) = J23 at S23 fb4 hpot BB ⊢
      refine ⟨_, rfl, a2, _, rfl, .inl (SqL.of (k2.but BB hpot0).at), _, _, rfl, rfl, ll20 (by show 2 ≤ 20; decide), fun c4 nc4 => ?_⟩
      have S24 := same_upd (o := HO.tup [V.int (((ss2.map V.str).length : Int) + 1), V.int 1]) nc4
      have fc4 := upd_same (H := J23) (a := c4) (o := HO.tup [V.int (((ss2.map V.str).length : Int) + 1), V.int 1])
      have pc4 : p ≠ c4 := hpot.ne nc4
      replace hpot := hpot.same S24
      replace BB := BB.same S24
      generalize upd J23 c4 (HO.tup [V.int (((ss2.map V.str).length : Int) + 1), V.int 1]) = J24 at S24 fc4 hpot BB ⊢
      replace fb4 := S24 _ _ fb4
      refine ⟨ll20 (by show 1 ≤ 20; decide), fun e4 ne4 => ?_⟩
      have S25 := same_upd (o := HO.tup [V.ref c4]) ne4
      have fe4 := upd_same (H := J24) (a := e4) (o := HO.tup [V.ref c4])
      have pe4 : p ≠ e4 := hpot.ne ne4
      replace hpot := hpot.same S25
      replace BB := BB.same S25
      generalize upd J24 e4 (HO.tup [V.ref c4]) = J25 at S25 fe4 hpot BB ⊢
      replace fb4 := S25 _ _ fb4
      replace fc4 := S25 _ _ fc4
      refine ⟨ll20 (by show 2 ≤ 20; decide), fun c5 nc5 => ?_⟩
      have S26 := same_upd (o := HO.tup [V.bl true, V.int 1]) nc5
      have fc5 := upd_same (H := J25) (a := c5) (o := HO.tup [V.bl true, V.int 1])
      have pc5 : p ≠ c5 := hpot.ne nc5
      replace hpot := hpot.same S26
      replace BB := BB.same S26
      generalize upd J25 c5 (HO.tup [V.bl true, V.int 1]) = J26 at S26 fc5 hpot BB ⊢
      replace fb4 := S26 _ _ fb4
      replace fc4 := S26 _ _ fc4
      replace fe4 := S26 _ _ fe4
      refine ⟨ll20 (by show 1 ≤ 20; decide), fun e5 ne5 => ?_⟩
      have S27 := same_upd (o := HO.tup [V.ref c5]) ne5
      have fe5 := upd_same (H := J26) (a := e5) (o := HO.tup [V.ref c5])
      have pe5 : p ≠ e5 := hpot.ne ne5
      replace hpot := hpot.same S27
      replace BB := BB.same S27
      generalize upd J26 e5 (HO.tup [V.ref c5]) = J27 at S27 fe5 hpot BB ⊢
      replace fb4 := S27 _ _ fb4
      replace fc4 := S27 _ _ fc4
      replace fe4 := S27 _ _ fe4
      replace fc5 := S27 _ _ fc5
      refine ⟨ll20 (by show 4 ≤ 20; decide), fun r4 nr4 => ?_⟩
      have S28 := same_upd (o := HO.lst [V.non, V.ref b4, V.ref e4, V.ref e5]) nr4
      have fr4 := upd_same (H := J27) (a := r4) (o := HO.lst [V.non, V.ref b4, V.ref e4, V.ref e5])
      have pr4 : p ≠ r4 := hpot.ne nr4
      replace hpot := hpot.same S28
      replace BB := BB.same S28
      generalize upd J27 r4 (HO.lst [V.non, V.ref b4, V.ref e4, V.ref e5]) = J28 at S28 fr4 hpot BB ⊢
      replace fb4 := S28 _ _ fb4
      replace fc4 := S28 _ _ fc4
      replace fe4 := S28 _ _ fe4
      replace fc5 := S28 _ _ fc5
      replace fe5 := S28 _ _ fe5
      refine ⟨p, r4, _, rfl, hpot, fr4, pr4, by show 0 < 4; decide, by show 4 ≤ 1000; decide, fun wrong J29 mwrong hp29 b29 => ?_⟩
      replace hpot := hp29
      replace BB := BB.trans b29
      replace fb4 := b29 _ _ fb4 pb4.symm
      replace fc4 := b29 _ _ fc4 pc4.symm
      replace fe4 := b29 _ _ fe4 pe4.symm
      replace fc5 := b29 _ _ fc5 pc5.symm
      replace fe5 := b29 _ _ fe5 pe5.symm
      replace fr4 := b29 _ _ fr4 pr4.symm
      obtain ⟨dy, oy, ey, ly⟩ := wrong2 (K := K) (ss1 := ss2) (ss2 := ss3) (by rw [List.length_map]) k2.le fb4 fc4 fe4 fc5 fe5 (by
        intro a ha
        simp only [List.mem_cons, List.not_mem_nil, or_false] at ha
        rcases ha with rfl | rfl | rfl | rfl | rfl <;> assumption) mwrong
      have ky : Shw 8006 5 (tellD "diff" dy) := shw_tell shw_wd.2 (oy.sh.le (by decide) (by decide))
      refine ⟨_, rfl, _, rfl, _, rfl, _, rfl, _, rfl, _, _, _, _, _, rfl, .inr (.inr ⟨ss1, ss2, ss3, ps, dy, (k1.but BB hpot0).t, (k2.but BB hpot0).t, (k3.but BB hpot0).t, (x1.but BB hpot0).v, d1, oy.q, ly, ey, oy.sh.le (by decide) (by decide), fun H3 s3 => ?_⟩)⟩
      replace oy := oy.same (Same.but s3)
      replace BB := BB.same s3
      replace hpot := hpot.same s3
      refine ⟨_, rfl, ll20 (by show 2 ≤ 20; decide), fun l nl => ?_⟩
      have S30 := same_upd (o := HO.lst [V.str "diff", wrong]) nl
      have fl := upd_same (H := H3) (a := l) (o := HO.lst [V.str "diff", wrong])
      have pl : p ≠ l := hpot.ne nl
      replace hpot := hpot.same S30
      replace BB := BB.same S30
      generalize upd H3 l (HO.lst [V.str "diff", wrong]) = J30 at S30 fl hpot BB ⊢
      replace oy := oy.same (Same.but S30)
      refine ⟨_, tellD "diff" dy, rfl, .lst (SqL.of fl) (.cons (.str _) (.cons oy.q .nil)), ky.ok, ky.line2 (by decide), ky.low (by decide), rfl, ?_⟩
      rw [decide_eq_true rfl]
      exact z _ hpot BB
end
end K16
namespace XR
open PySem L2
def spLaw (K : PySem.W.Frag) : Sp := fun vs H Q _ => ∃ (a : Addr) (ns : List Int), vs = [.ref a] ∧ SqL K H a (ns.map V.int) ∧ ns.length ≤ 63 ∧ ∀ H', Q (.bl true) H'
/-- a new list of words, whichever way it was made -/
def NewLs (p : Addr) (H : Hp) (R : Addr → Hp → Prop) : Prop := ∀ (q : Addr) (ss : List Str) H', PotAt H' p → But p H H' → H q = none → LsAt H' (.ref q) ss → ss.length ≤ 10 → R q H'
theorem either_way {p : Addr} {H : Hp} {R : Addr → Hp → Prop} {c A B : Prop} [Decidable c] (hA : NewLs p H R → A) (hB : NewLs p H R → B) (key : NewLs p H R) : if c then A else B := ite2 (fun _ => hA key) (fun _ => hB key)
theorem But.same_of {p : Addr} {H H1 H2 : Hp} (b : But p H1 H2) (s : Same H H1) (n : H p = none) : Same H H2 := fun q o h => b _ _ (s _ _ h) (ne_of_none h n)
end XR
namespace K16
open PySem L2 XR
abbrev sLaw : Stmt := top 39
section
variable {P : Program} {w : World} {K : PySem.W.Frag} {mg : Str → Option Value} {base : Heap}
theorem scLaw : FnScope ["_law_script", "_law_k", "_law_pot_here", "_law_turn", "_law_elder", "_law_midway", "_law_newer", "_law_last", "_law_one", "_law_other", "_law_third", "_law_front"] ["_law_script"] (defScope sLaw) := ⟨rfl, rfl, rfl, by decide +kernel, rfl, by decide +kernel, by decide +kernel⟩
theorem ok_law {f fPot fTx fN fTw fDf fR fU fX fD fP CT CD fJ fA fO fPa fI : Addr} {fd fdPot fdTx fdN fdTw fdDf fdR fdU fdX fdD fdP fdJ fdA fdO fdPa fdI : FuncData} (F : Fun K "law" "law" sLaw f fd) (T : Blt mg) (D : Draws P w K mg base fD fP fdD fdP) (G : Pkg P w K mg base CT CD fJ fA fO fPa fI fdJ fdA fdO fdPa fdI)
    (FPot : Fun K "_law_pot" "_law_pot" sPot fPot fdPot) (GPot : FnOk P w K mg base CX0 1 fPot fdPot ["_law_script", "_law_index"] (spPot K)) (bPot : Binds K fdPot ["_law_script", "_law_index"] []) (mPot : mg "_law_pot" = some (.ref fPot))
    (FTx : Fun K "_law_text" "_law_text" sText fTx fdTx) (GTx : FnOk P w K mg base CX0 3 fTx fdTx ["_law_pot_here", "_law_most"] spText) (bTx : Binds K fdTx ["_law_pot_here", "_law_most"] []) (mTx : mg "_law_text" = some (.ref fTx))
    (FN : Fun K "_law_near" "_law_near" sNear fN fdN) (GN : FnOk P w K mg base CX0 3 fN fdN ["_law_pot_here", "_law_lines", "_law_most"] spNear) (bN : Binds K fdN ["_law_pot_here", "_law_lines", "_law_most"] []) (mN : mg "_law_near" = some (.ref fN))
    (FTw : Fun K "_law_two" "_law_two" sTwo fTw fdTw) (GTw : FnOk P w K mg base CX0 4 fTw fdTw ["_law_pot_here", "_law_most"] spTwo) (bTw : Binds K fdTw ["_law_pot_here", "_law_most"] []) (mTw : mg "_law_two" = some (.ref fTw))
    (FDf : Fun K "_law_diff" "_law_diff" sDiff fDf fdDf) (GDf : FnOk P w K mg base CX0 3 fDf fdDf ["_law_pot_here", "_law_elder", "_law_newer"] spDiffX) (bDf : Binds K fdDf ["_law_pot_here", "_law_elder", "_law_newer"] []) (mDf : mg "_law_diff" = some (.ref fDf))
    (FR : Fun K "_law_two_right" "_law_two_right" sTwoR fR fdR) (GR : FnG P w K mg base 7 fR fdR ["_law_elder", "_law_midway", "_law_newer", "_law_one", "_law_other"] (spTwoR K)) (bR : Binds K fdR ["_law_elder", "_law_midway", "_law_newer", "_law_one", "_law_other"] []) (mR : mg "_law_two_right" = some (.ref fR))
    (FU : Fun K "_law_turned_right" "_law_turned_right" sTR fU fdU) (GU : FnOk P w K mg base CX0 7 fU fdU ["_law_elder", "_law_midway", "_law_newer", "_law_one", "_law_other"] (spTR K)) (bU : Binds K fdU ["_law_elder", "_law_midway", "_law_newer", "_law_one", "_law_other"] []) (mU : mg "_law_turned_right" = some (.ref fU))
    (FX : Fun K "_law_refused" "_law_refused" sRefused fX fdX) (GX : FnG P w K mg base 8 fX fdX ["_law_pot_here", "_law_elder", "_law_midway", "_law_newer", "_law_one", "_law_other"] spRefused) (bX : Binds K fdX ["_law_pot_here", "_law_elder", "_law_midway", "_law_newer", "_law_one", "_law_other"] []) (mX : mg "_law_refused" = some (.ref fX)) :
    FnG P w K mg base 9 f fd ["_law_script"] (spLaw K) := by
  refine okG F scLaw (fun vs H Q E h => ?_) (fun cdv A outer s H vs Q E hr hg h => ?_)
  · obtain ⟨a, ns, rfl, _⟩ := h
    rfl
  · obtain ⟨a, ns, rfl, hS, hn, z⟩ := h
    have hr1 := hr.mono (show 1 ≤ 8 by decide)
    have hr3 := hr.mono (show 3 ≤ 8 by decide)
    have hr4 := hr.mono (show 4 ≤ 8 by decide)
    have hr6 := hr.mono (show 6 ≤ 8 by decide)
    have hr7 := hr.mono (show 7 ≤ 8 by decide)
    refine ⟨_, pss_cons (ps_for PassesOwn.never rfl (pi_range1 rfl T.range (pa_cons (pe_callB (call_max2 rfl) (by rfl) T.max (by decide +kernel) (pa_cons pe_int (pa_cons (pe_callB (call_min2 rfl) (by rfl) T.min (by decide +kernel) (pa_cons pe_int (pa_cons (pe_callB call_len_seq (by rfl) T.len PySem.boot_len (pa_cons (pv 0) pa_nil)) pa_nil))) pa_nil))) pa_nil)) (pg_name (i := 1) scLaw.nd rfl (.inl rfl))
        (pss_cons (ps_set (i := 2) scLaw.nd rfl (.inl rfl) (pe_call GPot hr1 rfl mPot FPot.kp bPot .nil pass0 (pa_cons (pv 0) (pa_cons (pv 1) pa_nil))))
        (pss_one (ps_for PassesOwn.never rfl (pi_range1 rfl T.range (pa_cons pe_int pa_nil)) (pg_name (i := 3) scLaw.nd rfl (.inl rfl))
          (pss_cons (ps_asg (pe_call GTw hr4 rfl mTw FTw.kp bTw .nil pass0 (pa_cons (pv 2) (pa_cons pe_int pa_nil))) (pg_tup rfl (pgs_cons (pg_name (i := 4) scLaw.nd rfl (.inl rfl)) (pgs_cons (pg_name (i := 5) scLaw.nd rfl (.inl rfl)) pgs_nil))))
          (pss_cons (ps_set (i := 6) scLaw.nd rfl (.inl rfl) (pe_ifExp (pt_cmpR op_gt (pe_call D.GD hr1 rfl D.mD D.FD.kp D.bD .nil pass0 (pa_cons (pv 2) (pa_cons pe_int pa_nil))) pe_int (nomark _))
              (pe_call GN hr3 rfl mN FN.kp bN .nil pass0 (pa_cons (pv 2) (pa_cons (pv 5) (pa_cons pe_int pa_nil)))) (pe_call GTx hr3 rfl mTx FTx.kp bTx .nil pass0 (pa_cons (pv 2) (pa_cons pe_int pa_nil)))))
          (pss_cons (ps_set (i := 7) scLaw.nd rfl (.inl rfl) (pe_call GN hr3 rfl mN FN.kp bN .nil pass0 (pa_cons (pv 2) (pa_cons (pv 6) (pa_cons pe_int pa_nil)))))
          (pss_cons (ps_par (i := 8) (j := 9) rfl scLaw.nd rfl rfl (by decide) rfl rfl (pa_cons (pe_call GDf hr3 rfl mDf FDf.kp bDf .nil pass0 (pa_cons (pv 2) (pa_cons (pv 4) (pa_cons (pv 5) pa_nil)))) (pa_cons (pe_call GDf hr3 rfl mDf FDf.kp bDf .nil pass0 (pa_cons (pv 2) (pa_cons (pv 5) (pa_cons (pv 6) pa_nil)))) pa_nil)) rfl)
          (pss_cons (ps_set (i := 10) scLaw.nd rfl (.inl rfl) (pe_call GDf hr3 rfl mDf FDf.kp bDf .nil pass0 (pa_cons (pv 2) (pa_cons (pv 6) (pa_cons (pv 7) pa_nil)))))
          (pss_cons (ps_if (pt_not (pt_val (pe_callG GR hg hr7 rfl mR FR.kp bR (pa_cons (pv 4) (pa_cons (pv 5) (pa_cons (pv 6) (pa_cons (pv 8) (pa_cons (pv 9) pa_nil)))))))) (pss_one (ps_ret pe_bl)) pss_nil)
          (pss_cons (ps_if (pt_not (pt_val (pe_callG GR hg hr7 rfl mR FR.kp bR (pa_cons (pv 5) (pa_cons (pv 6) (pa_cons (pv 7) (pa_cons (pv 9) (pa_cons (pv 10) pa_nil)))))))) (pss_one (ps_ret pe_bl)) pss_nil)
          (pss_cons (ps_if (pt_not (pt_val (pe_call GU hr7 rfl mU FU.kp bU .nil pass0 (pa_cons (pv 4) (pa_cons (pv 5) (pa_cons (pv 6) (pa_cons (pv 8) (pa_cons (pv 9) pa_nil)))))))) (pss_one (ps_ret pe_bl)) pss_nil)
          (pss_cons (ps_set (i := 11) scLaw.nd rfl (.inl rfl) (pe_callS G.GJ hr6 rfl G.mJ G.FJ.kp G.bJ (fun σ => passF σ) (pa_cons (pv 4) (pa_cons (pv 6) (pa_cons (pv 7) (pa_cons (pe_callS G.GJ hr6 rfl G.mJ G.FJ.kp G.bJ (fun σ => passF σ) (pa_cons (pv 4) (pa_cons (pv 5) (pa_cons (pv 6) (pa_cons (pv 8) (pa_cons (pv 9) pa_nil)))))) (pa_cons (pv 10) pa_nil)))))))
          (pss_cons (ps_if (pt_cmpR (op_neD hr.units) (pv 11) (pe_callS G.GJ hr6 rfl G.mJ G.FJ.kp G.bJ (fun σ => passF σ) (pa_cons (pv 4) (pa_cons (pv 5) (pa_cons (pv 7) (pa_cons (pv 8) (pa_cons (pe_callS G.GJ hr6 rfl G.mJ G.FJ.kp G.bJ (fun σ => passF σ) (pa_cons (pv 5) (pa_cons (pv 6) (pa_cons (pv 7) (pa_cons (pv 9) (pa_cons (pv 10) pa_nil)))))) pa_nil)))))) (nomark _)) (pss_one (ps_ret pe_bl)) pss_nil)
          (pss_one (ps_if (pt_not (pt_val (pe_callG GX hg hr rfl mX FX.kp bX (pa_cons (pv 2) (pa_cons (pv 4) (pa_cons (pv 5) (pa_cons (pv 6) (pa_cons (pv 8) (pa_cons (pv 9) pa_nil))))))))) (pss_one (ps_ret pe_bl)) pss_nil)))))))))))))))
      ) (pss_one (ps_ret pe_bl)), ?_⟩
    have hbd : ∀ L : Int, 0 ≤ L → 1 ≤ (if (if L < 5 then L else 5) > 1 then (if L < 5 then L else 5) else 1) ∧ (if (if L < 5 then L else 5) > 1 then (if L < 5 then L else 5) else 1) ≤ 5 := by
      intro L hL
      split <;> split <;> omega
    refine ⟨_, rfl, a, _, rfl, .inl hS, _, _, rfl, _, _, rfl, ?_⟩
    obtain ⟨b1, b2⟩ := hbd ((ns.map V.int).length : Int) (by omega)
    revert b1 b2
    generalize (if (if ((ns.map V.int).length : Int) < 5 then ((ns.map V.int).length : Int) else 5) > 1 then (if ((ns.map V.int).length : Int) < 5 then ((ns.map V.int).length : Int) else 5) else 1) = m
    intro b1 b2
    refine ⟨m, rfl, by omega, by omega, ?_⟩
    refine for_range (n := m.toNat) (fun k σ H' => Same H H' ∧ ∃ y1 y2 y3 y4 y5 y6 y7 y8 y9 y10 y11, σ = [some (V.ref a), y1, y2, y3, y4, y5, y6, y7, y8, y9, y10, y11]) ⟨fun _ _ h => h, _, _, _, _, _, _, _, _, _, _, _, rfl⟩ ?_ ?_
    · rintro j σ H' hj ⟨sm, y1, y2, y3, y4, y5, y6, y7, y8, y9, y10, y11, rfl⟩
      refine ⟨_, rfl, _, rfl, a, ns, j, by rw [Int.zero_add]; rfl, sm.seq hS, hn, by omega, fun p H1 s1 n1 hp1 => ?_⟩
      have np : H p = none := by
        cases e : H p with
        | none => rfl
        | some o => rw [sm _ _ e] at n1; cases n1
      refine ⟨4, rfl, by decide, by decide, ?_⟩
      refine for_range (n := 4) (fun i σ H2 => PotAt H2 p ∧ But p H1 H2 ∧ ∃ z3 z4 z5 z6 z7 z8 z9 z10 z11, σ = [some (V.ref a), some (V.int (0 + (j : Int))), some (V.ref p), z3, z4, z5, z6, z7, z8, z9, z10, z11]) ⟨hp1, But.refl p H1, _, _, _, _, _, _, _, _, _, rfl⟩ ?_ ?_
      · rintro i σ H2 hi ⟨hp2, c2, z3, z4, z5, z6, z7, z8, z9, z10, z11, rfl⟩
        refine ⟨_, rfl, p, 10, rfl, hp2, by decide, by decide, fun t a1 a2 ss1 ss2 H3 hp3 c3 nt na1 na2 ht h1 h2 w1 w2 l1 l2 => ?_⟩
        have k1 : LsAt H3 (.ref a1) ss1 := ⟨a1, rfl, h1, w1, by omega⟩
        have k2 : LsAt H3 (.ref a2) ss2 := ⟨a2, rfl, h2, w2, by omega⟩
        refine ⟨t, _, rfl, .inl (.inl ht), rfl, ?_⟩
        refine ⟨_, _, rfl, _, _, rfl, rfl, ?_⟩
        refine ⟨_, rfl, p, 3, rfl, hp3, by decide, by decide, fun r H4 r0 r1 hp4 c4 => ⟨_, _, rfl, rfl, _, rfl, ?_⟩⟩
        have C4 := (c2.trans c3).trans c4
        replace k1 := k1.but c4 hp3
        replace k2 := k2.but c4 hp3
        apply either_way (p := p) (H := H4)

        · intro key
          exact ⟨_, rfl, _, rfl, p, a2, ss2, 10, rfl, hp4, k2.at, lst_ne hp4 k2.at, k2.wd, k2.le, by decide, by decide, fun q ss H5 hp5 c5 nq hq wq lq => key q ss H5 hp5 c5 nq ⟨q, rfl, hq, wq, by omega⟩ (by omega)⟩
        · intro key
          exact ⟨_, rfl, p, 10, rfl, hp4, by decide, by decide, fun q ss H5 hp5 c5 nq hq wq lq => key q ss H5 hp5 c5 nq ⟨q, rfl, hq, wq, by omega⟩ (by omega)⟩
        intro a3 ss3 H5 hp5 c5 n3 k3 l3
        have C5 := C4.trans c5
        replace k1 := k1.but c5 hp4
        replace k2 := k2.but c5 hp4
        refine ⟨_, rfl, _, rfl, p, a3, ss3, 10, rfl, hp5, k3.at, lst_ne hp5 k3.at, k3.wd, k3.le, by decide, by decide, fun a4 ss4 H6 hp6 c6 n4 h4 w4 l4 => ?_⟩
        have C6 := C5.trans c6
        replace k1 := k1.but c6 hp5
        replace k2 := k2.but c6 hp5
        replace k3 := k3.but c6 hp5
        have k4 : LsAt H6 (.ref a4) ss4 := ⟨a4, rfl, h4, w4, by omega⟩
        refine ⟨_, rfl, _, rfl, _, rfl, p, a1, a2, ss1, ss2, rfl, hp6, k1.at, k2.at, k1.le, k2.le, fun t1 ps H7 hp7 c7 n5 x1 d1 => ?_⟩
        have C7 := C6.trans c7
        replace k1 := k1.but c7 hp6
        replace k2 := k2.but c7 hp6
        replace k3 := k3.but c7 hp6
        replace k4 := k4.but c7 hp6
        refine ⟨_, rfl, _, rfl, _, rfl, p, a2, a3, ss2, ss3, rfl, hp7, k2.at, k3.at, k2.le, k3.le, fun t2 qs H8 hp8 c8 n6 x2 d2 => ⟨_, _, rfl, ?_⟩⟩
        have C8 := C7.trans c8
        replace k1 := k1.but c8 hp7
        replace k2 := k2.but c8 hp7
        replace k3 := k3.but c8 hp7
        replace k4 := k4.but c8 hp7
        replace x1 := x1.but c8 hp7
        refine ⟨_, rfl, _, rfl, _, rfl, p, a3, a4, ss3, ss4, rfl, hp8, k3.at, k4.at, k3.le, k4.le, fun t3 rs H9 hp9 c9 n7 x3 d3 => ?_⟩
        have C9 := C8.trans c9
        replace k1 := k1.but c9 hp8
        replace k2 := k2.but c9 hp8
        replace k3 := k3.but c9 hp8
        replace k4 := k4.but c9 hp8
        replace x1 := x1.but c9 hp8
        replace x2 := x2.but c9 hp8
        refine ⟨_, rfl, _, rfl, _, rfl, _, rfl, _, rfl, a1, a2, a3, t1, t2, ss1, ss2, ss3, ps, qs, rfl, k1, k2, k3, x1, d1, x2, d2, fun HA sA => ⟨true, rfl, iteF ?_⟩⟩
        refine ⟨_, rfl, _, rfl, _, rfl, _, rfl, _, rfl, a2, a3, a4, t2, t3, ss2, ss3, ss4, qs, rs, rfl, k2.same sA, k3.same sA, k4.same sA, x2.same sA, d2, x3.same sA, d3, fun HB sB' => ⟨true, rfl, iteF ?_⟩⟩
        have sB := sA.trans sB'
        refine ⟨_, rfl, _, rfl, _, rfl, _, rfl, _, rfl, .ref a1, .ref a2, .ref a3, .ref t1, .ref t2, ss1, ss2, ss3, ps, qs, rfl, k1.same sB, k2.same sB, k3.same sB, (x1.same sB).v, d1, (x2.same sB).v, d2, fun HC sC' => ⟨true, rfl, iteF ?_⟩⟩
        have sC := sB.trans sC'
        have d12 := join_df d1 d2
        have d23 := join_df d2 d3
        refine ⟨_, rfl, _, rfl, _, rfl, _, rfl, _, rfl, _, rfl, _, rfl, _, rfl, .ref a1, .ref a2, .ref a3, .ref t1, .ref t2, rfl, .inl ⟨ss1, ss2, ss3, ps, qs, (k1.same sC).t, (k2.same sC).t, (k3.same sC).t, (x1.same sC).v, d1, (x2.same sC).v, d2, fun u1 HD sD' nD eD => ?_⟩⟩
        have sD := sC.trans sD'
        refine ⟨_, rfl, .ref a1, .ref a3, .ref a4, .ref u1, .ref t3, rfl, .inl ⟨ss1, ss3, ss4, joinD ps qs, rs, (k1.same sD).t, (k3.same sD).t, (k4.same sD).t, eD.v, d12, (x3.same sD).v, d3, fun u2 HE sE' nE eE => ?_⟩⟩
        have sE := sD.trans sE'
        refine ⟨_, rfl, _, rfl, _, rfl, _, rfl, _, rfl, _, rfl, _, rfl, _, rfl, _, rfl, _, rfl, .ref a2, .ref a3, .ref a4, .ref t2, .ref t3, rfl, .inl ⟨ss2, ss3, ss4, qs, rs, (k2.same sE).t, (k3.same sE).t, (k4.same sE).t, (x2.same sE).v, d2, (x3.same sE).v, d3, fun u3 HF sF' nF eF => ?_⟩⟩
        have sF := sE.trans sF'
        refine ⟨.ref a1, .ref a2, .ref a4, .ref t1, .ref u3, rfl, .inl ⟨ss1, ss2, ss4, ps, joinD qs rs, (k1.same sF).t, (k2.same sF).t, (k4.same sF).t, (x1.same sF).v, d1, eF.v, d23, fun u4 HG sG' nG eG => ?_⟩⟩
        have sG := sF.trans sG'
        rw [join_assoc d1.2 d2.2 d3.2] at eE
        refine ⟨dfD (joinD ps (joinD qs rs)), dfD (joinD ps (joinD qs rs)), (eE.same (sF'.trans sG')).v.dp, eG.v.dp, (df_lay _).2, (df_lay _).2, _, rfl, ?_⟩
        rw [SeqAt.eqv_refl _ (df_lay _).1]
        refine iteF ?_
        refine ⟨_, rfl, _, rfl, _, rfl, _, rfl, _, rfl, _, rfl, p, a1, a2, a3, t1, t2, ss1, ss2, ss3, ps, qs, rfl, hp9.same sG, k1.same sG, k2.same sG, k3.same sG, x1.same sG, d1, fun HH hpH cH => ⟨true, rfl, iteF ⟨hpH, (C9.same sG).trans cH, _, _, _, _, _, _, _, _, _, rfl⟩⟩⟩
      · rintro σ H2 ⟨hp2, c2, z3, z4, z5, z6, z7, z8, z9, z10, z11, rfl⟩
        exact ⟨c2.same_of (sm.trans s1) np, _, _, _, _, _, _, _, _, _, _, _, rfl⟩
    · rintro σ H' ⟨sm, y1, y2, y3, y4, y5, y6, y7, y8, y9, y10, y11, rfl⟩
      exact z _
end
end K16
/-! What the heap behind the top says of an own class of exceptions with one field, in one structure. -/
namespace XR
open PySem L2
open PySem.W (ksFn XL)
def fileIs (P : Program) (K : PySem.W.Frag) (a : Addr) : Bool := match K.lookup a with
  | some ⟨_, _, .fields vs, _⟩ => match (vs[2]? : Option Value) with
    | some (.str file _) => (P.main.file : Str) == file
    | _ => false
  | _ => false
def holdsCls (K : PySem.W.Frag) (a C : Addr) : Bool := match K.lookup a with
  | some ⟨_, _, .cell (some (.ref c)), _⟩ => c == C
  | _ => false
theorem fileIs_of {P : Program} {K : PySem.W.Frag} {a : Addr} (h : fileIs P K a = true) : ∃ x y vs c file tf, K.lookup a = some ⟨x, y, .fields vs, c⟩ ∧ vs[2]? = some (.str file tf) ∧ ((P.main.file : Str) == file) = true := by
  unfold fileIs at h
  split at h
  · rename_i x y vs c e
    split at h
    · rename_i file tf e2
      exact ⟨x, y, vs, c, file, tf, e, e2, h⟩
    · cases h
  · cases h
theorem holdsCls_of {K : PySem.W.Frag} {a C : Addr} (h : holdsCls K a C = true) : ∃ x y c, K.lookup a = some ⟨x, y, .cell (some (.ref C)), c⟩ := by
  unfold holdsCls at h
  split at h
  · rename_i x y c z e
    have : c = C := by simpa using h
    subst this
    exact ⟨x, y, z, e⟩
  · cases h
/-- B: the built-in class above; q: the name of __init__; fld: the field; f, c, d: where __init__, its cell and its code stand -/
structure ClsF (P : Program) (K : PySem.W.Frag) (B newId initId : String) (bmB : List Value) (q fld : Str) (C f c d : Addr) : Prop where
  kp : PySem.W.keepIn K (.ref C) = true
  ei : PySem.W.excInitIn K C bmB newId = true
  ov : PySem.W.excOver K C bmB = true
  di : PySem.W.hasDictIn K C = true
  sa : PySem.W.findIn K (.ref C) "__setattr__" = some (some (.builtin "object.__setattr__"))
  su : PySem.W.ks_superIn K C C "__init__" = some (some (.builtin initId))
  sb : PySem.W.subIn K (.ref C) (.type B) = some true
  me : PySem.W.mroIn K C (.ref C) = some true
  fn : PySem.W.isFn K (.ref f) = true
  cod : PySem.W.codeIn K (.ref d) q = true
  cfl : fileIs P K d = true
  cel : holdsCls K c C = true
  tk : PySem.W.takerIn K C fld = some none
  nf : PySem.W.findIn K (.ref C) fld = some none
  cls : (PySem.W.clsIn K C).isSome = true
  ga : PySem.W.findIn K (.ref C) "__getattribute__" = some (some (.builtin "BaseException.__getattribute__"))
  gt : PySem.W.findIn K (.ref C) "__getattr__" = some none
  sB : PySem.W.subIn K (.ref C) (.type "BaseException") = some true
  ca : PySem.W.findIn K (.ref C) "__class__" = some (some (.builtin "object.__class__"))
  mo : PySem.W.mroIn K C (.type "object") = some true
  tP : PySem.W.typeIn K (.ref C) = some (.type "type")
  op : PySem.W.nsIn K cStatics "thirdparty.any" = some none
  sp : PySem.W.specialIn K (.builtin "object.__class__") "__get__" = some (some (.builtin "getset_descriptor.__get__"))
  tks : PySem.W.takesIn K (.builtin "object.__class__") = some true
theorem xok_of {P : Program} {K : PySem.W.Frag} {mg : Str → Option Value} {B newId initId : String} {bmB : List Value} {x q fld : Str} {C f c d : Addr} (S : ClsF P K B newId initId bmB q fld C f c d) (g : mg x = some (.ref C))
    (mx : MkX K P C none 1 (fvOne fld)) : XOk P K mg x C 1 (fvOne fld) where
  mx := mx
  ne := fun vs _ h => nomatch h
  kp := S.kp
  bP := S.sB
  tP := S.tP
  g := g
  rd := ⟨S.cls, S.ga, S.gt, S.sB, S.di, S.ca, S.sp, S.tks, S.mo⟩
  nf := fun vs y hy => by
    have e : y = (fld, vs.getD 0 .non) := by simpa [fvOne] using hy
    rw [e]
    exact S.nf
end XR
namespace K16
open PySem L2 XR
open PySem.W (ksFn XL)
abbrev prg : Program := PySem.Challenge.rw_alldiffs_k16_whole_diffs_joined.prog
abbrev ini (i : Nat) : Stmt := inClass (top i) 0
abbrev iFn (i : Nat) (qual : Str) (kV doc pm : Value) (an : Option Addr) (cda : Addr) (ct : Value) (cc : Addr) : FuncData :=
  ksFn "__init__" qual (defArgs (ini i)) (defBody (ini i)) (defScope (ini i)) .none kV doc pm an (.ref cda) ct cc
def CInit (K : PySem.W.Frag) (i : Nat) (q : Str) (f cc cda : Addr) : Prop := ∃ oc od osl kV doc pm an ct, K.lookup f = some ⟨oc, od, .func (iFn i q kV doc pm an cda ct cc), osl⟩
section
variable {K : PySem.W.Frag} {C fI cc cda : Addr} {B newId initId : String} {bmB : List Value} {kV doc pm ct : Value} {an : Option Addr}
theorem mkc_InvalidText (X : XCls K prg C fI cc cda B newId initId bmB (iFn 2 "InvalidText.__init__" kV doc pm an cda ct cc)) (tk : PySem.W.takerIn K C "value" = some none) : MkX K prg C none 1 (fvOne "value") := by
    refine ⟨by decide, fI, cc, cda, B, newId, initId, bmB, _, "this is no text: a list of at most 60 lines", 0, ⟨7, 8, 7, 13⟩, ⟨7, 8, 7, 15⟩, ⟨7, 8, 7, 24⟩, ⟨7, 25, 7, 70⟩, ⟨7, 8, 7, 71⟩, ⟨7, 8, 7, 71⟩, fun us => [⟨"value", "value", us.getD 0 .none, ⟨8, 8, 8, 12⟩, ⟨8, 8, 8, 18⟩, ⟨8, 21, 8, 26⟩, ⟨8, 8, 8, 26⟩⟩], fun us => [("value", us.getD 0 .none)], X, fun us hl => ?_⟩
    match us, hl with
    | [u], _ =>
      refine ⟨⟨⟨_, _, _, _, _, _, _, _, _, _, rfl, ⟨_, rfl, rfl⟩, rfl, rfl, rfl, rfl, fun L => ⟨_, rfl⟩, by decide +kernel, rfl, rfl, fun L x hx => ?_⟩, by decide +kernel⟩, by show 1 ≤ 900; decide, fun e s => .of_eq rfl, fun e x hx => ?_, fun e => rfl, fun e x hx => ?_, fun vs r => ?_⟩
      · cases hx with
        | head => exact ⟨rfl, rfl, rfl⟩
        | tail _ h => cases h
      · cases hx with
        | head => rfl
        | tail _ hx =>
          cases hx with
          | head => rfl
          | tail _ hx => cases hx
      · cases hx with
        | head => exact ⟨rfl, tk⟩
        | tail _ h => cases h
      · cases r with
        | cons a b =>
          cases b
          exact .cons ⟨rfl, a⟩ .nil
theorem xok_InvalidText {mg : Str → Option Value} {h : Heap} (X : K.In h) (G : h.Ns mainGlobals mg) (g : PySem.W.nsIn K mainGlobals "InvalidText" = some (some (.ref C))) (a : PySem.W.findIn K (.ref C) "__init__" = some (some (.ref fI))) (i : CInit K 2 "InvalidText.__init__" fI cc cda)
    (S : ClsF prg K "ValueError" "ValueError.__new__" "ValueError.__init__" [.type "ValueError", .type "Exception", .type "BaseException", .type "object"] "InvalidText.__init__" "value" C fI cc cda) : XOk prg K mg "InvalidText" C 1 (fvOne "value") := by
  obtain ⟨oc, od, osl, kV, doc, pm, an, ct, lk⟩ := i
  exact xok_of S (PySem.W.mg_of X G g) (mkc_InvalidText ⟨PySem.F.excBase_ValueError, PySem.F.store_ValueError, PySem.W.kxs_ValueError, S.ei, S.ov, S.di, S.sa, S.su, S.sb, S.me, S.op, a, S.fn, ⟨oc, od, osl, lk⟩, S.cod, fileIs_of S.cfl, holdsCls_of S.cel, S.kp⟩ S.tk)
theorem mkc_InvalidDiff (X : XCls K prg C fI cc cda B newId initId bmB (iFn 3 "InvalidDiff.__init__" kV doc pm an cda ct cc)) (tk : PySem.W.takerIn K C "value" = some none) : MkX K prg C none 1 (fvOne "value") := by
    refine ⟨by decide, fI, cc, cda, B, newId, initId, bmB, _, "this is no diff of these texts", 0, ⟨12, 8, 12, 13⟩, ⟨12, 8, 12, 15⟩, ⟨12, 8, 12, 24⟩, ⟨12, 25, 12, 57⟩, ⟨12, 8, 12, 58⟩, ⟨12, 8, 12, 58⟩, fun us => [⟨"value", "value", us.getD 0 .none, ⟨13, 8, 13, 12⟩, ⟨13, 8, 13, 18⟩, ⟨13, 21, 13, 26⟩, ⟨13, 8, 13, 26⟩⟩], fun us => [("value", us.getD 0 .none)], X, fun us hl => ?_⟩
    match us, hl with
    | [u], _ =>
      refine ⟨⟨⟨_, _, _, _, _, _, _, _, _, _, rfl, ⟨_, rfl, rfl⟩, rfl, rfl, rfl, rfl, fun L => ⟨_, rfl⟩, by decide +kernel, rfl, rfl, fun L x hx => ?_⟩, by decide +kernel⟩, by show 1 ≤ 900; decide, fun e s => .of_eq rfl, fun e x hx => ?_, fun e => rfl, fun e x hx => ?_, fun vs r => ?_⟩
      · cases hx with
        | head => exact ⟨rfl, rfl, rfl⟩
        | tail _ h => cases h
      · cases hx with
        | head => rfl
        | tail _ hx =>
          cases hx with
          | head => rfl
          | tail _ hx => cases hx
      · cases hx with
        | head => exact ⟨rfl, tk⟩
        | tail _ h => cases h
      · cases r with
        | cons a b =>
          cases b
          exact .cons ⟨rfl, a⟩ .nil
theorem xok_InvalidDiff {mg : Str → Option Value} {h : Heap} (X : K.In h) (G : h.Ns mainGlobals mg) (g : PySem.W.nsIn K mainGlobals "InvalidDiff" = some (some (.ref C))) (a : PySem.W.findIn K (.ref C) "__init__" = some (some (.ref fI))) (i : CInit K 3 "InvalidDiff.__init__" fI cc cda)
    (S : ClsF prg K "ValueError" "ValueError.__new__" "ValueError.__init__" [.type "ValueError", .type "Exception", .type "BaseException", .type "object"] "InvalidDiff.__init__" "value" C fI cc cda) : XOk prg K mg "InvalidDiff" C 1 (fvOne "value") := by
  obtain ⟨oc, od, osl, kV, doc, pm, an, ct, lk⟩ := i
  exact xok_of S (PySem.W.mg_of X G g) (mkc_InvalidDiff ⟨PySem.F.excBase_ValueError, PySem.F.store_ValueError, PySem.W.kxs_ValueError, S.ei, S.ov, S.di, S.sa, S.su, S.sb, S.me, S.op, a, S.fn, ⟨oc, od, osl, lk⟩, S.cod, fileIs_of S.cfl, holdsCls_of S.cel, S.kp⟩ S.tk)
end
theorem all_mk {w : World} {K : PySem.W.Frag} {h : Heap} {mg : Str → Option Value} {fa : Addr} (X : K.In h) (G : h.Ns mainGlobals mg) (hfa : mg "law" = some (.ref fa))
    {C_InvalidText f_InvalidText c_InvalidText d_InvalidText : Addr} (a_InvalidText : PySem.W.nsIn K mainGlobals "InvalidText" = some (some (.ref C_InvalidText))) (b_InvalidText : PySem.W.findIn K (.ref C_InvalidText) "__init__" = some (some (.ref f_InvalidText))) (i_InvalidText : CInit K 2 "InvalidText.__init__" f_InvalidText c_InvalidText d_InvalidText)
    (S_InvalidText : ClsF prg K "ValueError" "ValueError.__new__" "ValueError.__init__" [.type "ValueError", .type "Exception", .type "BaseException", .type "object"] "InvalidText.__init__" "value" C_InvalidText f_InvalidText c_InvalidText d_InvalidText)
    {C_InvalidDiff f_InvalidDiff c_InvalidDiff d_InvalidDiff : Addr} (a_InvalidDiff : PySem.W.nsIn K mainGlobals "InvalidDiff" = some (some (.ref C_InvalidDiff))) (b_InvalidDiff : PySem.W.findIn K (.ref C_InvalidDiff) "__init__" = some (some (.ref f_InvalidDiff))) (i_InvalidDiff : CInit K 3 "InvalidDiff.__init__" f_InvalidDiff c_InvalidDiff d_InvalidDiff)
    (S_InvalidDiff : ClsF prg K "ValueError" "ValueError.__new__" "ValueError.__init__" [.type "ValueError", .type "Exception", .type "BaseException", .type "object"] "InvalidDiff.__init__" "value" C_InvalidDiff f_InvalidDiff c_InvalidDiff d_InvalidDiff)
    {g_whole : Addr} {od_whole an_whole : Option Addr} {sl_whole : Array (Option Value)} {oc_whole kV_whole dc_whole pm_whole cd_whole ct_whole : Value}
    (u_whole : PySem.W.nsIn K mainGlobals "is_whole" = some (some (.ref g_whole))) (l_whole : K.lookup g_whole = some ⟨oc_whole, od_whole, .func (PySem.W.fnOf "is_whole" "is_whole" (defArgs sWhole) (defBody sWhole) (defScope sWhole) .none kV_whole dc_whole pm_whole an_whole cd_whole ct_whole), sl_whole⟩) (v_whole : PySem.W.codeIn K cd_whole "is_whole" = true) (k_whole : PySem.W.keepIn K (.ref g_whole) = true)
    {g_within : Addr} {od_within an_within : Option Addr} {sl_within : Array (Option Value)} {oc_within kV_within dc_within pm_within cd_within ct_within : Value}
    (u_within : PySem.W.nsIn K mainGlobals "is_within" = some (some (.ref g_within))) (l_within : K.lookup g_within = some ⟨oc_within, od_within, .func (PySem.W.fnOf "is_within" "is_within" (defArgs sWithin) (defBody sWithin) (defScope sWithin) .none kV_within dc_within pm_within an_within cd_within ct_within), sl_within⟩) (v_within : PySem.W.codeIn K cd_within "is_within" = true) (k_within : PySem.W.keepIn K (.ref g_within) = true)
    {g_list : Addr} {od_list an_list : Option Addr} {sl_list : Array (Option Value)} {oc_list kV_list dc_list pm_list cd_list ct_list : Value}
    (u_list : PySem.W.nsIn K mainGlobals "is_list" = some (some (.ref g_list))) (l_list : K.lookup g_list = some ⟨oc_list, od_list, .func (PySem.W.fnOf "is_list" "is_list" (defArgs sIsList) (defBody sIsList) (defScope sIsList) .none kV_list dc_list pm_list an_list cd_list ct_list), sl_list⟩) (v_list : PySem.W.codeIn K cd_list "is_list" = true) (k_list : PySem.W.keepIn K (.ref g_list) = true)
    {g_tup : Addr} {od_tup an_tup : Option Addr} {sl_tup : Array (Option Value)} {oc_tup kV_tup dc_tup pm_tup cd_tup ct_tup : Value}
    (u_tup : PySem.W.nsIn K mainGlobals "is_tuple" = some (some (.ref g_tup))) (l_tup : K.lookup g_tup = some ⟨oc_tup, od_tup, .func (PySem.W.fnOf "is_tuple" "is_tuple" (defArgs sIsTuple) (defBody sIsTuple) (defScope sIsTuple) .none kV_tup dc_tup pm_tup an_tup cd_tup ct_tup), sl_tup⟩) (v_tup : PySem.W.codeIn K cd_tup "is_tuple" = true) (k_tup : PySem.W.keepIn K (.ref g_tup) = true)
    {g_spot : Addr} {od_spot an_spot : Option Addr} {sl_spot : Array (Option Value)} {oc_spot kV_spot dc_spot pm_spot cd_spot ct_spot : Value}
    (u_spot : PySem.W.nsIn K mainGlobals "is_spot" = some (some (.ref g_spot))) (l_spot : K.lookup g_spot = some ⟨oc_spot, od_spot, .func (PySem.W.fnOf "is_spot" "is_spot" (defArgs sSpot) (defBody sSpot) (defScope sSpot) .none kV_spot dc_spot pm_spot an_spot cd_spot ct_spot), sl_spot⟩) (v_spot : PySem.W.codeIn K cd_spot "is_spot" = true) (k_spot : PySem.W.keepIn K (.ref g_spot) = true)
    {g_line : Addr} {od_line an_line : Option Addr} {sl_line : Array (Option Value)} {oc_line kV_line dc_line pm_line cd_line ct_line : Value}
    (u_line : PySem.W.nsIn K mainGlobals "is_line" = some (some (.ref g_line))) (l_line : K.lookup g_line = some ⟨oc_line, od_line, .func (PySem.W.fnOf "is_line" "is_line" (defArgs sLine) (defBody sLine) (defScope sLine) .none kV_line dc_line pm_line an_line cd_line ct_line), sl_line⟩) (v_line : PySem.W.codeIn K cd_line "is_line" = true) (k_line : PySem.W.keepIn K (.ref g_line) = true)
    {g_text : Addr} {od_text an_text : Option Addr} {sl_text : Array (Option Value)} {oc_text kV_text dc_text pm_text cd_text ct_text : Value}
    (u_text : PySem.W.nsIn K mainGlobals "is_text" = some (some (.ref g_text))) (l_text : K.lookup g_text = some ⟨oc_text, od_text, .func (PySem.W.fnOf "is_text" "is_text" (defArgs sIsText) (defBody sIsText) (defScope sIsText) .none kV_text dc_text pm_text an_text cd_text ct_text), sl_text⟩) (v_text : PySem.W.codeIn K cd_text "is_text" = true) (k_text : PySem.W.keepIn K (.ref g_text) = true)
    {g_check : Addr} {od_check an_check : Option Addr} {sl_check : Array (Option Value)} {oc_check kV_check dc_check pm_check cd_check ct_check : Value}
    (u_check : PySem.W.nsIn K mainGlobals "check_texts" = some (some (.ref g_check))) (l_check : K.lookup g_check = some ⟨oc_check, od_check, .func (PySem.W.fnOf "check_texts" "check_texts" (defArgs sCheck) (defBody sCheck) (defScope sCheck) .none kV_check dc_check pm_check an_check cd_check ct_check), sl_check⟩) (v_check : PySem.W.codeIn K cd_check "check_texts" = true) (k_check : PySem.W.keepIn K (.ref g_check) = true)
    {g_pair : Addr} {od_pair an_pair : Option Addr} {sl_pair : Array (Option Value)} {oc_pair kV_pair dc_pair pm_pair cd_pair ct_pair : Value}
    (u_pair : PySem.W.nsIn K mainGlobals "is_pair" = some (some (.ref g_pair))) (l_pair : K.lookup g_pair = some ⟨oc_pair, od_pair, .func (PySem.W.fnOf "is_pair" "is_pair" (defArgs sPair) (defBody sPair) (defScope sPair) .none kV_pair dc_pair pm_pair an_pair cd_pair ct_pair), sl_pair⟩) (v_pair : PySem.W.codeIn K cd_pair "is_pair" = true) (k_pair : PySem.W.keepIn K (.ref g_pair) = true)
    {g_rise : Addr} {od_rise an_rise : Option Addr} {sl_rise : Array (Option Value)} {oc_rise kV_rise dc_rise pm_rise cd_rise ct_rise : Value}
    (u_rise : PySem.W.nsIn K mainGlobals "is_rising" = some (some (.ref g_rise))) (l_rise : K.lookup g_rise = some ⟨oc_rise, od_rise, .func (PySem.W.fnOf "is_rising" "is_rising" (defArgs sRising) (defBody sRising) (defScope sRising) .none kV_rise dc_rise pm_rise an_rise cd_rise ct_rise), sl_rise⟩) (v_rise : PySem.W.codeIn K cd_rise "is_rising" = true) (k_rise : PySem.W.keepIn K (.ref g_rise) = true)
    {g_isdiff : Addr} {od_isdiff an_isdiff : Option Addr} {sl_isdiff : Array (Option Value)} {oc_isdiff kV_isdiff dc_isdiff pm_isdiff cd_isdiff ct_isdiff : Value}
    (u_isdiff : PySem.W.nsIn K mainGlobals "is_diff" = some (some (.ref g_isdiff))) (l_isdiff : K.lookup g_isdiff = some ⟨oc_isdiff, od_isdiff, .func (PySem.W.fnOf "is_diff" "is_diff" (defArgs sIsDiff) (defBody sIsDiff) (defScope sIsDiff) .none kV_isdiff dc_isdiff pm_isdiff an_isdiff cd_isdiff ct_isdiff), sl_isdiff⟩) (v_isdiff : PySem.W.codeIn K cd_isdiff "is_diff" = true) (k_isdiff : PySem.W.keepIn K (.ref g_isdiff) = true)
    {g_checkd : Addr} {od_checkd an_checkd : Option Addr} {sl_checkd : Array (Option Value)} {oc_checkd kV_checkd dc_checkd pm_checkd cd_checkd ct_checkd : Value}
    (u_checkd : PySem.W.nsIn K mainGlobals "check_diff" = some (some (.ref g_checkd))) (l_checkd : K.lookup g_checkd = some ⟨oc_checkd, od_checkd, .func (PySem.W.fnOf "check_diff" "check_diff" (defArgs sCheckD) (defBody sCheckD) (defScope sCheckD) .none kV_checkd dc_checkd pm_checkd an_checkd cd_checkd ct_checkd), sl_checkd⟩) (v_checkd : PySem.W.codeIn K cd_checkd "check_diff" = true) (k_checkd : PySem.W.keepIn K (.ref g_checkd) = true)
    {g_partner : Addr} {od_partner an_partner : Option Addr} {sl_partner : Array (Option Value)} {oc_partner kV_partner dc_partner pm_partner cd_partner ct_partner : Value}
    (u_partner : PySem.W.nsIn K mainGlobals "partner_of" = some (some (.ref g_partner))) (l_partner : K.lookup g_partner = some ⟨oc_partner, od_partner, .func (PySem.W.fnOf "partner_of" "partner_of" (defArgs sPartner) (defBody sPartner) (defScope sPartner) .none kV_partner dc_partner pm_partner an_partner cd_partner ct_partner), sl_partner⟩) (v_partner : PySem.W.codeIn K cd_partner "partner_of" = true) (k_partner : PySem.W.keepIn K (.ref g_partner) = true)
    {g_about : Addr} {od_about an_about : Option Addr} {sl_about : Array (Option Value)} {oc_about kV_about dc_about pm_about cd_about ct_about : Value}
    (u_about : PySem.W.nsIn K mainGlobals "turned_about" = some (some (.ref g_about))) (l_about : K.lookup g_about = some ⟨oc_about, od_about, .func (PySem.W.fnOf "turned_about" "turned_about" (defArgs sAbout) (defBody sAbout) (defScope sAbout) .none kV_about dc_about pm_about an_about cd_about ct_about), sl_about⟩) (v_about : PySem.W.codeIn K cd_about "turned_about" = true) (k_about : PySem.W.keepIn K (.ref g_about) = true)
    {g_over : Addr} {od_over an_over : Option Addr} {sl_over : Array (Option Value)} {oc_over kV_over dc_over pm_over cd_over ct_over : Value}
    (u_over : PySem.W.nsIn K mainGlobals "turned_over" = some (some (.ref g_over))) (l_over : K.lookup g_over = some ⟨oc_over, od_over, .func (PySem.W.fnOf "turned_over" "turned_over" (defArgs sOver) (defBody sOver) (defScope sOver) .none kV_over dc_over pm_over an_over cd_over ct_over), sl_over⟩) (v_over : PySem.W.codeIn K cd_over "turned_over" = true) (k_over : PySem.W.keepIn K (.ref g_over) = true)
    {g_joined : Addr} {od_joined an_joined : Option Addr} {sl_joined : Array (Option Value)} {oc_joined kV_joined dc_joined pm_joined cd_joined ct_joined : Value}
    (u_joined : PySem.W.nsIn K mainGlobals "joined_diffs" = some (some (.ref g_joined))) (l_joined : K.lookup g_joined = some ⟨oc_joined, od_joined, .func (PySem.W.fnOf "joined_diffs" "joined_diffs" (defArgs sJoined) (defBody sJoined) (defScope sJoined) .none kV_joined dc_joined pm_joined an_joined cd_joined ct_joined), sl_joined⟩) (v_joined : PySem.W.codeIn K cd_joined "joined_diffs" = true) (k_joined : PySem.W.keepIn K (.ref g_joined) = true)
    {g_pot : Addr} {od_pot an_pot : Option Addr} {sl_pot : Array (Option Value)} {oc_pot kV_pot dc_pot pm_pot cd_pot ct_pot : Value}
    (u_pot : PySem.W.nsIn K mainGlobals "_law_pot" = some (some (.ref g_pot))) (l_pot : K.lookup g_pot = some ⟨oc_pot, od_pot, .func (PySem.W.fnOf "_law_pot" "_law_pot" (defArgs sPot) (defBody sPot) (defScope sPot) .none kV_pot dc_pot pm_pot an_pot cd_pot ct_pot), sl_pot⟩) (v_pot : PySem.W.codeIn K cd_pot "_law_pot" = true) (k_pot : PySem.W.keepIn K (.ref g_pot) = true)
    {g_draw : Addr} {od_draw an_draw : Option Addr} {sl_draw : Array (Option Value)} {oc_draw kV_draw dc_draw pm_draw cd_draw ct_draw : Value}
    (u_draw : PySem.W.nsIn K mainGlobals "_law_draw" = some (some (.ref g_draw))) (l_draw : K.lookup g_draw = some ⟨oc_draw, od_draw, .func (PySem.W.fnOf "_law_draw" "_law_draw" (defArgs sDraw) (defBody sDraw) (defScope sDraw) .none kV_draw dc_draw pm_draw an_draw cd_draw ct_draw), sl_draw⟩) (v_draw : PySem.W.codeIn K cd_draw "_law_draw" = true) (k_draw : PySem.W.keepIn K (.ref g_draw) = true)
    {g_pick : Addr} {od_pick an_pick : Option Addr} {sl_pick : Array (Option Value)} {oc_pick kV_pick dc_pick pm_pick cd_pick ct_pick : Value}
    (u_pick : PySem.W.nsIn K mainGlobals "_law_pick" = some (some (.ref g_pick))) (l_pick : K.lookup g_pick = some ⟨oc_pick, od_pick, .func (PySem.W.fnOf "_law_pick" "_law_pick" (defArgs sPick) (defBody sPick) (defScope sPick) .none kV_pick dc_pick pm_pick an_pick cd_pick ct_pick), sl_pick⟩) (v_pick : PySem.W.codeIn K cd_pick "_law_pick" = true) (k_pick : PySem.W.keepIn K (.ref g_pick) = true)
    {g_ltext : Addr} {od_ltext an_ltext : Option Addr} {sl_ltext : Array (Option Value)} {oc_ltext kV_ltext dc_ltext pm_ltext cd_ltext ct_ltext : Value}
    (u_ltext : PySem.W.nsIn K mainGlobals "_law_text" = some (some (.ref g_ltext))) (l_ltext : K.lookup g_ltext = some ⟨oc_ltext, od_ltext, .func (PySem.W.fnOf "_law_text" "_law_text" (defArgs sText) (defBody sText) (defScope sText) .none kV_ltext dc_ltext pm_ltext an_ltext cd_ltext ct_ltext), sl_ltext⟩) (v_ltext : PySem.W.codeIn K cd_ltext "_law_text" = true) (k_ltext : PySem.W.keepIn K (.ref g_ltext) = true)
    {g_near : Addr} {od_near an_near : Option Addr} {sl_near : Array (Option Value)} {oc_near kV_near dc_near pm_near cd_near ct_near : Value}
    (u_near : PySem.W.nsIn K mainGlobals "_law_near" = some (some (.ref g_near))) (l_near : K.lookup g_near = some ⟨oc_near, od_near, .func (PySem.W.fnOf "_law_near" "_law_near" (defArgs sNear) (defBody sNear) (defScope sNear) .none kV_near dc_near pm_near an_near cd_near ct_near), sl_near⟩) (v_near : PySem.W.codeIn K cd_near "_law_near" = true) (k_near : PySem.W.keepIn K (.ref g_near) = true)
    {g_two : Addr} {od_two an_two : Option Addr} {sl_two : Array (Option Value)} {oc_two kV_two dc_two pm_two cd_two ct_two : Value}
    (u_two : PySem.W.nsIn K mainGlobals "_law_two" = some (some (.ref g_two))) (l_two : K.lookup g_two = some ⟨oc_two, od_two, .func (PySem.W.fnOf "_law_two" "_law_two" (defArgs sTwo) (defBody sTwo) (defScope sTwo) .none kV_two dc_two pm_two an_two cd_two ct_two), sl_two⟩) (v_two : PySem.W.codeIn K cd_two "_law_two" = true) (k_two : PySem.W.keepIn K (.ref g_two) = true)
    {g_diff : Addr} {od_diff an_diff : Option Addr} {sl_diff : Array (Option Value)} {oc_diff kV_diff dc_diff pm_diff cd_diff ct_diff : Value}
    (u_diff : PySem.W.nsIn K mainGlobals "_law_diff" = some (some (.ref g_diff))) (l_diff : K.lookup g_diff = some ⟨oc_diff, od_diff, .func (PySem.W.fnOf "_law_diff" "_law_diff" (defArgs sDiff) (defBody sDiff) (defScope sDiff) .none kV_diff dc_diff pm_diff an_diff cd_diff ct_diff), sl_diff⟩) (v_diff : PySem.W.codeIn K cd_diff "_law_diff" = true) (k_diff : PySem.W.keepIn K (.ref g_diff) = true)
    {g_same : Addr} {od_same an_same : Option Addr} {sl_same : Array (Option Value)} {oc_same kV_same dc_same pm_same cd_same ct_same : Value}
    (u_same : PySem.W.nsIn K mainGlobals "_law_same" = some (some (.ref g_same))) (l_same : K.lookup g_same = some ⟨oc_same, od_same, .func (PySem.W.fnOf "_law_same" "_law_same" (defArgs sSame) (defBody sSame) (defScope sSame) .none kV_same dc_same pm_same an_same cd_same ct_same), sl_same⟩) (v_same : PySem.W.codeIn K cd_same "_law_same" = true) (k_same : PySem.W.keepIn K (.ref g_same) = true)
    {g_lawj : Addr} {od_lawj an_lawj : Option Addr} {sl_lawj : Array (Option Value)} {oc_lawj kV_lawj dc_lawj pm_lawj cd_lawj ct_lawj : Value}
    (u_lawj : PySem.W.nsIn K mainGlobals "_law_joined" = some (some (.ref g_lawj))) (l_lawj : K.lookup g_lawj = some ⟨oc_lawj, od_lawj, .func (PySem.W.fnOf "_law_joined" "_law_joined" (defArgs sLawJ) (defBody sLawJ) (defScope sLawJ) .none kV_lawj dc_lawj pm_lawj an_lawj cd_lawj ct_lawj), sl_lawj⟩) (v_lawj : PySem.W.codeIn K cd_lawj "_law_joined" = true) (k_lawj : PySem.W.keepIn K (.ref g_lawj) = true)
    {g_twor : Addr} {od_twor an_twor : Option Addr} {sl_twor : Array (Option Value)} {oc_twor kV_twor dc_twor pm_twor cd_twor ct_twor : Value}
    (u_twor : PySem.W.nsIn K mainGlobals "_law_two_right" = some (some (.ref g_twor))) (l_twor : K.lookup g_twor = some ⟨oc_twor, od_twor, .func (PySem.W.fnOf "_law_two_right" "_law_two_right" (defArgs sTwoR) (defBody sTwoR) (defScope sTwoR) .none kV_twor dc_twor pm_twor an_twor cd_twor ct_twor), sl_twor⟩) (v_twor : PySem.W.codeIn K cd_twor "_law_two_right" = true) (k_twor : PySem.W.keepIn K (.ref g_twor) = true)
    {g_tr : Addr} {od_tr an_tr : Option Addr} {sl_tr : Array (Option Value)} {oc_tr kV_tr dc_tr pm_tr cd_tr ct_tr : Value}
    (u_tr : PySem.W.nsIn K mainGlobals "_law_turned_right" = some (some (.ref g_tr))) (l_tr : K.lookup g_tr = some ⟨oc_tr, od_tr, .func (PySem.W.fnOf "_law_turned_right" "_law_turned_right" (defArgs sTR) (defBody sTR) (defScope sTR) .none kV_tr dc_tr pm_tr an_tr cd_tr ct_tr), sl_tr⟩) (v_tr : PySem.W.codeIn K cd_tr "_law_turned_right" = true) (k_tr : PySem.W.keepIn K (.ref g_tr) = true)
    {g_met : Addr} {od_met an_met : Option Addr} {sl_met : Array (Option Value)} {oc_met kV_met dc_met pm_met cd_met ct_met : Value}
    (u_met : PySem.W.nsIn K mainGlobals "_law_met" = some (some (.ref g_met))) (l_met : K.lookup g_met = some ⟨oc_met, od_met, .func (PySem.W.fnOf "_law_met" "_law_met" (defArgs sMet) (defBody sMet) (defScope sMet) .none kV_met dc_met pm_met an_met cd_met ct_met), sl_met⟩) (v_met : PySem.W.codeIn K cd_met "_law_met" = true) (k_met : PySem.W.keepIn K (.ref g_met) = true)
    {g_refused : Addr} {od_refused an_refused : Option Addr} {sl_refused : Array (Option Value)} {oc_refused kV_refused dc_refused pm_refused cd_refused ct_refused : Value}
    (u_refused : PySem.W.nsIn K mainGlobals "_law_refused" = some (some (.ref g_refused))) (l_refused : K.lookup g_refused = some ⟨oc_refused, od_refused, .func (PySem.W.fnOf "_law_refused" "_law_refused" (defArgs sRefused) (defBody sRefused) (defScope sRefused) .none kV_refused dc_refused pm_refused an_refused cd_refused ct_refused), sl_refused⟩) (v_refused : PySem.W.codeIn K cd_refused "_law_refused" = true) (k_refused : PySem.W.keepIn K (.ref g_refused) = true)
    {g_law : Addr} {od_law an_law : Option Addr} {sl_law : Array (Option Value)} {oc_law kV_law dc_law pm_law cd_law ct_law : Value}
    (u_law : PySem.W.nsIn K mainGlobals "law" = some (some (.ref g_law))) (l_law : K.lookup g_law = some ⟨oc_law, od_law, .func (PySem.W.fnOf "law" "law" (defArgs sLaw) (defBody sLaw) (defScope sLaw) .none kV_law dc_law pm_law an_law cd_law ct_law), sl_law⟩) (v_law : PySem.W.codeIn K cd_law "law" = true) (k_law : PySem.W.keepIn K (.ref g_law) = true)
    (zz : (["len", "abs", "max", "min", "int", "divmod", "repr", "isinstance", "enumerate", "range", "all", "super", "zip", "tuple", "dict", "bool", "str", "list"].map fun x => PySem.W.nsIn K mainGlobals (Str.ofString x)) = [some none, some none, some none, some none, some none, some none, some none, some none, some none, some none, some none, some none, some none, some none, some none, some none, some none, some none])
    {t_MOST : Nat} (c_MOST : PySem.W.nsIn K mainGlobals "MOST" = some (some (.int 60 t_MOST)))
    (x_ap : Apart K C_InvalidText C_InvalidDiff)
    : ∃ fd : FuncData, (∀ (s : Shared) (v : Value), BindsTo s fd ⟨[v], []⟩ [("_law_script", v)]) ∧ ∀ base : Heap, K.In base → base.Ns mainGlobals mg → FnG prg w K mg base 9 fa fd ["_law_script"] (spLaw K) := by
  have e := hfa.symm.trans (PySem.W.mg_of X G u_law)
  cases e
  have zb : ∀ x ∈ (["len", "abs", "max", "min", "int", "divmod", "repr", "isinstance", "enumerate", "range", "all", "super", "zip", "tuple", "dict", "bool", "str", "list"] : List String), mg (Str.ofString x) = none := fun x hx => PySem.W.mg_none_of X G (by
    have e : ∀ y ∈ (["len", "abs", "max", "min", "int", "divmod", "repr", "isinstance", "enumerate", "range", "all", "super", "zip", "tuple", "dict", "bool", "str", "list"] : List String), (fun x => PySem.W.nsIn K mainGlobals (Str.ofString x)) y = (fun _ => some none) y := List.map_inj_left.mp (zz.trans rfl)
    exact e x hx)
  have T : Blt mg := ⟨fun x hx => by
    simp only [List.mem_cons, List.not_mem_nil, or_false] at hx
    rcases hx with rfl | rfl | rfl | rfl | rfl | rfl | rfl | rfl | rfl | rfl | rfl | rfl | rfl | rfl | rfl | rfl | rfl | rfl <;> exact zb _ (by decide)⟩
  have X_InvalidText := xok_InvalidText X G a_InvalidText b_InvalidText i_InvalidText S_InvalidText
  have X_InvalidDiff := xok_InvalidDiff X G a_InvalidDiff b_InvalidDiff i_InvalidDiff S_InvalidDiff
  have M_MOST := PySem.W.mg_of X G c_MOST
  have F_whole := fun_mk (st := sWhole) l_whole v_whole k_whole
  have b_whole := F_whole.binds (ps := ["value"]) fun _ _ _ _ _ _ us hl => match us, hl with | [_], _ => rfl
  have m_whole := PySem.W.mg_of X G u_whole
  have F_within := fun_mk (st := sWithin) l_within v_within k_within
  have b_within := F_within.binds (ps := ["value", "low", "high"]) fun _ _ _ _ _ _ us hl => match us, hl with | [_, _, _], _ => rfl
  have m_within := PySem.W.mg_of X G u_within
  have F_list := fun_mk (st := sIsList) l_list v_list k_list
  have b_list := F_list.binds (ps := ["value"]) fun _ _ _ _ _ _ us hl => match us, hl with | [_], _ => rfl
  have m_list := PySem.W.mg_of X G u_list
  have F_tup := fun_mk (st := sIsTuple) l_tup v_tup k_tup
  have b_tup := F_tup.binds (ps := ["value", "many"]) fun _ _ _ _ _ _ us hl => match us, hl with | [_, _], _ => rfl
  have m_tup := PySem.W.mg_of X G u_tup
  have F_spot := fun_mk (st := sSpot) l_spot v_spot k_spot
  have b_spot := F_spot.binds (ps := ["value"]) fun _ _ _ _ _ _ us hl => match us, hl with | [_], _ => rfl
  have m_spot := PySem.W.mg_of X G u_spot
  have F_line := fun_mk (st := sLine) l_line v_line k_line
  have b_line := F_line.binds (ps := ["value"]) fun _ _ _ _ _ _ us hl => match us, hl with | [_], _ => rfl
  have m_line := PySem.W.mg_of X G u_line
  have F_text := fun_mk (st := sIsText) l_text v_text k_text
  have b_text := F_text.binds (ps := ["value"]) fun _ _ _ _ _ _ us hl => match us, hl with | [_], _ => rfl
  have m_text := PySem.W.mg_of X G u_text
  have F_check := fun_mk (st := sCheck) l_check v_check k_check
  have m_check := PySem.W.mg_of X G u_check
  have F_pair := fun_mk (st := sPair) l_pair v_pair k_pair
  have b_pair := F_pair.binds (ps := ["old", "new", "value"]) fun _ _ _ _ _ _ us hl => match us, hl with | [_, _, _], _ => rfl
  have m_pair := PySem.W.mg_of X G u_pair
  have F_rise := fun_mk (st := sRising) l_rise v_rise k_rise
  have b_rise := F_rise.binds (ps := ["pairs"]) fun _ _ _ _ _ _ us hl => match us, hl with | [_], _ => rfl
  have m_rise := PySem.W.mg_of X G u_rise
  have F_isdiff := fun_mk (st := sIsDiff) l_isdiff v_isdiff k_isdiff
  have b_isdiff := F_isdiff.binds (ps := ["old", "new", "value"]) fun _ _ _ _ _ _ us hl => match us, hl with | [_, _, _], _ => rfl
  have m_isdiff := PySem.W.mg_of X G u_isdiff
  have F_checkd := fun_mk (st := sCheckD) l_checkd v_checkd k_checkd
  have b_checkd := F_checkd.binds (ps := ["old", "new", "diff"]) fun _ _ _ _ _ _ us hl => match us, hl with | [_, _, _], _ => rfl
  have m_checkd := PySem.W.mg_of X G u_checkd
  have F_partner := fun_mk (st := sPartner) l_partner v_partner k_partner
  have b_partner := F_partner.binds (ps := ["old", "new", "diff", "i"]) fun _ _ _ _ _ _ us hl => match us, hl with | [_, _, _, _], _ => rfl
  have m_partner := PySem.W.mg_of X G u_partner
  have F_about := fun_mk (st := sAbout) l_about v_about k_about
  have b_about := F_about.binds (ps := ["old", "new", "diff"]) fun _ _ _ _ _ _ us hl => match us, hl with | [_, _, _], _ => rfl
  have m_about := PySem.W.mg_of X G u_about
  have F_over := fun_mk (st := sOver) l_over v_over k_over
  have b_over := F_over.binds (ps := ["old", "new", "diff"]) fun _ _ _ _ _ _ us hl => match us, hl with | [_, _, _], _ => rfl
  have m_over := PySem.W.mg_of X G u_over
  have F_joined := fun_mk (st := sJoined) l_joined v_joined k_joined
  have b_joined := F_joined.binds (ps := ["old", "middle", "new", "first", "second"]) fun _ _ _ _ _ _ us hl => match us, hl with | [_, _, _, _, _], _ => rfl
  have m_joined := PySem.W.mg_of X G u_joined
  have F_pot := fun_mk (st := sPot) l_pot v_pot k_pot
  have b_pot := F_pot.binds (ps := ["_law_script", "_law_index"]) fun _ _ _ _ _ _ us hl => match us, hl with | [_, _], _ => rfl
  have m_pot := PySem.W.mg_of X G u_pot
  have F_draw := fun_mk (st := sDraw) l_draw v_draw k_draw
  have b_draw := F_draw.binds (ps := ["_law_pot_here", "_law_many"]) fun _ _ _ _ _ _ us hl => match us, hl with | [_, _], _ => rfl
  have m_draw := PySem.W.mg_of X G u_draw
  have F_pick := fun_mk (st := sPick) l_pick v_pick k_pick
  have b_pick := F_pick.binds (ps := ["_law_pot_here", "_law_some"]) fun _ _ _ _ _ _ us hl => match us, hl with | [_, _], _ => rfl
  have m_pick := PySem.W.mg_of X G u_pick
  have F_ltext := fun_mk (st := sText) l_ltext v_ltext k_ltext
  have b_ltext := F_ltext.binds (ps := ["_law_pot_here", "_law_most"]) fun _ _ _ _ _ _ us hl => match us, hl with | [_, _], _ => rfl
  have m_ltext := PySem.W.mg_of X G u_ltext
  have F_near := fun_mk (st := sNear) l_near v_near k_near
  have b_near := F_near.binds (ps := ["_law_pot_here", "_law_lines", "_law_most"]) fun _ _ _ _ _ _ us hl => match us, hl with | [_, _, _], _ => rfl
  have m_near := PySem.W.mg_of X G u_near
  have F_two := fun_mk (st := sTwo) l_two v_two k_two
  have b_two := F_two.binds (ps := ["_law_pot_here", "_law_most"]) fun _ _ _ _ _ _ us hl => match us, hl with | [_, _], _ => rfl
  have m_two := PySem.W.mg_of X G u_two
  have F_diff := fun_mk (st := sDiff) l_diff v_diff k_diff
  have b_diff := F_diff.binds (ps := ["_law_pot_here", "_law_elder", "_law_newer"]) fun _ _ _ _ _ _ us hl => match us, hl with | [_, _, _], _ => rfl
  have m_diff := PySem.W.mg_of X G u_diff
  have F_same := fun_mk (st := sSame) l_same v_same k_same
  have b_same := F_same.binds (ps := ["_law_lines"]) fun _ _ _ _ _ _ us hl => match us, hl with | [_], _ => rfl
  have m_same := PySem.W.mg_of X G u_same
  have F_lawj := fun_mk (st := sLawJ) l_lawj v_lawj k_lawj
  have b_lawj := F_lawj.binds (ps := ["_law_elder", "_law_one", "_law_other"]) fun _ _ _ _ _ _ us hl => match us, hl with | [_, _, _], _ => rfl
  have m_lawj := PySem.W.mg_of X G u_lawj
  have F_twor := fun_mk (st := sTwoR) l_twor v_twor k_twor
  have b_twor := F_twor.binds (ps := ["_law_elder", "_law_midway", "_law_newer", "_law_one", "_law_other"]) fun _ _ _ _ _ _ us hl => match us, hl with | [_, _, _, _, _], _ => rfl
  have m_twor := PySem.W.mg_of X G u_twor
  have F_tr := fun_mk (st := sTR) l_tr v_tr k_tr
  have b_tr := F_tr.binds (ps := ["_law_elder", "_law_midway", "_law_newer", "_law_one", "_law_other"]) fun _ _ _ _ _ _ us hl => match us, hl with | [_, _, _, _, _], _ => rfl
  have m_tr := PySem.W.mg_of X G u_tr
  have F_met := fun_mk (st := sMet) l_met v_met k_met
  have b_met := F_met.binds (ps := ["_law_one", "_law_two_here", "_law_three", "_law_early", "_law_later"]) fun _ _ _ _ _ _ us hl => match us, hl with | [_, _, _, _, _], _ => rfl
  have m_met := PySem.W.mg_of X G u_met
  have F_refused := fun_mk (st := sRefused) l_refused v_refused k_refused
  have b_refused := F_refused.binds (ps := ["_law_pot_here", "_law_elder", "_law_midway", "_law_newer", "_law_one", "_law_other"]) fun _ _ _ _ _ _ us hl => match us, hl with | [_, _, _, _, _, _], _ => rfl
  have m_refused := PySem.W.mg_of X G u_refused
  have F_law := fun_mk (st := sLaw) l_law v_law k_law
  have b_law := F_law.binds (ps := ["_law_script"]) fun _ _ _ _ _ _ us hl => match us, hl with | [_], _ => rfl
  have m_law := PySem.W.mg_of X G u_law
  refine ⟨PySem.W.fnOf "law" "law" (defArgs sLaw) (defBody sLaw) (defScope sLaw) .none kV_law dc_law pm_law an_law cd_law ct_law, fun s v => .of_eq rfl, fun base _ _ => ?_⟩
  have G_whole := ok_whole (P := prg) (w := w) (base := base) F_whole T
  have G_within := ok_within (P := prg) (w := w) (base := base) F_within F_whole G_whole b_whole m_whole
  have G_spot := ok_spot (P := prg) (w := w) (base := base) F_spot T F_tup b_tup m_tup F_whole b_whole m_whole
  have G_text := ok_isText (P := prg) (w := w) (base := base) F_text T M_MOST F_list b_list m_list F_line b_line m_line
  have G_check := ok_check (P := prg) (w := w) (base := base) l_check v_check (T.all "super" (by decide)) X_InvalidText F_text G_text b_text m_text
  have G_pair := ok_pair (P := prg) (w := w) (base := base) F_pair T F_spot G_spot b_spot m_spot
  have G_isdiff := ok_isDiff (P := prg) (w := w) (base := base) F_isdiff T G_check k_check m_check F_pair G_pair b_pair m_pair F_rise b_rise m_rise
  have G_checkd := ok_checkD (P := prg) (w := w) (base := base) F_checkd (T.all "super" (by decide)) X_InvalidDiff F_isdiff G_isdiff b_isdiff m_isdiff
  have CK : Chk prg w K mg base g_checkd _ _ _ := ⟨F_checkd, G_checkd, b_checkd, m_checkd⟩
  have G_partner := ok_partner (P := prg) (w := w) (base := base) F_partner T CK F_within G_within b_within m_within
  have G_about := ok_about (P := prg) (w := w) (base := base) F_about T CK
  have G_over := ok_over (P := prg) (w := w) (base := base) F_over T CK
  have G_joined := ok_joined (P := prg) (w := w) (base := base) F_joined T CK G_check k_check m_check
  have PK : Pkg prg w K mg base _ _ _ _ _ _ _ _ _ _ _ _ := ⟨F_joined, G_joined, b_joined, kb5 F_joined fun _ _ _ _ _ _ _ _ _ _ _ => rfl, m_joined, F_about, G_about, b_about, m_about, F_over, G_over, b_over, m_over, F_partner, G_partner, b_partner, kb4 F_partner fun _ _ _ _ _ _ _ _ _ _ => rfl, m_partner, F_isdiff, G_isdiff, b_isdiff, m_isdiff⟩
  have G_pot := ok_pot (P := prg) (w := w) (base := base) F_pot T
  have G_draw := ok_draw (P := prg) (w := w) (base := base) F_draw T
  have G_pick := ok_pick (P := prg) (w := w) (base := base) F_pick T F_draw b_draw m_draw
  have DR : Draws prg w K mg base _ _ _ _ := ⟨F_draw, G_draw, b_draw, m_draw, F_pick, G_pick, b_pick, m_pick⟩
  have G_ltext := ok_text (P := prg) (w := w) (base := base) F_ltext T DR
  have G_near := ok_near (P := prg) (w := w) (base := base) F_near T DR
  have G_two := ok_two (P := prg) (w := w) (base := base) F_two T DR F_ltext b_ltext m_ltext F_near b_near m_near
  have G_diff := ok_diffX (P := prg) (w := w) (base := base) F_diff T DR
  have G_same := ok_same (P := prg) (w := w) (base := base) F_same T
  have G_lawj := ok_lawJ (P := prg) (w := w) (base := base) F_lawj T
  have G_twor := ok_twoR (P := prg) (w := w) (base := base) F_twor T PK F_same G_same b_same m_same F_lawj G_lawj b_lawj m_lawj
  have G_tr := ok_TR (P := prg) (w := w) (base := base) F_tr F_joined G_joined b_joined m_joined F_about G_about b_about m_about F_over G_over b_over m_over
  have G_met := ok_met (P := prg) (w := w) (base := base) F_met T PK X_InvalidText X_InvalidDiff x_ap
  have G_refused := ok_refused (P := prg) (w := w) (base := base) F_refused T DR F_met G_met b_met m_met
  exact ok_law F_law T DR PK F_pot G_pot b_pot m_pot F_ltext G_ltext b_ltext m_ltext F_near G_near b_near m_near F_two G_two b_two m_two F_diff G_diff b_diff m_diff F_twor G_twor b_twor m_twor F_tr G_tr b_tr m_tr F_refused G_refused b_refused m_refused
theorem walk {l : PySem.W.OpenLaw} {q : Program} {loose : List Str} {XP : (Str → Option Value) → Heap → Prop} {YP : World → Heap → Prop} {d : DefRec} {K : Params → PySem.W.Frag} (hn : l.most = some 63) (hdf : d.params.defaults = [])
    (hY : ∀ (w : World) (h : Heap), YP w h → (K w.params).In h)
    (F : ∀ (w : World) (mg : Str → Option Value) (fa : Addr) (h : Heap), (K w.params).In h → h.Ns mainGlobals mg → mg d.name = some (.ref fa) →
      ∃ fd : FuncData, (∀ (s : Shared) (u : Value), BindsTo s fd ⟨[u], []⟩ [("_law_script", u)]) ∧ ∀ base : Heap, (K w.params).In base → base.Ns mainGlobals mg → FnG l.prog w (K w.params) mg base 9 fa fd ["_law_script"] (spLaw (K w.params))) :
    PySem.W.WalkO q loose XP YP l.row.toRowW d [] (fun f vs => PySem.call f vs) :=
  walkG (n := 63) (k := 9) (x := "_law_script") (sp := fun w => spLaw (K w.params)) hn (by decide) hdf ⟨rfl, by decide, by decide⟩ hY F (fun _ _ a ns hl _ hS => ⟨a, ns, rfl, hS, hl, fun _ => rfl⟩)
end K16
open PySem PySem.W PyProof.Rows
set_option maxRecDepth 100000 in
set_option maxHeartbeats 0 in
theorem PySem.Challenge.cw_alldiffs_k16_whole_diffs_joined_holds : PySem.Challenge.rw_alldiffs_k16_whole_diffs_joined.Holds := by
  w_on; o_law; k_headL; (case hw => w_witness2)
  k_fill
  refine K16.walk (l := PySem.Challenge.rw_alldiffs_k16_whole_diffs_joined) rfl rfl (fun w h Y => PySem.W.kIn_of Y) ?F
  case F =>
    intro w mg fa h KX G hmg
    refine' K16.all_mk KX G hmg ?a_InvalidText ?b_InvalidText ?i_InvalidText ?S_InvalidText ?a_InvalidDiff ?b_InvalidDiff ?i_InvalidDiff ?S_InvalidDiff ?u_whole ?l_whole ?v_whole ?k_whole ?u_within ?l_within ?v_within ?k_within ?u_list ?l_list ?v_list ?k_list ?u_tup ?l_tup ?v_tup ?k_tup ?u_spot ?l_spot ?v_spot ?k_spot ?u_line ?l_line ?v_line ?k_line ?u_text ?l_text ?v_text ?k_text ?u_check ?l_check ?v_check ?k_check ?u_pair ?l_pair ?v_pair ?k_pair ?u_rise ?l_rise ?v_rise ?k_rise ?u_isdiff ?l_isdiff ?v_isdiff ?k_isdiff ?u_checkd ?l_checkd ?v_checkd ?k_checkd ?u_partner ?l_partner ?v_partner ?k_partner ?u_about ?l_about ?v_about ?k_about ?u_over ?l_over ?v_over ?k_over ?u_joined ?l_joined ?v_joined ?k_joined ?u_pot ?l_pot ?v_pot ?k_pot ?u_draw ?l_draw ?v_draw ?k_draw ?u_pick ?l_pick ?v_pick ?k_pick ?u_ltext ?l_ltext ?v_ltext ?k_ltext ?u_near ?l_near ?v_near ?k_near ?u_two ?l_two ?v_two ?k_two ?u_diff ?l_diff ?v_diff ?k_diff ?u_same ?l_same ?v_same ?k_same ?u_lawj ?l_lawj ?v_lawj ?k_lawj ?u_twor ?l_twor ?v_twor ?k_twor ?u_tr ?l_tr ?v_tr ?k_tr ?u_met ?l_met ?v_met ?k_met ?u_refused ?l_refused ?v_refused ?k_refused ?u_law ?l_law ?v_law ?k_law ?zz ?c_MOST ?x_ap
    (case a_InvalidText => k_is); (case b_InvalidText => k_is); (case i_InvalidText => exact ⟨_, _, _, _, _, _, _, _, rfl⟩)
    (case a_InvalidDiff => k_is); (case b_InvalidDiff => k_is); (case i_InvalidDiff => exact ⟨_, _, _, _, _, _, _, _, rfl⟩)
    (case u_whole => k_is); (case l_whole => k_is); (case v_whole => k_is); (case k_whole => k_is)
    (case u_within => k_is); (case l_within => k_is); (case v_within => k_is); (case k_within => k_is)
    (case u_list => k_is); (case l_list => k_is); (case v_list => k_is); (case k_list => k_is)
    (case u_tup => k_is); (case l_tup => k_is); (case v_tup => k_is); (case k_tup => k_is)
    (case u_spot => k_is); (case l_spot => k_is); (case v_spot => k_is); (case k_spot => k_is)
    (case u_line => k_is); (case l_line => k_is); (case v_line => k_is); (case k_line => k_is)
    (case u_text => k_is); (case l_text => k_is); (case v_text => k_is); (case k_text => k_is)
    (case u_check => k_is); (case l_check => k_is); (case v_check => k_is); (case k_check => k_is)
    (case u_pair => k_is); (case l_pair => k_is); (case v_pair => k_is); (case k_pair => k_is)
    (case u_rise => k_is); (case l_rise => k_is); (case v_rise => k_is); (case k_rise => k_is)
    (case u_isdiff => k_is); (case l_isdiff => k_is); (case v_isdiff => k_is); (case k_isdiff => k_is)
    (case u_checkd => k_is); (case l_checkd => k_is); (case v_checkd => k_is); (case k_checkd => k_is)
    (case u_partner => k_is); (case l_partner => k_is); (case v_partner => k_is); (case k_partner => k_is)
    (case u_about => k_is); (case l_about => k_is); (case v_about => k_is); (case k_about => k_is)
    (case u_over => k_is); (case l_over => k_is); (case v_over => k_is); (case k_over => k_is)
    (case u_joined => k_is); (case l_joined => k_is); (case v_joined => k_is); (case k_joined => k_is)
    (case u_pot => k_is); (case l_pot => k_is); (case v_pot => k_is); (case k_pot => k_is)
    (case u_draw => k_is); (case l_draw => k_is); (case v_draw => k_is); (case k_draw => k_is)
    (case u_pick => k_is); (case l_pick => k_is); (case v_pick => k_is); (case k_pick => k_is)
    (case u_ltext => k_is); (case l_ltext => k_is); (case v_ltext => k_is); (case k_ltext => k_is)
    (case u_near => k_is); (case l_near => k_is); (case v_near => k_is); (case k_near => k_is)
    (case u_two => k_is); (case l_two => k_is); (case v_two => k_is); (case k_two => k_is)
    (case u_diff => k_is); (case l_diff => k_is); (case v_diff => k_is); (case k_diff => k_is)
    (case u_same => k_is); (case l_same => k_is); (case v_same => k_is); (case k_same => k_is)
    (case u_lawj => k_is); (case l_lawj => k_is); (case v_lawj => k_is); (case k_lawj => k_is)
    (case u_twor => k_is); (case l_twor => k_is); (case v_twor => k_is); (case k_twor => k_is)
    (case u_tr => k_is); (case l_tr => k_is); (case v_tr => k_is); (case k_tr => k_is)
    (case u_met => k_is); (case l_met => k_is); (case v_met => k_is); (case k_met => k_is)
    (case u_refused => k_is); (case l_refused => k_is); (case v_refused => k_is); (case k_refused => k_is)
    (case u_law => k_is); (case l_law => k_is); (case v_law => k_is); (case k_law => k_is)
    (case c_MOST => k_is)
    (case S_InvalidText => exact ⟨by kernel_rfl, by kernel_rfl, by kernel_rfl, by kernel_rfl, by kernel_rfl, by kernel_rfl, by kernel_rfl, by kernel_rfl, by kernel_rfl, by kernel_rfl, by kernel_rfl, by kernel_rfl, by kernel_rfl, by kernel_rfl, by kernel_rfl, by kernel_rfl, by kernel_rfl, by kernel_rfl, by kernel_rfl, by kernel_rfl, by kernel_rfl, by kernel_rfl, by kernel_rfl, by kernel_rfl⟩)
    (case S_InvalidDiff => exact ⟨by kernel_rfl, by kernel_rfl, by kernel_rfl, by kernel_rfl, by kernel_rfl, by kernel_rfl, by kernel_rfl, by kernel_rfl, by kernel_rfl, by kernel_rfl, by kernel_rfl, by kernel_rfl, by kernel_rfl, by kernel_rfl, by kernel_rfl, by kernel_rfl, by kernel_rfl, by kernel_rfl, by kernel_rfl, by kernel_rfl, by kernel_rfl, by kernel_rfl, by kernel_rfl, by kernel_rfl⟩)
    (case zz => kernel_rfl)
    (case x_ap => exact ⟨by kernel_rfl, by kernel_rfl, by kernel_rfl⟩)
