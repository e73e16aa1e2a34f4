import PyProof.Rows.All
import Wide.All
import OpenK.AllK
import Wide.FinOn
import KE.OsRunLaw
import KE.KExcIs
import KE.KExcTry
import KE.KExcSuper
import HandS.Exc
import HandS.ExcInit
import HandS.ExcSuper
import HandS.ForMost
import HandS.RaiseMore
import PyProof.ReprRoads
import HandS.ExcIs
import HandS.Walk
import HandS.Style
import HandS.Star
import HandS.IsInst
import HandS.Text
import HandS.Zip
import HandS.TupAny
import HandS.WordsExc
import HandS.DictComp
import KE.KRevSl
import KE.KDictPairs
import HandS.Iter
import KE.GoesEnum
import KE.GoesMore
import KE.GoesEnumKw
import PyProof.Rows.CallKw2
import PyProof.Rows.CallKwBuiltin
import HandS.TryMany
import HandS.More
import HandS.GenList
import PyProof.ForAny
import PySem.Challenge.RW_alldiffs_k17_whole_scripts_there_and_bac
set_option Elab.async false
set_option maxRecDepth 100000
set_option maxHeartbeats 8000000
set_option linter.all false
/-! An exception of a class of the text, made by a call with positions and keywords. -/
namespace XR
open PySem PySem.W PySem.Calls
section
variable {P : Program} {w : World} {M : Model} {A : Around} {E : Value → Shared → Prop} {R : Result → Shared → Prop} {h : Heap} {g : Array GenState} {d : Drawn} {t : Nat} {os : OsState}
variable {nm q : Str} {C N : Addr} {bs bm bmB : List Value} {hdct : Bool} {sn : List Str} {sub : List Value} {ab : Bool} {col : Option Bool} {dd : Option Addr} {k0 k1 k2 k3 k5 : Option Value} {B newId initId : String}

theorem newChecked (F : ExcBaseFacts B newId initId bmB) (hT : ∀ X : String, bm.contains (.type X) = bmB.contains (.type X)) {us : List Value} {kw : List (Str × Value)} {Q : Unit → Shared → Prop}
    (hC : h.get? C = some (excClassObj nm q C N bs bm hdct sn sub ab col dd k0 k1 k2 k3 k5 newId)) (z : Q () ⟨h, g, d, t, os⟩) : wpAny M A (checkBuiltinCall newId ⟨.ref C :: us, kw⟩) Q E ⟨h, g, d, t, os⟩ := by
  have c1 : (Value.ref C :: bm).contains (.type B) = true := by rw [List.contains_cons, hT, F.hasB, Bool.or_true]
  have c2 := F.noStar
  simp only [checkBuiltinCall, F.newKind, F.newSplit, F.newRow]
  repeat (first
    | refine wpAny_loadPart_at hC ?_
    | (refine wpAny_isSubtype_exc hC ?_; rw [c1])
    | refine wpAny_staticBase_exc hC ?_
    | refine wpAny_madeBy_exc hC ?_
    | simp only [bne_self_eq_false, Bool.false_eq_true, if_false]
    | wp_step)
  exact z

/-- BaseException.__new__ of such a class: the args from the positions alone -/
theorem newRuns (F : ExcBaseFacts B newId initId bmB) (hT : ∀ X : String, bm.contains (.type X) = bmB.contains (.type X)) {us : List Value} {kw : List (Str × Value)}
    (hC : h.get? C = some (excClassObj nm q C N bs bm hdct sn sub ab col dd k0 k1 k2 k3 k5 newId)) (hl : us.length ≤ sizeLine)
    (z : R (.ok (.ret (.ref (h.objs.size + 1)))) ⟨(h.push (kdv_tup us)).push (excObj C h.objs.size none .none), g, d, t, os⟩) :
    codeAny (model P w) A (.builtin newId ⟨.ref C :: us, kw⟩) R ⟨h, g, d, t, os⟩ := by
  have c0 := F.ends
  have c1 : (Value.ref C :: bm).contains (.type B) = true := by rw [List.contains_cons, hT, F.hasB, Bool.or_true]
  have c2 : (Value.ref C :: bm).contains (.type "AttributeError") = false := by rw [List.contains_cons, hT, F.noAttr]; rfl
  have c3 : (Value.ref C :: bm).contains (.type "NameError") = false := by rw [List.contains_cons, hT, F.noName]; rfl
  refine codeAny_builtinAt F.entry ?_
  unfold Builtin.«BaseException.__new__»
  refine wpAt_bind ?_
  show PySem.wpAt _ _ _ (stack >>= _) _ _ _
  refine wpAt_bind (wpAt_stack fun p below => wpAt_of_wpAny ?_)
  wp_walk
  refine wpAt_of_wpAny ?_
  rw [F.owner]
  repeat (first
    | with_reducible refine wpAny_madeHere_exc F.canon hC ?_
    | with_reducible refine wpAny_loadPart_at hC ?_
    | (with_reducible refine wpAny_isSubtype_exc hC ?_; first | rw [c1] | rw [c2] | rw [c3])
    | wp_step)
  show R _ _
  rw [Heap.size_push]
  exact z

theorem typeCall (F : ExcBaseFacts B newId initId bmB) (hT : ∀ X : String, bm.contains (.type X) = bmB.contains (.type X)) {us : List Value} {kw : List (Str × Value)} {fI : Addr} {Q : Fin → Shared → Prop}
    (hC : h.get? C = some (excClassObj nm q C N bs bm hdct sn sub ab col dd k0 k1 k2 k3 k5 newId))
    (hi : Looks (model P w) h (typeLookup (.ref C) "__init__") (some (.ref fI))) (hb : ∀ self, Looks (model P w) h (bindSpecial (.ref fI) self) (.ref fI, [self])) (hl : us.length ≤ sizeLine)
    (z : codeAny (model P w) A (.call (.ref fI) ⟨.ref (h.objs.size + 1) :: us, kw⟩)
      (fun r s' => match r with | .ok (.ret v) => v = .none ∧ Q (.done (.ret (.ref (h.objs.size + 1)))) s' | .ok _ => False | .error e => E e s')
      ⟨(h.push (kdv_tup us)).push (excObj C h.objs.size none .none), g, d, t, os⟩) :
    wpAny (model P w) A (Builtin.«type.__call__» ⟨.ref C :: us, kw⟩) Q E ⟨h, g, d, t, os⟩ := by
  repeat (first
    | with_reducible refine wpAny_loadPart_at hC ?_
    | with_reducible refine wpAny_madeBy_exc hC ?_
    | wp_step)
  refine codeAny_call_builtin_code (Code.quiet_builtin _ F.quiet) (newChecked F hT hC ?_)
  refine newRuns F hT hC hl ?_
  show wpAny _ _ _ _ _ _
  have k : ∀ b o, h.get? b = some o → ((h.push (kdv_tup us)).push (excObj C h.objs.size none .none)).get? b = some o := fun b o e => Heap.get?_push_of_some _ (Heap.get?_push_of_some _ e)
  have c4 := k _ _ hC
  have c5 : ((h.push (kdv_tup us)).push (excObj C h.objs.size none .none)).get? (h.objs.size + 1) = some (excObj C h.objs.size none .none) := by heap_get
  have c6 : (Value.ref C :: bm).contains (.ref C) = true := by simp
  have i1 := hi.keeps k
  have b1 := (hb (.ref (h.objs.size + 1))).keeps k
  unfold isInstance
  repeat (first
    | with_reducible refine wpAny_loadPart_at c5 ?_
    | (with_reducible refine wpAny_isSubtype_exc c4 ?_; rw [c6])
    | wp_step)
  show wpAny _ _ (typeLookup (.ref C) _) _ _ _
  refine i1.at ?_
  refine wpAny_holding (wpAny_bind (b1.at ?_))
  refine wpAny_bind (wpAny_call (codeAny_mono z fun r s' y => ?_))
  rcases r with e | (v | _ | _ | _) <;> first | exact y | exact y.elim | skip
  obtain ⟨rfl, y⟩ := y
  first
    | exact wpAny_pure (wpAny_pure y)
    | (wp_walk; exact y)

theorem callMade (F : ExcBaseFacts B newId initId bmB) (hT : ∀ X : String, bm.contains (.type X) = bmB.contains (.type X)) {us : List Value} {kw : List (Str × Value)} {fI : Addr}
    (hC : h.get? C = some (excClassObj nm q C N bs bm hdct sn sub ab col dd k0 k1 k2 k3 k5 newId))
    (hi : Looks (model P w) h (typeLookup (.ref C) "__init__") (some (.ref fI))) (hb : ∀ self, Looks (model P w) h (bindSpecial (.ref fI) self) (.ref fI, [self])) (hl : us.length ≤ sizeLine)
    (z : codeAny (model P w) (A.under (.builtin "type.__call__" ⟨.ref C :: us, kw⟩)) (.call (.ref fI) ⟨.ref (h.objs.size + 1) :: us, kw⟩) (InitBack (h.objs.size + 1) R)
      ⟨(h.push (kdv_tup us)).push (excObj C h.objs.size none .none), g, d, t, os⟩) :
    codeAny (model P w) A (.call (.ref C) ⟨us, kw⟩) R ⟨h, g, d, t, os⟩ := by
  have f1 := tc_lookup
  have f2 := tc_bind (.ref C)
  have f3 : (⟨h, g, d, t, os⟩ : Shared).TypeIs (.ref C) "type" := ⟨_, hC, rfl⟩
  refine codeAny_of_tree ?_
  show wpAny _ _ (callAny (.ref C) _) _ _ _
  repeat (any_goals (first | assumption | with_reducible refine wpAny_loadPart_at hC ?_ | wp_step))
  refine ⟨rfl, ?_⟩
  refine codeAny_call_builtin_at (Code.quiet_builtin _ (by decide +kernel)) entry_typeCall (wpAny_check_type_call_sub hC (typeCall F hT hC hi hb hl ?_))
  refine codeAny_mono z fun r s' y => ?_
  rcases r with e | (v | _ | _ | _) <;> exact y
end
end XR
namespace XR
open PySem PySem.W PySem.Calls
open Builtin Builtin.ObjectAttr
section
variable {P : Program} {w : World} {M : Model} {A : Around} {E : Value → Shared → Prop} {R : Result → Shared → Prop} {h : Heap} {g : Array GenState} {d : Drawn} {t : Nat} {os : OsState}
variable {K : Frag} {C e t1 dx : Addr} {B : String} {bmB : List Value} {f : Str} {v : Value} {Q : Unit → Shared → Prop}

/-- the first field of an exception: its dict is made -/
theorem storeFirst (SF : StoreFacts B bmB "object.__setattr__" "object") (X : K.In h) (he : h.get? e = some (excObj C t1 none .none)) (sa : findIn K (.ref C) "__setattr__" = some (some (.builtin "object.__setattr__")))
    (ov : excOver K C bmB = true) (di : hasDictIn K C = true) (tk : takerIn K C f = some none)
    (z : ∀ h' tk' dx, (∀ b o, b ≠ e → h.get? b = some o → h'.get? b = some o) → h.objs.size ≤ dx → dx ≠ e → h'.get? e = some (excObj C t1 (some dx) .none) → h'.Ns1 dx (fun y => if y = f then some v else none) → Q () ⟨h', g, d, tk', os⟩) :
    wpAny (model P w) A (setAttr (.ref e) f v) Q E ⟨h, g, d, t, os⟩ := by
  have I : W.InstAt h e (excObj C t1 none .none) C none := ⟨he, rfl, rfl, trivial⟩
  refine set_plain X I sa ?_
  refine osa_openX (r := none) SF X I ov tk fun b => ?_
  obtain ⟨cd, hc, hd'⟩ := any_some di
  have hcls : Looks (model P w) h (classData C) cd := looks_clsIn X hc
  have hes : e ≠ h.objs.size := Nat.ne_of_lt (Heap.lt_size he)
  show wpAny _ _ (storeInOwnDict (.ref e) (.ref C) (.str f t) f v b) _ _ _
  obtain ⟨nm, bs, mro, ns, qn, hd, sn, sb, ab, col, del⟩ := cd
  dsimp only at hd'
  subst hd'
  unfold storeInOwnDict ownDictForStores
  repeat (first
    | with_reducible refine PySem.HandSPX.store_in_new ?_ ?_
    | with_reducible refine wpAny_loadPart_at he ?_
    | with_reducible refine hcls.at ?_
    | wp_step)
  · exact ⟨_, #[], _, (Heap.get?_update_ne _ _ _ _ hes.symm).trans (Heap.get?_push_at rfl rfl), rfl, fun e he => absurd he (by simp), fun _ => rfl⟩
  · intro h' tk' hn' hs
    have h1 : (h.push { cls := .type "dict", data := .dict #[] }).get? e = some (excObj C t1 none .none) := Heap.get?_push_of_some _ he
    refine z h' tk' h.objs.size (fun b o hb ho => ?_) (Nat.le_refl _) hes.symm ?_ hn'
    · exact (hs.2 b (Nat.ne_of_lt (Heap.lt_size ho))).trans ((Heap.get?_update_ne _ _ _ _ hb).trans (Heap.get?_push_of_some _ ho))
    · exact (hs.2 e hes).trans (Heap.get?_update_self _ h1 rfl)

/-- a further one -/
theorem storeNext {m0 : Str → Option Value} {ns : List Str} (SF : StoreFacts B bmB "object.__setattr__" "object") (X : K.In h) (he : h.get? e = some (excObj C t1 (some dx) .none)) (hn : h.Ns1 dx m0) (hw : Within m0 ns) (hz : ns.length ≤ 1000)
    (sa : findIn K (.ref C) "__setattr__" = some (some (.builtin "object.__setattr__"))) (ov : excOver K C bmB = true) (di : hasDictIn K C = true) (tk : takerIn K C f = some none)
    (z : ∀ h' tk', (∀ b o, b ≠ dx → h.get? b = some o → h'.get? b = some o) → h'.Ns1 dx (fun y => if y = f then some v else m0 y) → Q () ⟨h', g, d, tk', os⟩) :
    wpAny (model P w) A (setAttr (.ref e) f v) Q E ⟨h, g, d, t, os⟩ := by
  obtain ⟨oD, esD, epD, hoD, hdD, _⟩ := hn.count hw
  have I : W.InstAt h e (excObj C t1 (some dx) .none) C (some oD) := ⟨he, rfl, rfl, hoD⟩
  refine set_plain X I sa ?_
  refine osa_openX (r := none) SF X I ov tk fun b => ?_
  obtain ⟨cd, hc, hd'⟩ := any_some di
  have hcls : Looks (model P w) h (classData C) cd := looks_clsIn X hc
  show wpAny _ _ (storeInOwnDict (.ref e) (.ref C) (.str f t) f v b) _ _ _
  obtain ⟨nm, bs, mro, nsx, qn, hd, sn, sb, ab, col, del⟩ := cd
  dsimp only at hd'
  subst hd'
  unfold storeInOwnDict ownDictForStores
  repeat (first
    | with_reducible refine PySem.OEX.store_in_old hn hw hz ?_
    | with_reducible refine wpAny_loadPart_at he ?_
    | with_reducible refine hcls.at ?_
    | wp_step)
  intro h' tk' hn' hs
  exact z h' tk' (fun b o hb ho => (hs.2 b hb).trans ho) hn'
end
end XR
namespace XR
open PySem PySem.W PySem.Calls
/-- what the written part says of an exception class over the built-in B, and of its __init__ -/
structure XCls (K : Frag) (P : Program) (C fI cc cda : Addr) (B newId initId : String) (bmB : List Value) (fd : FuncData) : Prop where
  FB : ExcBaseFacts B newId initId bmB
  SF : StoreFacts B bmB "object.__setattr__" "object"
  KF : KxsFacts B initId
  ei : excInitIn K C bmB newId = true
  ov : excOver K C bmB = true
  di : hasDictIn K C = true
  sa : findIn K (.ref C) "__setattr__" = some (some (.builtin "object.__setattr__"))
  su : ks_superIn K C C "__init__" = some (some (.builtin initId))
  sb : subIn K (.ref C) (.type B) = some true
  me : mroIn K C (.ref C) = some true
  op : nsIn K cStatics "thirdparty.any" = some none
  ini : findIn K (.ref C) "__init__" = some (some (.ref fI))
  fn : isFn K (.ref fI) = true
  lk : ∃ oc od osl, K.lookup fI = some ⟨oc, od, .func fd, osl⟩
  cod : codeIn K (.ref cda) fd.qualname = true
  cdl : ∃ a b vs c file tf, K.lookup cda = some ⟨a, b, .fields vs, c⟩ ∧ vs[2]? = some (.str file tf) ∧ ((P.main.file : Str) == file) = true
  cel : ∃ a b c, K.lookup cc = some ⟨a, b, .cell (some (.ref C)), c⟩
  kp : keepIn K (.ref C) = true

/-- a store of a parameter -/
def stS (f p : Str) (a b c d : Pos) : Stmt := .Assign [.Attribute (.Name "self" a) f b] (.Name p c) d
def stSup (txt : Str) (k : Nat) (p0 p1 p2 p3 p4 p5 : Pos) : Stmt := .Expr (.Call (.Attribute (.Call (.Name "super" p0) [] [] p1) "__init__" p2) [.Constant (.str txt) k p3] [] p4) p5

section
variable {P : Program} {w : World} {A : Around} {h : Heap} {g : Array GenState} {d : Drawn} {t : Nat} {os : OsState}
variable {K : Frag} {C fI cc cda e t1 L : Addr} {B newId initId : String} {bmB : List Value} {fd : FuncData} {m mg mb : Str → Option Value} {qual : Str} {scope : Scope}

/-- super().__init__(text): the args are laid anew -/
theorem superRuns {body : List Stmt} {txt : Str} {k : Nat} {p0 p1 p2 p3 p4 p5 : Pos} {ar : Arg} {Q : Flow → Shared → Prop} {E : Value → Shared → Prop} (T : XCls K P C fI cc cda B newId initId bmB fd) (X : K.In h) (he : h.get? e = some (excObj C t1 none .none))
    (hn : h.Ns L m) (hv : m "self" = some (.ref e)) (hm : h.Ns mainGlobals mg) (hb : h.Ns builtinsNs mb) (m1 : mg "super" = none) (m2 : mb "super" = some (.type "super"))
    (hp : (fd.params.posonlyargs ++ fd.params.args).head? = some ar) (har : ar.arg = "self")
    (hks : scope.names.lookup ("super" : Str) = some .globalImplicit) (hkc : scope.names.lookup ("__class__" : Str) = some .free) (hka : scope.names.lookup ("self" : Str) = some .local) (hk : scope.kind = .function)
    (hev : ∃ pl, eval (.Call (.Attribute (.Call (.Name "super" p0) [] [] p1) "__init__" p2) [.Constant (.str txt) k p3] [] p4) (ksEnv qual scope L fI (.ref cda) cc) = (do
      let ov ← attributeBase (.Call (.Name "super" p0) [] [] p1) "__init__" (ksEnv qual scope L fI (.ref cda) cc) (eval (.Call (.Name "super" p0) [] [] p1) (ksEnv qual scope L fI (.ref cda) cc))
      standAt p2.atName
      let (f, first) ← holding [ov] (getMethod ov "__init__" pl)
      callWith p4 f first (backTo p4 (starEach [.Constant (.str txt) k p3] (ksEnv qual scope L fI (.ref cda) cc))) []))
    (htop : (P.main.scope.names.lookup ("super" : Str)).isSome = false) (heL : e ≠ L)
    (z : ∀ h' t2 tk, (∀ b o, b ≠ e → h.get? b = some o → h'.get? b = some o) → h'.get? e = some (excObj C t2 none .none) → Q .next ⟨h', g, d, tk, os⟩) :
    PySem.wpAt (model P w) A (.func body (ksEnv qual scope L fI (.ref cda) cc)) (exec (stSup txt k p0 p1 p2 p3 p4 p5) (ksEnv qual scope L fI (.ref cda) cc)) Q E ⟨h, g, d, t, os⟩ := by
  obtain ⟨kd, nms, ig, ic, mr⟩ := scope
  dsimp only at hk hks hkc hka hev
  obtain ⟨pl, hev⟩ := hev
  subst hk
  have hk : (⟨.function, nms, ig, ic, mr⟩ : Scope).kind = .function := rfl
  obtain ⟨oc, od, osl, lk⟩ := T.lk
  obtain ⟨a1, a2, vs, a3, file, tf, cdl, hvs, hfile⟩ := T.cdl
  obtain ⟨b1, b2, b3, cel⟩ := T.cel
  obtain ⟨nm, N', qn, bs, bm, hdct, sn, sub, ab, col, dd, k0, k1', k2, k3, k5, hC, hT⟩ := excInit_of X T.ei
  have I : W.InstAt h e (excObj C t1 none .none) C none := ⟨he, rfl, rfl, trivial⟩
  refine ks_wpAt_Expr_any ?_
  refine ks_wpAt_MethodCall (pl := pl) ?_ hev
  refine ks_wpAt_super_base (env := ksEnv qual ⟨.function, nms, ig, ic, mr⟩ L fI (.ref cda) cc) (attr := "__init__") hks hkc (by decide) rfl (X _ _ lk) rfl hp rfl (X _ _ cdl) rfl hvs hfile htop ?_
  have hD : ∃ oD cdD, h.get? C = some oD ∧ oD.data = .cls cdD := ⟨_, _, hC, rfl⟩
  obtain ⟨oD, cdD, hD1, hD2⟩ := hD
  refine ks_loadName_global hk hks (loadGlobal_builtin (env := ksEnv qual ⟨.function, nms, ig, ic, mr⟩ L fI (.ref cda) cc) hm m1 hb m2 ⟨rfl, ?_⟩)
  refine wpAny_loadName_free hk hkc rfl ⟨_, X _ _ cel, rfl⟩ ?_
  rw [har]
  refine wpAny_loadName_local hk hka hn hv ?_
  refine ks_wpAny_isType_cls hD1 hD2 ⟨rfl, ?_⟩
  refine ks_wpAny_call_super hD1 hD2 he rfl (fun c e => by cases e) (looks_mroIn X T.me) (fun h1 e1 k1 => ?_)
  have X1 : K.In h1 := X.keeps k1
  have he1 := k1 _ _ he
  obtain ⟨cdx, hcdx, hfx⟩ := Option.bind_eq_some_iff.mp (show (clsIn K C).bind (fun cd => alongIn K "__init__" ((cd.mro.dropWhile (· != .ref C)).drop 1)) = some (some (.builtin initId)) from T.su)
  have I1 : W.InstAt h1 e (excObj C t1 none .none) C none := ⟨he1, rfl, rfl, trivial⟩
  have hI : Looks (model P w) h1 (isInstance (.ref e) (.type B)) true := I1.type.andThen (looks_subIn X1 T.sb)
  refine kxs_getMethod T.KF e1 (looks_opaque X1 T.op) (l₀ := cdx.mro) ?_ rfl X1 hfx hI (ks_ne X1 I1 hcdx) (by decide) ?_
  · exact fun A Q E s k q => wpAny_bind ((looks_clsIn X1 hcdx) A _ E s k (wpAny_pure q))
  refine kxs_callWith (i := initId) (x := e) (by rfl) ?_
  have c1 : (h1.push (kxs_mw initId e)).get? h1.objs.size = some (kxs_mw initId e) := Heap.get?_push_at rfl rfl
  have c2 : ∀ b o, h1.get? b = some o → (h1.push (kxs_mw initId e)).get? b = some o := fun b o q => Heap.get?_push_of_some _ q
  refine evalArgs_plain (spliced_cons (Constant_str (k := k) (pos := p3) (spliced_nil ⟨c1, ?_⟩)))
  refine wpAny_call (codeAny_of_tree ?_)
  show wpAny _ A.in1 (callAny (.ref h1.objs.size) ⟨[.str txt _], []⟩) _ _ _
  simp only [callAny]
  refine wpAny_bind (wpAny_load c1 ?_)
  have c3 : (Value.type "method-wrapper" == Value.type "method" || Value.type "method-wrapper" == Value.type "builtin_function_or_method" || Value.type "method-wrapper" == Value.type "method-wrapper") = true := by decide
  simp only [kxs_mw, c3, if_true]
  refine KFB.if_so (by decide) ?_
  refine wpAny_bind (check_bound_init T.FB.toExcCallFacts (c2 _ _ (k1 _ _ hC)) (c2 _ _ he1) rfl ?_)
  refine wpAny_bind (wpAny_pure (wpAny_pure ?_))
  refine ⟨plainId_quiet T.FB.init.plain _, codeAny_builtin T.FB.initEntry ?_⟩
  refine exc_init_tree (cls := .ref C) (t0 := t1) (dv := none) (c2 := .none) (c3 := .none) (b4 := .bool false) (c2 _ _ he1) (by show 1 ≤ sizeLine; decide) fun h' k' e' t' => ?_
  exact z h' _ _ (fun b o hb q => k' b o hb (c2 b o (k1 b o q))) e'
end
end XR
namespace XR
open PySem PySem.W PySem.Calls
/-- a store of the body: the field, the parameter, its value -/
structure Sto where
  f : Str
  p : Str
  v : Value
  a : Pos
  b : Pos
  c : Pos
  d : Pos
def Sto.st (x : Sto) : Stmt := stS x.f x.p x.a x.b x.c x.d
/-- an exception at e with the fields fs, newest first; its dict stands at n0 or behind, and is not L -/
def Fl (n0 : Nat) (L e C : Addr) (fs : List (Str × Value)) (h : Heap) : Prop :=
  ∃ t1 : Addr, (fs = [] ∧ h.get? e = some (excObj C t1 none .none)) ∨
    ∃ dx : Addr, fs ≠ [] ∧ n0 ≤ dx ∧ dx ≠ e ∧ dx ≠ L ∧ h.get? e = some (excObj C t1 (some dx) .none) ∧ h.Ns1 dx (fun y => fs.lookup y)
theorem lookup_cons' (f y : Str) (v : Value) (fs : List (Str × Value)) : (if y = f then some v else fs.lookup y) = ((f, v) :: fs).lookup y := by
  by_cases q : y = f
  · subst q; simp [List.lookup]
  · have q' : (y == f) = false := by simpa using q
    rw [if_neg q]; simp [List.lookup, q']
theorem within_lookup : ∀ (fs : List (Str × Value)), Within (fun y => fs.lookup y) (fs.map (·.1))
  | [] => fun y hy => absurd rfl hy
  | (f, v) :: fs => fun y hy => by
    by_cases q : y = f
    · rw [q]; exact List.mem_cons_self ..
    · refine List.mem_cons_of_mem _ (within_lookup fs y ?_)
      have q' : (y == f) = false := by simpa using q
      simpa [List.lookup, q'] using hy
section
variable {P : Program} {w : World} {A : Around} {g : Array GenState} {d : Drawn} {os : OsState}
variable {K : Frag} {C fI cc cda e L : Addr} {n0 : Nat} {B newId initId : String} {bmB : List Value} {fd : FuncData} {m : Str → Option Value} {env : Env} {Q : Flow → Shared → Prop} {E : Value → Shared → Prop}

theorem storesRun (T : XCls K P C fI cc cda B newId initId bmB fd) (hK : ∀ b o, K.lookup b = some o → b < n0) (he0 : n0 ≤ e) (hL0 : n0 ≤ L) (heL : e ≠ L) (hl : env.locals = L) (hk : env.scope.kind = .function)
    (hself : env.kindOf "self" = some .local) (hv : m "self" = some (.ref e)) :
    ∀ (l : List Sto) (fs : List (Str × Value)) (h : Heap) (t : Nat), (∀ x ∈ l, m x.p = some x.v ∧ env.kindOf x.p = some .local ∧ (x.p == ("__debug__" : Str)) = false ∧ takerIn K C x.f = some none ∧ swapsWith (.Name x.p x.c) (some (.Attribute (.Name "self" x.a) x.f x.b)) x.d.line env = pure false) →
      fs.length + l.length ≤ 900 → K.In h → h.Ns L m → Fl n0 L e C fs h →
      (∀ h' tk, (∀ b o, b < n0 → h.get? b = some o → h'.get? b = some o) → Fl n0 L e C ((l.map fun x => (x.f, x.v)).reverse ++ fs) h' → Q .next ⟨h', g, d, tk, os⟩) →
      wpAny (model P w) A (execs (l.map Sto.st) env) Q E ⟨h, g, d, t, os⟩
  | [], fs, h, t, _, _, _, _, hF, z => wpAny_execs_nil (z h t (fun _ _ _ q => q) hF)
  | x :: l, fs, h, t, hx, hlen, X, hn, hF, z => by
    obtain ⟨x1, x2, x3, x4, x5⟩ := hx x (List.mem_cons_self ..)
    have hn' : h.Ns env.locals m := by rw [hl]; exact hn
    refine wpAny_execs_cons ?_
    show wpAny _ _ (exec (.Assign [.Attribute (.Name "self" x.a) x.f x.b] (.Name x.p x.c) x.d) env) _ _ _
    refine plainObj_wpAny_Assign_Attribute (wpAny_Name (wpAny_loadName_local hk x2 hn' x1 (wpAny_Name (wpAny_loadName_local hk hself hn' hv ?_) (by decide))) x3) x5
    have step : ∀ (h' : Heap) (tk : Nat), (∀ b o, (b < n0 ∨ b = L) → h.get? b = some o → h'.get? b = some o) → Fl n0 L e C ((x.f, x.v) :: fs) h' → wpAny (model P w) A (execs (l.map Sto.st) env) Q E ⟨h', g, d, tk, os⟩ := fun h' tk k hF' => by
      have X' : K.In h' := fun b o q => k b o (.inl (hK b o q)) (X b o q)
      have hn2 : h'.Ns L m := by
        obtain ⟨o, es, ep, ho, r⟩ := hn
        exact ⟨o, es, ep, k _ _ (.inr rfl) ho, r⟩
      refine storesRun T hK he0 hL0 heL hl hk hself hv l ((x.f, x.v) :: fs) h' tk (fun y hy => hx y (List.mem_cons_of_mem _ hy)) (by simp only [List.length_cons] at hlen ⊢; omega) X' hn2 hF' fun h2 tk2 k2 hF2 => ?_
      refine z h2 tk2 (fun b o hb q => k2 b o hb (k b o (.inl hb) q)) ?_
      simpa using hF2
    obtain ⟨t1, ⟨hf, he⟩ | ⟨dx, hf, hd0, hde, hdL, he, hns⟩⟩ := hF
    · subst hf
      refine storeFirst T.SF X he T.sa T.ov T.di x4 fun h' tk' dx k k0 kne hx' hn' => ?_
      refine step h' tk' (fun b o hb q => k b o ?_ q) ⟨t1, .inr ⟨dx, by simp, ?_, kne, ?_, hx', ?_⟩⟩
      · rcases hb with hb | hb
        · exact Nat.ne_of_lt (Nat.lt_of_lt_of_le hb he0)
        · rw [hb]; exact heL.symm
      · exact Nat.le_trans (Nat.le_trans he0 (Nat.le_of_lt (Heap.lt_size he))) k0
      · have : L < h.objs.size := by obtain ⟨o, _, _, ho, _⟩ := hn; exact Heap.lt_size ho
        exact (Nat.ne_of_lt (Nat.lt_of_lt_of_le this k0)).symm
      · have e1 : (fun y => if y = x.f then some x.v else none) = (fun y => [(x.f, x.v)].lookup y) := by funext y; exact lookup_cons' x.f y x.v []
        rw [e1] at hn'; exact hn'
    · refine storeNext T.SF X he hns (within_lookup fs) (by rw [List.length_map]; simp only [List.length_cons] at hlen; omega) T.sa T.ov T.di x4 fun h' tk' k hn' => ?_
      refine step h' tk' (fun b o hb q => k b o ?_ q) ⟨t1, .inr ⟨dx, by simp, hd0, hde, hdL, k _ _ hde.symm he, ?_⟩⟩
      · rcases hb with hb | hb
        · exact Nat.ne_of_lt (Nat.lt_of_lt_of_le hb hd0)
        · rw [hb]; exact hdL.symm
      · have e1 : (fun y => if y = x.f then some x.v else fs.lookup y) = (fun y => ((x.f, x.v) :: fs).lookup y) := by funext y; exact lookup_cons' x.f y x.v fs
        rw [e1] at hn'; exact hn'
end
end XR
namespace XR
open PySem PySem.W PySem.Calls
section
variable {P : Program} {w : World} {A : Around} {g : Array GenState} {d : Drawn} {t : Nat} {os : OsState} {hp h : Heap}
variable {K : Frag} {C fI cc cda e t1 : Addr} {n0 : Nat} {B newId initId : String} {bmB : List Value} {fd : FuncData} {mg mb : Str → Option Value} {R : Result → Shared → Prop} {Q : Value → Shared → Prop} {E : Value → Shared → Prop}

/-- how the text of an __init__ stands: super().__init__(txt), then the stores l -/
structure Shape (P : Program) (fd : FuncData) (fI cda cc : Addr) (txt : Str) (k : Nat) (p0 p1 p2 p3 p4 p5 : Pos) (l : List Sto) : Prop where
  eq : ∃ x qual params scope dV kV doc pm an ct, fd = ksFn x qual params (stSup txt k p0 p1 p2 p3 p4 p5 :: l.map Sto.st) scope dV kV doc pm an (.ref cda) ct cc ∧
    (∃ ar, (params.posonlyargs ++ params.args).head? = some ar ∧ ar.arg = "self") ∧ scope.names.lookup ("super" : Str) = some .globalImplicit ∧ scope.names.lookup ("__class__" : Str) = some .free ∧ scope.names.lookup ("self" : Str) = some .local ∧ scope.kind = .function ∧
    (∀ L : Addr, ∃ pl, eval (.Call (.Attribute (.Call (.Name "super" p0) [] [] p1) "__init__" p2) [.Constant (.str txt) k p3] [] p4) (ksEnv qual scope L fI (.ref cda) cc) = (do
      let ov ← attributeBase (.Call (.Name "super" p0) [] [] p1) "__init__" (ksEnv qual scope L fI (.ref cda) cc) (eval (.Call (.Name "super" p0) [] [] p1) (ksEnv qual scope L fI (.ref cda) cc))
      standAt p2.atName
      let (f, first) ← holding [ov] (getMethod ov "__init__" pl)
      callWith p4 f first (backTo p4 (starEach [.Constant (.str txt) k p3] (ksEnv qual scope L fI (.ref cda) cc))) [])) ∧
    (∀ x ∈ scope.names, x.2 ≠ .cell) ∧ scope.isCoroutine = false ∧ scope.isGenerator = false ∧
    (∀ L : Addr, ∀ x ∈ l, scope.names.lookup x.p = some .local ∧ (x.p == ("__debug__" : Str)) = false ∧ swapsWith (.Name x.p x.c) (some (.Attribute (.Name "self" x.a) x.f x.b)) x.d.line (ksEnv qual scope L fI (.ref cda) cc) = pure false)
  top : (P.main.scope.names.lookup ("super" : Str)).isSome = false

theorem initRuns {txt : Str} {k : Nat} {p0 p1 p2 p3 p4 p5 : Pos} {l : List Sto} {args : Args} {binds : List (Str × Value)} (T : XCls K P C fI cc cda B newId initId bmB fd) (S : Shape P fd fI cda cc txt k p0 p1 p2 p3 p4 p5 l)
    (hK : ∀ b o, K.lookup b = some o → b < n0) (he0 : n0 ≤ e) (hl : l.length ≤ 900)
    (X : K.In hp) (hm : hp.Ns mainGlobals mg) (hb : hp.Ns builtinsNs mb) (m1 : mg "super" = none) (m2 : mb "super" = some (.type "super")) (lim : hp.NoLimit) (room : A.depth < recursionLimit)
    (bt : BindsTo ⟨hp, g, d, t, os⟩ fd args binds) (hloc : ∀ x ∈ binds, fd.scope.names.lookup x.1 = some .local) (hself : binds.reverse.lookup ("self" : Str) = some (Value.ref e))
    (hx : ∀ x ∈ l, binds.reverse.lookup x.p = some x.v ∧ takerIn K C x.f = some none)
    (he : hp.get? e = some (excObj C t1 none .none))
    (z : ∀ h' tk, (∀ b o, b < n0 → hp.get? b = some o → h'.get? b = some o) → Fl n0 hp.objs.size e C (l.map fun x => (x.f, x.v)).reverse h' → R (.ok (.ret .none)) ⟨h', g, d, tk, os⟩) :
    codeAny (model P w) A (.call (.ref fI) args) R ⟨hp, g, d, t, os⟩ := by
  obtain ⟨x, qual, params, scope, dV, kV, doc, pm, an, ct, rfl, ⟨ar, hp1, har⟩, hks, hkc, hka, hk, hev, hcell, hco, hgen, hsw⟩ := S.eq
  obtain ⟨oc, od, osl, lk⟩ := T.lk
  have heL : e ≠ hp.objs.size := Nat.ne_of_lt (Heap.lt_size he)
  have hL0 : n0 ≤ hp.objs.size := Nat.le_trans he0 (Nat.le_of_lt (Heap.lt_size he))
  refine ks_codeAny_call_defAt (fd := ksFn x qual params (stSup txt k p0 p1 p2 p3 p4 p5 :: l.map Sto.st) scope dV kV doc pm an (.ref cda) ct cc) (body := stSup txt k p0 p1 p2 p3 p4 p5 :: l.map Sto.st) (binds := binds) room (X _ _ lk) rfl lim (codeRec_of X T.cod) rfl bt hcell hloc (fun h1 hns hk1 => ?_) hco hgen hk
  refine ks_wpAt_execs_cons ?_
  show PySem.wpAt (model P w) (A.deeper (ksEnv qual scope hp.objs.size fI (.ref cda) cc)) (.func (stSup txt k p0 p1 p2 p3 p4 p5 :: l.map Sto.st) (ksEnv qual scope hp.objs.size fI (.ref cda) cc)) (exec (stSup txt k p0 p1 p2 p3 p4 p5) (ksEnv qual scope hp.objs.size fI (.ref cda) cc)) _ _ _
  refine superRuns (t1 := t1) T (X.keeps hk1) (hk1 _ _ he) hns hself (hm.keeps hk1) (hb.keeps hk1) m1 m2 hp1 har hks hkc hka hk (hev _) S.top heL fun h2 t2 tk k2 he2 => ?_
  dsimp only
  refine wpAt_of_wpAny ?_
  have K2 : ∀ b o, b ≠ e → hp.get? b = some o → h2.get? b = some o := fun b o hb q => k2 b o hb (hk1 b o q)
  have X2 : K.In h2 := fun b o q => K2 b o (Nat.ne_of_lt (Nat.lt_of_lt_of_le (hK b o q) he0)) (X b o q)
  have hns2 : h2.Ns hp.objs.size (fun x => binds.reverse.lookup x) := by
    obtain ⟨o, es, ep, ho, r⟩ := hns
    exact ⟨o, es, ep, k2 _ _ heL.symm ho, r⟩
  refine storesRun (env := ksEnv qual scope hp.objs.size fI (.ref cda) cc) (m := fun x => binds.reverse.lookup x) T hK he0 hL0 heL rfl hk hka hself l [] h2 tk (fun y hy => ⟨(hx y hy).1, (hsw 0 y hy).1, (hsw 0 y hy).2.1, (hx y hy).2, (hsw _ y hy).2.2⟩) (by simpa using hl) X2 hns2 ⟨t2, .inl ⟨rfl, he2⟩⟩ fun h3 tk3 k3 F3 => ?_
  refine z h3 tk3 (fun b o hb q => k3 b o hb (K2 b o (Nat.ne_of_lt (Nat.lt_of_lt_of_le hb he0)) q)) ?_
  simpa using F3

/-- C(..): the exception stands with its fields -/
theorem made {txt : Str} {k : Nat} {p0 p1 p2 p3 p4 p5 : Pos} {l : List Sto} {us : List Value} {kw : List (Str × Value)} {binds : List (Str × Value)} (T : XCls K P C fI cc cda B newId initId bmB fd) (S : Shape P fd fI cda cc txt k p0 p1 p2 p3 p4 p5 l) (hl : l.length ≤ 900)
    (X : K.In h) (hm : h.Ns mainGlobals mg) (hb : h.Ns builtinsNs mb) (m1 : mg "super" = none) (m2 : mb "super" = some (.type "super")) (lim : h.NoLimit) (room : (A.under (.builtin "type.__call__" ⟨.ref C :: us, kw⟩)).depth < recursionLimit) (hus : us.length ≤ sizeLine)
    (bt : ∀ s, BindsTo s fd ⟨.ref (h.objs.size + 1) :: us, kw⟩ binds) (hloc : ∀ x ∈ binds, fd.scope.names.lookup x.1 = some .local) (hself : binds.reverse.lookup ("self" : Str) = some (Value.ref (h.objs.size + 1)))
    (hx : ∀ x ∈ l, binds.reverse.lookup x.p = some x.v ∧ takerIn K C x.f = some none)
    (z : ∀ h' tk L, (∀ b o, h.get? b = some o → h'.get? b = some o) → Fl h.objs.size L (h.objs.size + 1) C (l.map fun x => (x.f, x.v)).reverse h' → Q (.ref (h.objs.size + 1)) ⟨h', g, d, tk, os⟩) :
    wpAny (model P w) A (call (.ref C) us kw) Q E ⟨h, g, d, t, os⟩ := by
  obtain ⟨nm, N', qn, bs, bm, hdct, sn, sub, ab, col, dd, k0, k1, k2, k3, k5, hC, hT⟩ := excInit_of X T.ei
  obtain ⟨oI, hoI, hcI⟩ : ∃ oI, h.get? fI = some oI ∧ oI.cls = .type "function" := by
    obtain ⟨o, ho, hc⟩ := Option.map_eq_some_iff.mp (show (K.lookup fI).map (·.cls) = some (.type "function") from beq_iff_eq.mp T.fn)
    exact ⟨o, X _ _ ho, hc⟩
  have kk : ∀ b o, h.get? b = some o → ((h.push (kdv_tup us)).push (excObj C h.objs.size none .none)).get? b = some o := fun b o q => Heap.get?_push_of_some _ (Heap.get?_push_of_some _ q)
  have c5 : ((h.push (kdv_tup us)).push (excObj C h.objs.size none .none)).get? (h.objs.size + 1) = some (excObj C h.objs.size none .none) := by heap_get
  refine wpAny_call (callMade T.FB hT hC (looks_findIn X T.ini) (fun self => exc_bind hoI hcI self) hus ?_)
  refine initRuns T S (n0 := h.objs.size) (fun b o q => Heap.lt_size (X b o q)) (Nat.le_succ _) hl (X.keeps kk) (hm.keeps kk) (hb.keeps kk) m1 m2 (lim.keeps kk) room (bt _) hloc hself hx c5 fun h' tk k' F' => ?_
  refine ⟨rfl, ?_⟩
  exact z h' tk _ (fun b o q => k' b o (Heap.lt_size q) (kk b o q)) F'
end
end XR
/-! repr of data that stands in the abstract heap: none, bools, ints, texts, lists, tuples, dicts with int and text keys. -/
namespace XR
open PySem PySem.Spec L2
mutual
inductive Dq (K : PySem.W.Frag) (H : Hp) : V → PyData → Prop
  | non : Dq K H .non .none
  | bl (b : Bool) : Dq K H (.bl b) (.bool b)
  | int (i : Int) : Dq K H (.int i) (.int i)
  | str (x : Str) : Dq K H (.str x) (.str x)
  | lst {a : Addr} {xs : List V} {ds : List PyData} : SqL K H a xs → DqAll K H xs ds → Dq K H (.ref a) (.list ds)
  | tup {a : Addr} {xs : List V} {ds : List PyData} : SqT K H a xs → DqAll K H xs ds → Dq K H (.ref a) (.tuple ds)
  | dct {a : Addr} {kvs : List (Key × V)} {ds : List (PyData × PyData)} : H a = some (.dK kvs) → DqAll K H (kvs.map fun p => kV p.1) (ds.map (·.1)) → DqAll K H (kvs.map (·.2)) (ds.map (·.2)) → Dq K H (.ref a) (.dict ds)
inductive DqAll (K : PySem.W.Frag) (H : Hp) : List V → List PyData → Prop
  | nil : DqAll K H [] []
  | cons {v : V} {vs : List V} {d : PyData} {ds : List PyData} : Dq K H v d → DqAll K H vs ds → DqAll K H (v :: vs) (d :: ds)
end
theorem DqAll.length {K : PySem.W.Frag} {H : Hp} : ∀ {vs : List V} {ds : List PyData}, DqAll K H vs ds → vs.length = ds.length
  | _, _, .nil => rfl
  | _, _, .cons _ h => by simp [h.length]
theorem DqAll.append {K : PySem.W.Frag} {H : Hp} : ∀ {vs ws : List V} {ds es : List PyData}, DqAll K H vs ds → DqAll K H ws es → DqAll K H (vs ++ ws) (ds ++ es)
  | _, _, _, _, .nil, h => h
  | _, _, _, _, .cons a b, h => .cons a (b.append h)
theorem DqAll.rep {K : PySem.W.Frag} {H : Hp} {v : V} {d : PyData} (h : Dq K H v d) : ∀ n : Nat, DqAll K H (List.replicate n v) (List.replicate n d)
  | 0 => .nil
  | n + 1 => by
    rw [List.replicate_succ, List.replicate_succ]
    exact .cons h (DqAll.rep h n)
theorem Same.tup {K : PySem.W.Frag} {H H' : Hp} {a : Addr} {xs : List V} (e : Same H H') (h : SqT K H a xs) : SqT K H' a xs := by
  rcases h with (h | ⟨o, h⟩) | h
  · exact .inl (.inl (e _ _ h))
  · exact .inl (.inr ⟨o, e _ _ h⟩)
  · exact .inr h
mutual
theorem Dq.same {K : PySem.W.Frag} {H H' : Hp} (e : Same H H') : ∀ {v : V} {d : PyData}, Dq K H v d → Dq K H' v d
  | _, _, .non => .non
  | _, _, .bl b => .bl b
  | _, _, .int i => .int i
  | _, _, .str x => .str x
  | _, _, .lst h1 h2 => .lst (e.seq h1) (DqAll.same e h2)
  | _, _, .tup h1 h2 => .tup (Same.tup e h1) (DqAll.same e h2)
  | _, _, .dct h1 h2 h3 => .dct (e _ _ h1) (DqAll.same e h2) (DqAll.same e h3)
theorem DqAll.same {K : PySem.W.Frag} {H H' : Hp} (e : Same H H') : ∀ {vs : List V} {ds : List PyData}, DqAll K H vs ds → DqAll K H' vs ds
  | _, _, .nil => .nil
  | _, _, .cons a b => .cons (Dq.same e a) (DqAll.same e b)
end
/-- the entries of a dict: their keys and values -/
theorem pairs_keys {P : Program} {w : World} : ∀ {kvs : List (Key × V)} {vs : List (Key × Value)} {es : List DictEntry}, KV kvs vs → Pairs (mixKind P w) es vs →
    Vals (kvs.map fun p => kV p.1) (es.map (·.key)) ∧ Vals (kvs.map (·.2)) (es.map (·.val))
  | _, _, _, .nil, h => by
    cases h
    exact ⟨.nil, .nil⟩
  | _, _, _, .cons r t, h => by
    cases h with
    | cons h1 h2 h3 =>
      obtain ⟨a, b⟩ := pairs_keys t h3
      obtain ⟨r1, r2⟩ := r
      refine ⟨.cons ?_ a, .cons ?_ b⟩
      · dsimp only
        rw [r1]
        rcases keyIs_shape (show keyIs _ _ = true from h1) with ⟨i, t, q1, q2⟩ | ⟨x, t, q1, q2⟩
        · rw [q1, q2]; exact ⟨t, rfl⟩
        · rw [q1, q2]; exact ⟨t, rfl⟩
      · dsimp only
        rw [h2]; exact r2
section
variable {X : Cx} {pins : List (Addr × Obj)} {σ : St} {H : Hp} {s : Shared}
mutual
theorem Dq.both (I : Inv X pins σ H s) : ∀ {v : V} {d : PyData} {u : Value}, Dq X.K H v d → RelV v u → d.showable = true → d.shown.length ≤ sizeLine →
    ∃ as bs, Reads s.heap u d as ∧ ReadAtMost s.heap d.depth bs ∧ ReprK X.prog X.w bs s.heap d.depth u d.shown
  | _, _, _, .non, r, _, _ => by
    cases r
    exact ⟨_, [], .none, (fun _ h => nomatch h), by simp only [PyData.shown]; exact .of_is ReprIs.none _ _ _⟩
  | _, _, _, .bl b, r, _, _ => by
    cases r
    exact ⟨_, [], .bool b, (fun _ h => nomatch h), by simp only [PyData.shown]; exact .of_is (ReprIs.bool b) _ _ _⟩
  | _, _, _, .int i, r, hs, _ => by
    obtain ⟨t, rfl⟩ := r
    exact ⟨_, [], .int i t, (fun _ h => nomatch h), by simp only [PyData.shown]; exact .of_is (ReprIs.int t (by simpa [PyData.showable] using hs)) _ _ _⟩
  | _, _, _, .str x, r, _, hz => by
    obtain ⟨t, rfl⟩ := r
    exact ⟨_, [], .str x t, (fun _ h => nomatch h), by simp only [PyData.shown]; exact .of_is (ReprIs.str x t (by simpa only [PyData.shown] using hz)) _ _ _⟩
  | _, _, _, .lst (a := a) (ds := ds) h1 h2, r, hs, hz => by
    cases r
    have hz' : (listText (PyData.shownAll ds)).length ≤ sizeLine := by simpa only [PyData.shown] using hz
    obtain ⟨its, rv, ⟨o, n, ho, hc, _, hd⟩, _⟩ := I.list h1
    obtain ⟨as, bs, q1, q2, q3⟩ := DqAll.both I h2 rv (by simpa [PyData.showable] using hs) (fun t ht => Nat.le_trans (listText_mem_le ht) hz')
    have rr : Reads s.heap (.ref a) (.list ds) _ := .list ho hc hd q1
    have hna : a ∉ bs := not_mem_of_deeper rr (by simp only [PyData.depth]; omega) q2
    refine ⟨_, a :: bs, rr, ReadAtMost.cons rr (by simp only [PyData.depth]; omega) q2, ?_⟩
    simp only [PyData.depth, PyData.shown]
    cases its with
    | nil =>
      cases q1
      simp only [PyData.shownAll, listText_nil]
      exact ReprK.listEmpty ho hc hd
    | cons y l => exact ReprK.list ho hc hd hna (by simpa using q3.length_eq) (fun i y e => q3.item i y (by simpa using e))
  | _, _, _, .tup (a := a) (ds := ds) h1 h2, r, hs, hz => by
    cases r
    have hz' : (tupleText (PyData.shownAll ds)).length ≤ sizeLine := by simpa only [PyData.shown] using hz
    obtain ⟨its, rv, ⟨o, ho, hc, n, hd⟩, _⟩ := I.tuple h1
    obtain ⟨as, bs, q1, q2, q3⟩ := DqAll.both I h2 rv (by simpa [PyData.showable] using hs) (fun t ht => Nat.le_trans (tupleText_mem_le ht) hz')
    have rr : Reads s.heap (.ref a) (.tuple ds) _ := .tuple ho hc hd q1
    have hna : a ∉ bs := not_mem_of_deeper rr (by simp only [PyData.depth]; omega) q2
    refine ⟨_, a :: bs, rr, ReadAtMost.cons rr (by simp only [PyData.depth]; omega) q2, ?_⟩
    simp only [PyData.depth, PyData.shown]
    exact ReprK.tuple ho hc hd hna q3
  | _, _, _, .dct (a := a) (kvs := kvs) (ds := ds) h1 h2 h3, r, hs, hz => by
    cases r
    have hz' : (dictText (PyData.shownKv ds)).length ≤ sizeLine := by simpa only [PyData.shown] using hz
    obtain ⟨hl, hsys, vs, rk, o, es, ep, ho, ⟨hc, _⟩, hd, _, hp, _⟩ := (show ObjOk X.prog X.w H s.heap a (.dK kvs) from I.hok a _ h1)
    obtain ⟨r1, r2⟩ := pairs_keys rk hp
    obtain ⟨s1, s2⟩ := PyData.showableKv_split ds (by simpa [PyData.showable] using hs)
    obtain ⟨a1, b1, q1, q2, q3⟩ := DqAll.both I h2 r1 s1 (fun t ht => let ⟨p, hp, hl⟩ := PyData.shownKv_key_le ds t ht; Nat.le_trans hl (Nat.le_trans (dictText_mem_le hp) hz'))
    obtain ⟨a2, b2, t1, t2, t3⟩ := DqAll.both I h3 r2 s2 (fun t ht => let ⟨p, hp, hl⟩ := PyData.shownKv_val_le ds t ht; Nat.le_trans hl (Nat.le_trans (dictText_mem_le hp) hz'))
    have rr : Reads s.heap (.ref a) (.dict ds) _ := .dict ho hc hd q1 t1
    have hb : ReadAtMost s.heap (PyData.depthKv ds) (b1 ++ b2) := (q2.mono (PyData.depthAll_keys_le ds)).append (t2.mono (PyData.depthAll_vals_le ds))
    have hna : a ∉ b1 ++ b2 := not_mem_of_deeper rr (by simp only [PyData.depth]; omega) hb
    refine ⟨_, a :: (b1 ++ b2), rr, ReadAtMost.cons rr (by simp only [PyData.depth]; omega) hb, ?_⟩
    simp only [PyData.depth, PyData.shown, PyData.shownKv_eq]
    exact ReprK.dict ho hc hd hsys hna (ReprEntriesK.of_two es.toList _ _
      (q3.more_le (fun b hb => List.mem_append_left _ hb) (PyData.depthAll_keys_le ds)) (t3.more_le (fun b hb => List.mem_append_right _ hb) (PyData.depthAll_vals_le ds)))
theorem DqAll.both (I : Inv X pins σ H s) : ∀ {vs : List V} {ds : List PyData} {us : List Value}, DqAll X.K H vs ds → Vals vs us → PyData.showableAll ds = true → (∀ t ∈ PyData.shownAll ds, t.length ≤ sizeLine) →
    ∃ as bs, ReadsAll s.heap us ds as ∧ ReadAtMost s.heap (PyData.depthAll ds) bs ∧ ReprAllK X.prog X.w bs s.heap (PyData.depthAll ds) us (PyData.shownAll ds)
  | _, _, _, .nil, r, _, _ => by
    cases r
    exact ⟨_, [], .nil, (fun _ h => nomatch h), .nil⟩
  | _, _, _, .cons (d := d) (ds := ds) h1 h2, r, hs, hz => by
    cases r with
    | cons r1 r2 =>
      have hs' : d.showable = true ∧ PyData.showableAll ds = true := by simpa [PyData.showableAll] using hs
      obtain ⟨a1, b1, q1, q2, q3⟩ := Dq.both I h1 r1 hs'.1 (hz _ (by simp only [PyData.shownAll]; exact List.mem_cons_self ..))
      obtain ⟨a2, b2, t1, t2, t3⟩ := DqAll.both I h2 r2 hs'.2 (fun t ht => hz t (by simp only [PyData.shownAll]; exact List.mem_cons_of_mem _ ht))
      refine ⟨_, b1 ++ b2, .cons q1 t1, ?_, ?_⟩
      · simp only [PyData.depthAll]
        exact (q2.mono (Nat.le_max_left _ _)).append (t2.mono (Nat.le_max_right _ _))
      · simp only [PyData.depthAll, PyData.shownAll]
        exact .cons ((q3.more fun b hb => List.mem_append_left _ hb).level_le (Nat.le_max_left _ _)) (t3.more_le (fun b hb => List.mem_append_right _ hb) (Nat.le_max_right _ _))
end
end
section
variable {X : Cx}
def rRepr (K : PySem.W.Frag) : List V → Hp → VK → Prop := fun xs H Q => ∃ x d, xs = [x] ∧ Dq K H x d ∧ d.showable = true ∧ d.shown.length ≤ sizeLine ∧ d.depth ≤ 60 ∧ Q (.str d.shown) H
/-- repr(x), x data; no repr is under way around -/
theorem call_reprQ (hg : X.A.guards = some []) (hu : X.A.units + 64 < cLine) : CallR X (.builtin "repr") (rRepr X.K) := by
  intro pins s σ H xs us Q I r h
  obtain ⟨x, d, rfl, hd, hs, hz, hdp, q⟩ := h
  obtain ⟨u, rfl, ru⟩ := vals1 r
  have fin : ∀ (h' : Heap) (t tk : Nat), (∀ b o, s.heap.get? b = some o → h'.get? b = some o) → EP X pins σ Q (.str d.shown t) { s with heap := h', toks := tk } := fun h' t tk k => ⟨.str d.shown, H, I.kept k, ⟨t, rfl⟩, q⟩
  cases hd with
  | non =>
    cases ru
    refine PySem.P.repr_of_none ?_
    have e := fin s.heap s.toks (s.toks + 1) fun _ _ q => q
    simpa only [PyData.shown] using e
  | bl b =>
    cases ru
    refine PySem.P.repr_of_bool ?_
    have e := fin s.heap s.toks (s.toks + 1) fun _ _ q => q
    simpa only [PyData.shown] using e
  | int i =>
    obtain ⟨t, rfl⟩ := ru
    refine PySem.P.repr_of_int (by simpa [PyData.showable] using hs) ?_
    have e := fin s.heap s.toks (s.toks + 1) fun _ _ q => q
    simpa only [PyData.shown] using e
  | str y =>
    obtain ⟨t, rfl⟩ := ru
    refine PySem.P.repr_of_str ?_ (by simpa only [PyData.shown] using hz)
    have e := fin s.heap s.toks (s.toks + 1) fun _ _ q => q
    simpa only [PyData.shown] using e
  | @lst a xs ds h1 h2 =>
    cases ru
    have hz' : (listText (PyData.shownAll ds)).length ≤ sizeLine := by simpa only [PyData.shown] using hz
    obtain ⟨its, rv, ⟨o, n, ho, hc, _, hd'⟩, _⟩ := I.list h1
    obtain ⟨as, bs, q1, q2, q3⟩ := DqAll.both I h2 rv (by simpa [PyData.showable] using hs) (fun t ht => Nat.le_trans (listText_mem_le ht) hz')
    have hna : a ∉ bs := not_mem_of_deeper (.list ho hc hd' q1) (by simp only [PyData.depth]; omega) q2
    simp only [PyData.depth] at hdp
    simp only [PyData.shown] at fin
    refine call_repr_slot (by omega) ⟨o, ho, hc⟩ F.slot_list_repr.toG ?_
    cases its with
    | nil =>
      cases q1
      simp only [PyData.shownAll, listText_nil] at fin
      exact call_list_repr_empty ⟨o, ho, hc⟩ ho hd' ⟨_, _, rfl, fin s.heap _ _ fun _ _ q => q⟩
    | cons y l =>
      exact call_list_reprK ho hc hd' hna (by simpa using q3.length_eq) (fun i y e => q3.item i y (by simpa using e)) (show X.A.in1.guards = some [] from hg) (fun b _ => Clear.nil b) (by show X.A.units + 1 + _ < cLine; omega) (fun _ _ q => q) (fun h' u tk k => ⟨_, _, rfl, fin h' u tk k⟩) hz'
  | @tup a xs ds h1 h2 =>
    cases ru
    have hz' : (tupleText (PyData.shownAll ds)).length ≤ sizeLine := by simpa only [PyData.shown] using hz
    obtain ⟨its, rv, ⟨o, ho, hc, n, hd'⟩, _⟩ := I.tuple h1
    obtain ⟨as, bs, q1, q2, q3⟩ := DqAll.both I h2 rv (by simpa [PyData.showable] using hs) (fun t ht => Nat.le_trans (tupleText_mem_le ht) hz')
    have hna : a ∉ bs := not_mem_of_deeper (.tuple ho hc hd' q1) (by simp only [PyData.depth]; omega) q2
    simp only [PyData.depth] at hdp
    simp only [PyData.shown] at fin
    refine call_repr_slot (by omega) ⟨o, ho, hc⟩ F.slot_tuple_repr ?_
    exact call_tuple_reprK ho hc hd' hna q3 (show X.A.in1.guards = some [] from hg) (fun b _ => Clear.nil b) (by show X.A.units + 1 + _ < cLine; omega) (fun _ _ q => q) (fun h' u tk k => ⟨_, _, rfl, fin h' u tk k⟩) hz'
  | @dct a kvs ds h1 h2 h3 =>
    cases ru
    have hz' : (dictText (PyData.shownKv ds)).length ≤ sizeLine := by simpa only [PyData.shown] using hz
    obtain ⟨hl, hsys, vs, rk, o, es, ep, ho, ⟨hc, _⟩, hd', _, hp, _⟩ := (show ObjOk X.prog X.w H s.heap a (.dK kvs) from I.hok a _ h1)
    obtain ⟨r1, r2⟩ := pairs_keys rk hp
    obtain ⟨s1, s2⟩ := PyData.showableKv_split ds (by simpa [PyData.showable] using hs)
    obtain ⟨a1, b1, q1, q2, q3⟩ := DqAll.both I h2 r1 s1 (fun t ht => let ⟨p, hp, hl⟩ := PyData.shownKv_key_le ds t ht; Nat.le_trans hl (Nat.le_trans (dictText_mem_le hp) hz'))
    obtain ⟨a2, b2, t1, t2, t3⟩ := DqAll.both I h3 r2 s2 (fun t ht => let ⟨p, hp, hl⟩ := PyData.shownKv_val_le ds t ht; Nat.le_trans hl (Nat.le_trans (dictText_mem_le hp) hz'))
    have hb : ReadAtMost s.heap (PyData.depthKv ds) (b1 ++ b2) := (q2.mono (PyData.depthAll_keys_le ds)).append (t2.mono (PyData.depthAll_vals_le ds))
    have hna : a ∉ b1 ++ b2 := not_mem_of_deeper (.dict ho hc hd' q1 t1) (by simp only [PyData.depth]; omega) hb
    simp only [PyData.depth] at hdp
    simp only [PyData.shown, PyData.shownKv_eq] at fin
    refine call_repr_slot (by omega) ⟨o, ho, hc⟩ F.slot_dict_repr ?_
    exact call_dict_reprK ho hc hd' hsys hna (ReprEntriesK.of_two es.toList _ _
      (q3.more_le (fun b hb => List.mem_append_left _ hb) (PyData.depthAll_keys_le ds)) (t3.more_le (fun b hb => List.mem_append_right _ hb) (PyData.depthAll_vals_le ds)))
      (show X.A.in1.guards = some [] from hg) (fun b _ => Clear.nil b) (by show X.A.units + 1 + _ < cLine; omega) (fun _ _ q => q) (fun h' u tk k => ⟨_, _, rfl, fin h' u tk k⟩) (by rw [← PyData.shownKv_eq]; exact hz')
end
end XR
/-! Defs that ask for a repr: their promise where no repr is under way around the call. -/
namespace XR
open PySem PySem.Spec L2
open PyProof.Rows hiding St
structure FnG (P : Program) (w : World) (K : PySem.W.Frag) (mg : Str → Option Value) (base : Heap) (k : Nat) (f : Addr) (fd : FuncData) (ps : List Str) (sp : Sp) : Prop where
  len : ∀ vs H Q E, sp vs H Q E → vs.length = ps.length
  run : ∀ (A : Around) (outer : List Env) (s : Shared) (H : Hp) (args : Args) (us : List Value) (vs : List V) (Q : VK) (E : XK), A.guards = some [] → Room k A → Env0 P w K mg base A outer s H → BindsTo s fd args (ps.zip us) → Vals vs us → sp vs H Q E →
    codeAny (model P w) A (.call (.ref f) args) (CR CX0 outer P w H s Q E) s
section
variable {P : Program} {w : World} {K : PySem.W.Frag} {mg : Str → Option Value} {base : Heap}
theorem FnG.of {k : Nat} {f : Addr} {fd : FuncData} {ps : List Str} {sp : Sp} (F : FnOk P w K mg base CX0 k f fd ps sp) : FnG P w K mg base k f fd ps sp :=
  ⟨F.len, fun A outer s H args us vs Q E _ hr he hb hv hs => F.run A outer s H args us vs Q E hr he hb hv hs⟩
/-- a def by its body; in the body the guards are none -/
theorem okG {x qual : Str} {st : Stmt} {f : Addr} {fd : FuncData} {N ps : List Str} {k : Nat} {sp : Sp} (F : Fun K x qual st f fd) (S : FnScope N ps (defScope st)) (len : ∀ vs H Q E, sp vs H Q E → vs.length = ps.length)
    (hbody : ∀ (cdv : Value) (A : Around) (outer : List Env) (s : Shared) (H : Hp) (vs : List V) (Q : VK) (E : XK), Room k (A.deeper (envOfC qual (defScope st) s.heap.objs.size f cdv)) → A.guards = some [] → sp vs H Q E →
      ∃ t, PSs (cxOf CX0 P w K mg base N qual (defScope st) f cdv A outer s H E).nox (defBody st) t ∧ t { nx := fun _ H' => Q .non H', rt := Q } (start N vs) H) : FnG P w K mg base (k + 1) f fd ps sp := by
  obtain ⟨oc, od, kV, doc, pm, an, cdv, ct, osl, rfl, lk, hcd⟩ := F.ex
  refine ⟨len, fun A outer s H args us vs Q E hg hr e0 hb r hsp => ?_⟩
  have hl := len _ _ _ _ hsp
  have k0 : ∀ b o, base.get? b = some o → s.heap.get? b = some o := fun b o e => (e0.bs b o e).1
  have KX : K.In s.heap := e0.mod.kin.keeps k0
  have par : ∀ y ∈ ps.zip us, (defScope st).names.lookup y.1 = some .local ∨ ((defScope st).names.lookup y.1 = some .cell ∧ ((cellsFrom (s.heap.objs.size + 1) (defScope st).names []).lookup y.1).isSome = true) := by
    rintro ⟨n, v⟩ hy
    rcases S.par n (List.of_mem_zip hy).1 with q | q
    · exact .inl q
    · exact .inr ⟨q, PySem.W.cellsFrom_some _ _ _ (.inl q)⟩
  refine codeAny_call_function hr.depth (KX _ _ lk) rfl S.co S.gen rfl
    (PySem.W.codeRec_of KX hcd) (hb _ _ _ _ ?_)
  refine wpAny_newFunctionEnv_cells S.kind par fun env he s1 xx => ?_
  subst he
  refine ⟨(e0.mod.nolimit.keeps k0).keeps xx.toInCall.keep, codeAny_func ?_⟩
  obtain ⟨t, ht, hq⟩ := hbody cdv A outer s H vs Q E (hr.deeper _) hg hsp
  have I : Inv (cxOf CX0 P w K mg base N qual (defScope st) f cdv A outer s H E) [] (start N vs) H s1 :=
    inv_start S hr.hd e0 hl r xx
  have tb := ht.nox
  refine wpAny_mono (tb.run [] s1 (start N vs) H _ I hq) (fun fl s' hs => ?_) fun e s' hs => hs
  cases fl with
  | ret u =>
    obtain ⟨v, σ', H', J, rv, q⟩ := hs
    exact ⟨v, H', J.os, J.bare, J.base, J.hok, rv, q⟩
  | next =>
    obtain ⟨σ', H', J, q⟩ := hs
    exact ⟨V.non, H', J.os, J.bare, J.base, J.hok, rfl, q⟩
  | brk =>
    obtain ⟨_, _, _, q⟩ := hs
    exact q.elim
  | cont =>
    obtain ⟨_, _, _, q⟩ := hs
    exact q.elim
end
section
variable {X : Cx} {k : Nat} {f : Addr} {fd : FuncData} {ps : List Str} {sp : Sp} {E : XK} {x : Str} {p pos : Pos} {e : Expr} {es : List Expr} {t : TA}
/-- the call of such a def -/
theorem pe_callG (F : FnG X.prog X.w X.K X.mg X.base k f fd ps sp) (hg : X.A.guards = some []) (hr : Room k X.A) (hgl : Gl X x) (hm : X.mg x = some (.ref f)) (hk : PySem.W.keepIn X.K (.ref f) = true) (hb : Binds X.K fd ps []) (ha : PA X (e :: es) t)
    (hdb : (x == ("__debug__" : Str)) = false := by decide) (he : starEach (e :: es) X.env = (false, eval e X.env) :: starEach es X.env := by rfl) (hpl : (backTo pos (starEach es X.env)).any (·.1) = false := by rfl) :
    PE X (.Call (.Name x p) (e :: es) [] pos) (tCall sp [] E0 t) := by
  refine ⟨fun pins s σ H Q I h => ?_⟩
  refine wpAny_Call_Name_kw (ld_glob I hgl hm ?_ hdb)
  refine PySem.W.callWith_K (h₀ := X.base) I.ok.mod.kin hk (thn (ha.run pos pins s σ H _ I h) fun us s1 ⟨vs, H1, I1, r, q⟩ => ⟨I1.kIn, ?_⟩) he hpl
  have q : sp vs H1 Q E0 := by simpa using q
  have hl : (us ++ []).length = ps.length := by rw [List.append_nil, ← r.length]; exact F.len _ _ _ _ q
  have hbt := hb s1 us I1.kIn hl
  rw [List.append_nil] at hbt
  refine wpAny_call (codeAny_mono (F.run X.A X.stack s1 H1 ⟨us, []⟩ us vs Q E0 hg hr I1.env0 hbt r q) fun r' s' hq => ?_)
  cases r' with
  | error e => exact False.elim hq
  | ok fl =>
    cases fl with
    | ret u => exact I1.after hq
    | next => exact False.elim hq
    | brk => exact False.elim hq
    | cont => exact False.elim hq
end
/-- the call of the law over the heap behind the top -/
theorem lawCallG {P : Program} {w : World} {K : PySem.W.Frag} {mg mb : Str → Option Value} {k : Nat} {fa a : Addr} {fd : FuncData} {x : Str} {sp : Sp} {s₁ : Shared} {vs : List Value} {ns : List Int}
    (KX : K.In s₁.heap) (h1 : s₁.heap.Ns mainGlobals mg) (h2 : s₁.heap.Ns builtinsNs mb) (h3 : ∀ x : Str, x ≠ "__name__" → mb x = bootBuiltins x) (h4 : s₁.heap.NoLimit) (h5 : s₁.gens = #[])
    (ha : s₁.heap.get? a = some { cls := .type "list", data := .seq vs.toArray }) (hi : IntsAre vs ns) (hl : ns.length ≤ sizeLine) (hr : Room k callerA)
    (F : ∀ base : Heap, K.In base → base.Ns mainGlobals mg → FnG P w K mg base k fa fd [x] sp) (hbind : ∀ (s : Shared) (u : Value), BindsTo s fd ⟨[u], []⟩ [(x, u)])
    (hsp : ∀ H : Hp, Only H → SqL K H a (ns.map V.int) → sp [.ref a] H (fun v _ => v = .bl true) fun _ _ _ => False) :
    codeAny (model P w) callerA (.call (.ref fa) ⟨[.ref a], []⟩) (fun r s' => r = .ok (.ret (.bool true)) ∧ OldK s₁.heap s'.heap ∧ s'.os = s₁.os ∧ AllBare s'.gens) s₁ := by
  have rv := vals_ints hi
  have lenV := hi.length
  have main : ∀ H : Hp, Only H → SqL K H a (ns.map V.int) → HOk P w H s₁.heap → (∀ b, H b ≠ none → b = a ∧ K.lookup a = none) →
      codeAny (model P w) callerA (.call (.ref fa) ⟨[.ref a], []⟩) (fun r s' => r = .ok (.ret (.bool true)) ∧ OldK s₁.heap s'.heap ∧ s'.os = s₁.os ∧ AllBare s'.gens) s₁ := by
    intro H hO hS hok hA
    have free : ∀ {b : Addr}, b ≠ a → H b = none := fun {b} hb => by
      cases q : H b with
      | none => rfl
      | some u => exact absurd (hA b (by rw [q]; exact Option.some_ne_none u)).1 hb
    have ns' : ∀ {b : Addr} {m : Str → Option Value}, s₁.heap.Ns b m → (hidT s₁.heap H).Ns b m := by
      rintro b m ⟨o, es, ep, e, d, r⟩
      have hb : b ≠ a := by
        rintro rfl
        rw [ha] at e
        cases e
        cases d
      exact ⟨o, es, ep, hidT_get e (free hb), d, r⟩
    have kb : K.In (hidT s₁.heap H) := fun b o e => by
      refine hidT_get (KX b o e) ?_
      cases q : H b with
      | none => rfl
      | some u =>
        obtain ⟨e1, e2⟩ := hA b (by rw [q]; exact Option.some_ne_none u)
        rw [e1, e2] at e
        cases e
    obtain ⟨mc, l1, l2⟩ := h4
    have M : Mod K mg (hidT s₁.heap H) := ⟨kb, ns' h1, ⟨mb, ns' h2, h3⟩, ⟨mc, ns' l1, l2⟩⟩
    have e0 : Env0 P w K mg (hidT s₁.heap H) callerA [] s₁ H :=
      ⟨rfl, M, fun b o e => of_hidT e, Nat.le_of_eq (hidT_size _ _), trivial, fun b hb => (List.not_mem_nil (a := b) hb).elim, hok, .of_eq h5⟩
    have run := (F _ kb (ns' h1)).run callerA [] s₁ H ⟨[.ref a], []⟩ [.ref a] [.ref a] _ _ rfl hr e0 (hbind s₁ (.ref a)) (.cons rfl .nil) (hsp H hO hS)
    refine codeAny_mono run fun r s' h => ?_
    cases r with
    | error e => exact False.elim h
    | ok fl =>
      cases fl with
      | next => exact False.elim h
      | brk => exact False.elim h
      | cont => exact False.elim h
      | ret u =>
        obtain ⟨v, H', os, bare, un, hok', r', q⟩ := h
        obtain rfl : v = V.bl true := q
        obtain rfl : u = Value.bool true := r'
        refine ⟨rfl, OldK.of_keep fun b o e => ?_, os, bare⟩
        rcases hO b with z | ⟨ob, xs, z⟩
        · exact un.keep b o e z (List.not_mem_nil (a := b)) (List.not_mem_nil (a := b))
        · obtain ⟨e1, _⟩ := hok b _ z
          obtain ⟨e2, _⟩ := hok' b _ (un.frzs b ob _ z)
          rw [e] at e1
          cases e1
          exact e2
  cases hk : K.lookup a with
  | some o =>
    have e := KX a o hk
    rw [ha] at e
    cases e
    exact main (fun _ => none) (fun _ => .inl rfl) (.inr ⟨_, vs.toArray, _, hk, rfl, rfl, rfl, by rw [List.size_toArray, lenV]; exact hl, by simpa using rv⟩) (fun b u z => nomatch z) fun b z => absurd rfl z
  | none =>
    have hT : ∀ {b : Addr} {u : HO}, (if b = a then some (HO.frz { cls := .type "list", data := .seq vs.toArray } (.lst (ns.map V.int))) else none) = some u → b = a ∧ u = .frz { cls := .type "list", data := .seq vs.toArray } (.lst (ns.map V.int)) := fun {b u} z => by
      by_cases hb : b = a
      · rw [if_pos hb] at z
        exact ⟨hb, (Option.some.inj z).symm⟩
      · rw [if_neg hb] at z
        cases z
    refine main (fun b => if b = a then some (.frz { cls := .type "list", data := .seq vs.toArray } (.lst (ns.map V.int))) else none) (fun b => ?_) (.inl (.inr ⟨_, if_pos rfl⟩)) (fun b u z => ?_) fun b z => ?_
    · by_cases hb : b = a
      · exact .inr ⟨_, _, if_pos hb⟩
      · exact .inl (if_neg hb)
    · obtain ⟨rfl, rfl⟩ := hT z
      exact ⟨ha, by rw [List.length_map]; exact hl, vs, _, rv, ha⟩
    · obtain ⟨u, hu⟩ := Option.ne_none_iff_exists'.mp z
      exact ⟨(hT hu).1, hk⟩
/-- the law's end, for such a promise -/
theorem walkG {l : PySem.W.OpenLaw} {n k : Nat} {q : Program} {loose : List Str} {XP : (Str → Option Value) → Heap → Prop} {YP : World → Heap → Prop} {d : DefRec} {K : Params → PySem.W.Frag} {sp : World → Sp} {x : Str}
    (hn : l.most = some n) (hn2 : n ≤ sizeLine) (hdf : d.params.defaults = []) (hr : Room k callerA) (hY : ∀ (w : World) (h : Heap), YP w h → (K w.params).In h)
    (F : ∀ (w : World) (mg : Str → Option Value) (fa : Addr) (h : Heap), (K w.params).In h → h.Ns mainGlobals mg → mg d.name = some (.ref fa) →
      ∃ fd : FuncData, (∀ (s : Shared) (u : Value), BindsTo s fd ⟨[u], []⟩ [(x, u)]) ∧ ∀ base : Heap, (K w.params).In base → base.Ns mainGlobals mg → FnG l.prog w (K w.params) mg base k fa fd [x] (sp w))
    (hsp : ∀ (w : World) (H : Hp) (a : Addr) (ns : List Int), ns.length ≤ n → Only H → SqL (K w.params) H a (ns.map V.int) → sp w [.ref a] H (fun v _ => v = .bl true) fun _ _ _ => False) :
    PySem.W.WalkO q loose XP YP l.row.toRowW d [] (fun f vs => PySem.call f vs) := by
  refine Att.attach_call hn hdf fun w s₀ s₁ mg mb fa o pm cd doc a vs ns G Y ho hd hcd hmg hobj hints hlen hg => ?_
  obtain ⟨fd, hb, hF⟩ := F w mg fa _ (hY w _ Y) G.T.g hmg
  exact lawCallG (hY w _ Y) G.T.g G.T.b G.T.builtins G.T.nolimit hg hobj hints (Nat.le_trans hlen hn2) hr hF hb fun H hO hS => hsp w H a ns hlen hO hS
end XR
/-! Exceptions of the text as values: made, their fields read, isinstance of them. -/
namespace XR
open PySem PySem.Spec L2
/-- an exception of the class at C with the fields fs, newest first -/
def ExAt (H : Hp) (e C : Addr) (fs : List (Str × V)) : Prop := (fs = [] ∧ H e = some (exo e C none)) ∨ ∃ dx, H e = some (exo e C (some dx)) ∧ H dx = some (exd dx fs)
theorem ExAt.same {H H' : Hp} {e C : Addr} {fs : List (Str × V)} (s : Same H H') (h : ExAt H e C fs) : ExAt H' e C fs := by
  rcases h with ⟨h1, h2⟩ | ⟨dx, h1, h2⟩
  · exact .inl ⟨h1, s _ _ h2⟩
  · exact .inr ⟨dx, s _ _ h1, s _ _ h2⟩
abbrev FV : List (Str × V) → List (Str × Value) → Prop := Paired fun p q => p.1 = q.1 ∧ RelV p.2 q.2
theorem FV.rel : ∀ {fs : List (Str × V)} {gs : List (Str × Value)}, FV fs gs → ∀ f, RelO (fs.lookup f) (gs.lookup f)
  | _, _, .nil, _ => True.intro
  | (a, v) :: fs, (b, u) :: gs, .cons ⟨h1, h2⟩ t, f => by
    have h1 : a = b := h1
    subst h1
    by_cases q : f = a
    · subst q
      simp only [List.lookup, beq_self_eq_true]
      exact h2
    · have q' : (f == a) = false := by simpa using q
      simp only [List.lookup, q']
      exact FV.rel t f
theorem FV.nil_iff {fs : List (Str × V)} {gs : List (Str × Value)} (h : FV fs gs) : gs = [] → fs = [] := fun e => by
  subst e
  cases h
  rfl
section
variable {X : Cx} {pins : List (Addr × Obj)} {σ : St} {H : Hp} {h h' : Heap} {g : Array GenState} {d : Drawn} {t tk : Nat} {os : OsState} {e C L : Addr} {fs : List (Str × V)} {gs : List (Str × Value)}
theorem laidX (I : Inv X pins σ H ⟨h, g, d, t, os⟩) (k : ∀ b o, h.get? b = some o → h'.get? b = some o) (he : h.objs.size ≤ e) (F : Fl h.objs.size L e C gs h') (r : FV fs gs) :
    ∃ H2, Same H H2 ∧ ExAt H2 e C fs ∧ Inv X pins σ H2 ⟨h', g, d, tk, os⟩ := by
  have ne : H e = none := I.hok.fresh he
  obtain ⟨t1, ⟨hf, ho⟩ | ⟨dx, hf, hd0, hde, hdL, ho, hns⟩⟩ := F
  · subst hf
    have e2 := r.nil_iff rfl
    subst e2
    refine ⟨upd H e (exo e C none), fun b o q => by rw [upd_ne (ne_of_none q ne)]; exact q, .inl ⟨rfl, upd_same⟩, ?_⟩
    exact I.laid (t' := tk) k he (exo_ok ho)
  · have nd : H dx = none := I.hok.fresh hd0
    have sm : Same H (upd (upd H dx (exd dx fs)) e (exo e C (some dx))) := fun b o q => by
      rw [upd_ne (ne_of_none q ne), upd_ne (ne_of_none q nd)]
      exact q
    refine ⟨_, sm, .inr ⟨dx, upd_same, by rw [upd_ne hde]; exact upd_same⟩, ?_⟩
    have lt : ∀ {b : Addr} {o : Obj}, h.get? b = some o → b ≠ e ∧ b ≠ dx := fun {b o} q => ⟨Nat.ne_of_lt (Nat.lt_of_lt_of_le (Heap.lt_size q) he), Nat.ne_of_lt (Nat.lt_of_lt_of_le (Heap.lt_size q) hd0)⟩
    have U : Un X.fs [] H (upd (upd H dx (exd dx fs)) e (exo e C (some dx))) h h' := {
      keep := fun b o q _ _ _ => k b o q
      slot := fun b o q _ _ _ => ⟨o.slots, k b o q⟩
      free := fun b o q n _ => by rw [upd_ne (lt q).1, upd_ne (lt q).2]; exact n
      there := fun b o q _ => ⟨o, k b o q⟩
      tups := fun b xs q => sm _ _ q
      frzs := fun b o u q => sm _ _ q
      tbls := fun b ps q => ⟨#[], by rw [sm _ _ q]; simp⟩ }
    refine I.un (t' := tk) U fun b o q => ?_
    by_cases hb : b = e
    · subst hb
      rw [upd_same] at q
      cases q
      exact exo_ok ho
    · rw [upd_ne hb] at q
      by_cases hd : b = dx
      · subst hd
        rw [upd_same] at q
        cases q
        exact exd_ok hns r.rel
      · rw [upd_ne hd] at q
        exact (I.hok b o q).stay (fun c v _ z => k c v z) (fun c z => sm _ _ z) fun c xs z => sm _ _ z
end
/-- how the class at C is made by a call with n arguments: by position, or by the keywords ks -/
def argsX (kw : Option (List Str)) (e : Addr) (us : List Value) : Args := match kw with
  | none => ⟨.ref e :: us, []⟩
  | some ks => ⟨[.ref e], ks.zip us⟩
structure MkX (K : PySem.W.Frag) (P : Program) (C : Addr) (kw : Option (List Str)) (n : Nat) (fv : List V → List (Str × V)) : Prop where
  n1 : n ≤ 100
  ex : ∃ fI cc cda B newId initId bmB fd txt k p0 p1 p2 p3 p4 p5, ∃ (l : List Value → List Sto) (gb : List Value → List (Str × Value)), XCls K P C fI cc cda B newId initId bmB fd ∧
    (∀ us, us.length = n → Shape P fd fI cda cc txt k p0 p1 p2 p3 p4 p5 (l us) ∧ (l us).length ≤ 900 ∧ (∀ e s, BindsTo s fd (argsX kw e us) (("self", .ref e) :: gb us)) ∧
      (∀ e, ∀ x ∈ (((("self" : Str), Value.ref e) :: gb us) : List (Str × Value)), fd.scope.names.lookup x.1 = some .local) ∧ (∀ e : Addr, (((("self" : Str), Value.ref e) :: gb us) : List (Str × Value)).reverse.lookup ("self" : Str) = some (Value.ref e)) ∧
      (∀ e : Addr, ∀ x ∈ l us, (((("self" : Str), Value.ref e) :: gb us) : List (Str × Value)).reverse.lookup x.p = some x.v ∧ PySem.W.takerIn K C x.f = some none) ∧
      ∀ vs, Vals vs us → FV (fv vs) ((l us).map fun x => (x.f, x.v)).reverse)
section
variable {X : Cx} {k n : Nat} {C : Addr} {fv : List V → List (Str × V)} {x : Str} {p pos : Pos} {e : Expr} {es : List Expr} {t tk : TA} {ks : List Str} {kws : List Keyword} {mb : Str → Option Value}
/-- the call of the class, its arguments at hand -/
theorem runX {pins : List (Addr × Obj)} {σ : St} {H : Hp} {s : Shared} {Q : VK} {kw : Option (List Str)} {us : List Value} {vs : List V} (T : MkX X.K X.prog C kw n fv) (hr : Room 2 X.A) (hsup : X.mg "super" = none) (I : Inv X pins σ H s) (r : Vals vs us) (hl : us.length = n)
    (q : ∀ H2 e, Same H H2 → H e = none → ExAt H2 e C (fv vs) → Q (.ref e) H2) :
    wpAny (model X.prog X.w) X.A (match kw with | none => call (.ref C) us | some ks => call (.ref C) [] (ks.zip us)) (EP X pins σ Q) X.xe s := by
  obtain ⟨fI, cc, cda, B, newId, initId, bmB, fd, txt, kk, p0, p1, p2, p3, p4, p5, l, gb, T1, T2⟩ := T.ex
  obtain ⟨S, hl9, bt, hloc, hself, hx, hfv⟩ := T2 us hl
  obtain ⟨mb, hb, hbb⟩ := I.ok.mod.blt
  have hn : us.length ≤ sizeLine := by rw [hl, sizeLine_eq]; have := T.n1; omega
  have m2 : mb "super" = some (.type "super") := (hbb _ (by decide +kernel)).trans (by decide +kernel)
  obtain ⟨h, g, d, t, os⟩ := s
  have hm := I.ok.mod.glob.keeps I.bk
  have hb' := hb.keeps I.bk
  have dep : ∀ us kw, (X.A.under (.builtin "type.__call__" ⟨.ref C :: us, kw⟩)).depth < recursionLimit := fun us kw => by
    have := hr.dp
    rw [make_depth]
    omega
  have fin : ∀ h' tk L, (∀ b o, h.get? b = some o → h'.get? b = some o) → Fl h.objs.size L (h.objs.size + 1) C ((l us).map fun x => (x.f, x.v)).reverse h' → EP X pins σ Q (.ref (h.objs.size + 1)) ⟨h', g, d, tk, os⟩ := fun h' tk L kp F => by
    obtain ⟨H2, sm, ea, J⟩ := laidX (tk := tk) I kp (Nat.le_succ _) F (hfv vs r)
    exact ⟨.ref (h.objs.size + 1), H2, J, rfl, q H2 _ sm (I.hok.fresh (Nat.le_succ _)) ea⟩
  cases kw with
  | none => exact made T1 S hl9 I.kIn hm hb' hsup m2 I.nolimit (dep _ _) hn (bt _) (hloc _) (hself _) (hx _) fin
  | some ks => exact made (us := []) T1 S hl9 I.kIn hm hb' hsup m2 I.nolimit (dep _ _) (Nat.zero_le _) (bt _) (hloc _) (hself _) (hx _) fin
def tMkX (C : Addr) (n : Nat) (fv : List V → List (Str × V)) (t : TA) : TE := fun σ H Q => t σ H fun vs H1 => vs.length = n ∧ ∀ H2 e, Same H1 H2 → H1 e = none → ExAt H2 e C (fv vs) → Q (.ref e) H2
/-- C(e, ..) -/
theorem pe_mkX (T : MkX X.K X.prog C none n fv) (hk : PySem.W.keepIn X.K (.ref C) = true) (hr : Room 2 X.A) (hsup : X.mg "super" = none) (hg : Gl X x) (hm : X.mg x = some (.ref C)) (ha : PA X (e :: es) t)
    (hdb : (x == ("__debug__" : Str)) = false := by decide) (he : starEach (e :: es) X.env = (false, eval e X.env) :: starEach es X.env := by rfl) (hpl : (backTo pos (starEach es X.env)).any (·.1) = false := by rfl) :
    PE X (.Call (.Name x p) (e :: es) [] pos) (tMkX C n fv t) := by
  refine ⟨fun pins s σ H Q I h => ?_⟩
  refine wpAny_Call_Name_kw (ld_glob I hg hm ?_ hdb)
  refine PySem.W.callWith_K (h₀ := X.base) I.ok.mod.kin hk (thn (ha.run pos pins s σ H _ I h) fun us s1 ⟨vs, H1, I1, r, hl, q⟩ => ⟨I1.kIn, ?_⟩) he hpl
  exact runX (kw := none) T hr hsup I1 r (r.length.symm.trans hl) q
/-- C() -/
theorem pe_mkX0 (T : MkX X.K X.prog C none 0 fv) (hk : PySem.W.keepIn X.K (.ref C) = true) (hr : Room 2 X.A) (hsup : X.mg "super" = none) (hg : Gl X x) (hm : X.mg x = some (.ref C))
    (hdb : (x == ("__debug__" : Str)) = false := by decide) : PE X (.Call (.Name x p) [] [] pos) (tMkX C 0 fv tNil) := by
  refine ⟨fun pins s σ H Q I h => ?_⟩
  refine wpAny_Call_Name_kw (ld_glob I hg hm ?_ hdb)
  obtain ⟨_, q⟩ := h
  exact PySem.W.callWith_K0 I.kIn hk (runX T hr hsup I .nil rfl q)
/-- C(k = e, ..) -/
theorem pe_mkXK (T : MkX X.K X.prog C (some ks) n fv) (hk : PySem.W.keepIn X.K (.ref C) = true) (hr : Room 2 X.A) (hsup : X.mg "super" = none) (hg : Gl X x) (hm : X.mg x = some (.ref C)) (hkw : PK X kws tk)
    (hall : (backToKw pos (keywordEach kws X.env)).all (·.1.isSome) = true := by rfl) (hks : (backToKw pos (keywordEach kws X.env)).filterMap (·.1) = ks := by rfl)
    (hdb : (x == ("__debug__" : Str)) = false := by decide) (hpl : ((backTo pos (starEach [] X.env)).any (·.1) || (backToKw pos (keywordEach kws X.env)).any (·.1.isNone)) = false := by rfl) :
    PE X (.Call (.Name x p) [] kws pos) (tMkX C n fv tk) := by
  refine ⟨fun pins s σ H Q I h => ?_⟩
  refine wpAny_Call_Name_kw (ld_glob I hg hm ?_ hdb)
  refine PySem.W.callWith_KW0 (h₀ := X.base) I.ok.mod.kin hk hall (thn (hkw.run pos pins s σ H _ I h) fun us s1 ⟨vs, H1, I1, r, hl, q⟩ => ⟨I1.kIn, ?_⟩) hpl
  rw [hks]
  exact runX (kw := some ks) T hr hsup I1 r (r.length.symm.trans hl) q
end
/-- what the written part says of a class of exceptions, for its fields and isinstance -/
structure ClsR (K : PySem.W.Frag) (C : Addr) : Prop where
  cl : (PySem.W.clsIn K C).isSome = true
  ga : PySem.W.findIn K (.ref C) "__getattribute__" = some (some (.builtin "BaseException.__getattribute__"))
  gt : PySem.W.findIn K (.ref C) "__getattr__" = some none
  sb : PySem.W.subIn K (.ref C) (.type "BaseException") = some true
  di : PySem.W.hasDictIn K C = true
  ca : PySem.W.findIn K (.ref C) "__class__" = some (some (.builtin "object.__class__"))
  sp : PySem.W.specialIn K (.builtin "object.__class__") "__get__" = some (some (.builtin "getset_descriptor.__get__"))
  tk : PySem.W.takesIn K (.builtin "object.__class__") = some true
  mo : PySem.W.mroIn K C (.type "object") = some true
section
variable {X : Cx} {pins : List (Addr × Obj)} {σ : St} {H : Hp} {s : Shared} {a C : Addr} {fs : List (Str × V)}
theorem instX (I : Inv X pins σ H s) (h : ExAt H a C fs) : ∃ (ox : Obj) (od : Option Obj), PySem.W.InstAt s.heap a ox C od ∧ ∀ v, fs.lookup v ≠ none → ∃ o, od = some o ∧ ∃ m : Str → Option Value, (∀ f, RelO (fs.lookup f) (m f)) ∧ ∀ f, PySem.W.lookIn f o = some (m f) := by
  rcases h with ⟨rfl, h⟩ | ⟨dx, h1, h2⟩
  · obtain ⟨t1, ho⟩ := exo_at I.hok h
    exact ⟨_, none, ⟨ho, rfl, rfl, trivial⟩, fun v hv => absurd rfl hv⟩
  · obtain ⟨t1, ho⟩ := exo_at I.hok h1
    obtain ⟨m, hn, hr⟩ := exd_at I.hok h2
    obtain ⟨od, hod, hl⟩ := lookIn_ns hn
    exact ⟨_, some od, ⟨ho, rfl, rfl, hod⟩, fun v _ => ⟨od, rfl, m, hr, hl⟩⟩
variable {e : Expr} {f : Str} {pos : Pos} {ta : TE}
def tExF (K : PySem.W.Frag) (ta : TE) (f : Str) : TE := fun σ H Q => ta σ H fun x H1 => ∃ a C fs v, x = .ref a ∧ ExAt H1 a C fs ∧ ClsR K C ∧ PySem.W.findIn K (.ref C) f = some none ∧ fs.lookup f = some v ∧ Q v H1
/-- e.f of an exception -/
theorem pe_exf (he : PE X e ta) (hb : attributeBase e f X.env (eval e X.env) = eval e X.env) : PE X (.Attribute e f pos) (tExF X.K ta f) := by
  refine ⟨fun pins s σ H Q I h => ?_⟩
  refine attr_of hb (thn (he.run pins s σ H _ I h) fun u s1 ⟨x, H1, I1, rx, a, C, fs, v, ex, ea, T, nf, l, q⟩ => ?_)
  subst ex
  obtain rfl : u = Value.ref a := rx
  obtain ⟨ox, od, J, hf⟩ := instX I1 ea
  obtain ⟨o, rfl, m, hr, hl⟩ := hf f (by rw [l]; exact Option.some_ne_none v)
  have hm := hr f
  rw [l] at hm
  obtain ⟨u, hu, ru⟩ := RelO.some_of hm
  have hl' := hl f
  rw [hu] at hl'
  refine PySem.PX.exc_get I1.kIn J T.ga T.gt T.sb (PySem.W.findObj_own T.di nf rfl hl') (handed_of ru) ?_
  exact ⟨v, H1, I1.tok _, ru, q⟩
/-- isinstance(e, c) -/
def rIsX (K : PySem.W.Frag) : List V → Hp → VK → Prop := fun xs H Q => ∃ (a C : Addr) (fs : List (Str × V)) (c : V) (cv : Value) (b : Bool), xs = [.ref a, c] ∧ ExAt H a C fs ∧ ClsR K C ∧ (∀ u, RelV c u → u = cv) ∧ PySem.W.kitOne K (.ref C) cv = some b ∧ Q (.bl b) H
theorem call_isX : CallR X (.builtin "isinstance") (rIsX X.K) := by
  intro pins s σ H xs us Q I r h
  obtain ⟨a, C, fs, c, cv, b, rfl, ea, T, hc, e, q⟩ := h
  obtain ⟨u1, u2, rfl, r1, r2⟩ := vals2 r
  cases r1
  obtain rfl := hc _ r2
  obtain ⟨ox, od, J, _⟩ := instX I ea
  exact PySem.W.kia_one (PySem.W.kitx_exc T.cl T.ga T.gt T.sb T.ca T.sp T.tk T.mo) I.kIn J e (fun z => nomatch z) fun tk => ⟨.bl b, H, I.kept (t' := tk) fun _ _ z => z, rfl, q⟩
end
end XR
/-! Law-independent: heaps alike but for one address, the pot of a law, what its draws promise. -/
namespace XR
open PySem L2
/-- all but a is as it was -/
def But (a : Addr) (H H' : Hp) : Prop := ∀ b o, H b = some o → b ≠ a → H' b = some o
theorem But.refl (a : Addr) (H : Hp) : But a H H := fun _ _ h _ => h
theorem But.trans {a : Addr} {H H1 H2 : Hp} (x : But a H H1) (y : But a H1 H2) : But a H H2 := fun b o h n => y b o (x b o h n) n
theorem But.same {a : Addr} {H H1 H2 : Hp} (x : But a H H1) (y : Same H1 H2) : But a H H2 := fun b o h n => y b o (x b o h n)
theorem same_upd {H : Hp} {p : Addr} {o : HO} (h : H p = none) : Same H (upd H p o) := fun b u e => by
  rw [upd_ne (ne_of_none e h)]
  exact e
theorem But.del {a : Addr} {H H' : Hp} (x : But a H H') : Same (L2.del H a) (L2.del H' a) := fun b o h => by
  by_cases e : b = a
  · rw [e, del_same] at h; cases h
  · rw [del_ne e] at h ⊢
    exact x b o h e
theorem del_sub {a : Addr} {H : Hp} : Same (L2.del H a) H := fun b o h => by
  by_cases e : b = a
  · rw [e, del_same] at h; cases h
  · rw [del_ne e] at h
    exact h
def PotAt (H : Hp) (a : Addr) : Prop := ∃ p q : Int, H a = some (.lst [.int p, .int q]) ∧ 0 ≤ p ∧ 0 ≤ q ∧ q < 2147483647
def spPot (K : PySem.W.Frag) : Sp := fun vs H Q _ => ∃ (a : Addr) (ns : List Int) (k : Nat), vs = [.ref a, .int k] ∧ SqL K H a (ns.map V.int) ∧ ns.length ≤ 63 ∧ k ≤ 100 ∧
  ∀ p H', Same H H' → H p = none → PotAt H' p → Q (.ref p) H'
def spDraw : Sp := fun vs H Q _ => ∃ (a : Addr) (m : Int), vs = [.ref a, .int m] ∧ PotAt H a ∧ 0 < m ∧ m ≤ 1000 ∧
  ∀ (r : Int) H', 0 ≤ r → r < m → PotAt H' a → But a H H' → Q (.int r) H'
def spPick : Sp := fun vs H Q _ => ∃ (a b : Addr) (xs : List V), vs = [.ref a, .ref b] ∧ PotAt H a ∧ H b = some (.lst xs) ∧ a ≠ b ∧ 0 < xs.length ∧ xs.length ≤ 1000 ∧
  ∀ (x : V) H', x ∈ xs → PotAt H' a → But a H H' → Q x H'
theorem int_of_map {ns : List Int} {i : Nat} (h : i < ns.length) : (ns.map V.int)[i]? = some (V.int (ns.getD i 0)) := by
  rw [List.getElem?_map, List.getD_eq_getElem?_getD]
  rw [List.getElem?_eq_getElem h]
  rfl
end XR
namespace K17
open PySem L2 XR
def top (i : Nat) : Stmt := PySem.Challenge.pw_alldiffs_k17_whole_scripts_there_and_bac.main.body.getD i (.Pass ⟨0, 0, 0, 0⟩)
abbrev sPot : Stmt := top 36
abbrev sDraw : Stmt := top 37
abbrev sPick : Stmt := top 38
structure Blt (mg : Str → Option Value) : Prop where
  all : ∀ x : Str, x ∈ (["len", "abs", "max", "min", "int", "divmod", "repr", "isinstance", "enumerate", "range", "all", "super", "zip", "tuple", "dict", "bool", "str", "list"] : List Str) → mg x = none
def Blt.len {mg : Str → Option Value} (T : Blt mg) : mg "len" = none := T.all _ (by decide)
def Blt.abs {mg : Str → Option Value} (T : Blt mg) : mg "abs" = none := T.all _ (by decide)
def Blt.max {mg : Str → Option Value} (T : Blt mg) : mg "max" = none := T.all _ (by decide)
def Blt.min {mg : Str → Option Value} (T : Blt mg) : mg "min" = none := T.all _ (by decide)
def Blt.int {mg : Str → Option Value} (T : Blt mg) : mg "int" = none := T.all _ (by decide)
def Blt.divmod {mg : Str → Option Value} (T : Blt mg) : mg "divmod" = none := T.all _ (by decide)
def Blt.range {mg : Str → Option Value} (T : Blt mg) : mg "range" = none := T.all _ (by decide)
def Blt.enum {mg : Str → Option Value} (T : Blt mg) : mg "enumerate" = none := T.all _ (by decide)
section
variable {P : Program} {w : World} {K : PySem.W.Frag} {mg : Str → Option Value} {base : Heap}
theorem scPot : FnScope ["_law_script_here", "_law_index", "_law_cell"] ["_law_script_here", "_law_index"] (defScope sPot) := ⟨rfl, rfl, rfl, by decide +kernel, rfl, by decide +kernel, by decide +kernel⟩
theorem ok_pot {f : Addr} {fd : FuncData} (F : Fun K "_law_pot" "_law_pot" sPot f fd) (T : Blt mg) : FnOk P w K mg base CX0 1 f fd ["_law_script_here", "_law_index"] (spPot K) := by
  refine F.ok scPot (fun vs H Q E h => ?_) (fun cdv A outer s H vs Q E hr h => ?_)
  · obtain ⟨a, ns, k, rfl, _⟩ := h
    rfl
  · obtain ⟨a, ns, k, rfl, hS, hn, hk, q⟩ := h
    refine ⟨_, pss_cons (ps_set (i := 2) scPot.nd rfl (.inl rfl) (pe_ifExp (pt_cmpR op_lt (pv 1) (pe_callB call_len_seq (by rfl) T.len PySem.boot_len (pa_cons (pv 0) pa_nil)) (nomark _))
        (pe_callB call_abs (by rfl) T.abs (by decide +kernel) (pa_cons (pe_ix ix_list (pv 0) (pv 1) (fun _ _ => rfl)) pa_nil))
        (pe_op op_add (pe_op op_mul pe_int (pv 1)) pe_int)))
      (pss_one (ps_ret (pe_lst (pa_cons (pe_callB (call_max2 rfl) (by rfl) T.max (by decide +kernel) (pa_cons pe_int (pa_cons (pe_op op_sub (pv 2) (pe_op op_pow pe_int pe_int)) pa_nil)))
        (pa_cons (pe_op op_mod (pe_callTy call_int1 (by rfl) T.int (by decide +kernel) (pa_cons (pe_op op_add (pe_op op_add (pe_op op_mul (pe_op op_mod (pe_callTy call_int1 (by rfl) T.int (by decide +kernel) (pa_cons (pv 2) pa_nil)) pe_int) pe_int) (pe_op op_mul pe_int (pv 1))) pe_int) pa_nil)) pe_int) pa_nil))))), ?_⟩
    refine ⟨_, rfl, _, rfl, a, _, rfl, .inl hS, _, _, rfl, rfl, _, rfl, ?_⟩
    refine ite2 (fun h1 => ?_) (fun h1 => ?_)
    · have h2 : k < ns.length := by
        have h3 := of_decide_eq_true h1
        rw [List.length_map] at h3
        omega
      refine ⟨_, rfl, _, rfl, a, _, _, _, rfl, rfl, hS, atI_nat (int_of_map h2), _, rfl, ?_⟩
      have hc : (0 : Int) ≤ (if ns.getD k 0 < 0 then -(ns.getD k 0) else ns.getD k 0) := by split <;> omega
      revert hc
      generalize (if ns.getD k 0 < 0 then -(ns.getD k 0) else ns.getD k 0) = c
      intro hc
      refine ⟨_, rfl, _, _, rfl, rfl, ⟨by decide, by decide, by decide⟩, _, _, rfl, rfl, _, _, rfl, _, rfl, .inl ⟨_, rfl, _, _, rfl, rfl, by show (0 : Int) < 2147483629; decide, _, _, rfl, rfl, .inr ⟨by decide, by decide⟩, _, rfl, _, _, rfl, rfl, .inl ⟨by decide, by decide⟩, _, _, rfl, rfl, _, _, rfl, rfl,
        .inl ⟨_, rfl, _, _, rfl, rfl, by show (0 : Int) < 2147483647; decide, by show 2 ≤ sizeLine; decide, fun p hp => ?_⟩⟩⟩
      refine q p _ (same_upd hp) hp ⟨_, _, upd_same, ?_, Int.emod_nonneg _ (by decide), Int.emod_lt_of_pos _ (by decide)⟩

      split <;> omega
    · refine ⟨_, rfl, _, _, rfl, rfl, .inl ⟨by decide, by decide⟩, _, _, rfl, rfl, ?_⟩
      refine ⟨_, rfl, _, _, rfl, rfl, ⟨by decide, by decide, by decide⟩, _, _, rfl, rfl, _, _, rfl, _, rfl, .inl ⟨_, rfl, _, _, rfl, rfl, by show (0 : Int) < 2147483629; decide, _, _, rfl, rfl, .inr ⟨by decide, by decide⟩, _, rfl, _, _, rfl, rfl, .inl ⟨by decide, by decide⟩, _, _, rfl, rfl, _, _, rfl, rfl,
        .inl ⟨_, rfl, _, _, rfl, rfl, by show (0 : Int) < 2147483647; decide, by show 2 ≤ sizeLine; decide, fun p hp => ?_⟩⟩⟩
      refine q p _ (same_upd hp) hp ⟨_, _, upd_same, ?_, Int.emod_nonneg _ (by decide), Int.emod_lt_of_pos _ (by decide)⟩

      split <;> omega
theorem scDraw : FnScope ["_law_pot_here", "_law_many", "_law_digit"] ["_law_pot_here", "_law_many"] (defScope sDraw) := ⟨rfl, rfl, rfl, by decide +kernel, rfl, by decide +kernel, by decide +kernel⟩
theorem ok_draw {f : Addr} {fd : FuncData} (F : Fun K "_law_draw" "_law_draw" sDraw f fd) (T : Blt mg) : FnOk P w K mg base CX0 1 f fd ["_law_pot_here", "_law_many"] spDraw := by
  refine F.ok scDraw (fun vs H Q E h => ?_) (fun cdv A outer s H vs Q E hr h => ?_)
  · obtain ⟨a, m, rfl, _⟩ := h
    rfl
  · obtain ⟨a, m, rfl, ⟨p, q, ha, hp, hq, hq2⟩, hm, hm2, z⟩ := h
    refine ⟨_, pss_cons (ps_if (pt_cmpR op_gt (pe_ix ix_list (pv 0) pe_int (fun _ _ => rfl)) pe_int (nomark _))
        (pss_cons (ps_asg (pe_callB call_divmod (by rfl) T.divmod (by decide +kernel) (pa_cons (pe_ix ix_list (pv 0) pe_int (fun _ _ => rfl)) (pa_cons (pv 1) pa_nil)))
            (pg_tup rfl (pgs_cons (pg_sub (pv 0) pe_int set_list) (pgs_cons (pg_name (i := 2) scDraw.nd rfl (.inl rfl)) pgs_nil))))
          (pss_one (ps_ret (pv 2))))
        pss_nil)
      (pss_cons (ps_asg (pe_op op_mod (pe_callTy call_int1 (by rfl) T.int (by decide +kernel) (pa_cons (pe_op op_add (pe_op op_mul (pe_ix ix_list (pv 0) pe_int (fun _ _ => rfl)) pe_int) pe_int) pa_nil)) pe_int) (pg_sub (pv 0) pe_int set_list))
      (pss_one (ps_ret (pe_op op_mod (pe_callTy call_int1 (by rfl) T.int (by decide +kernel) (pa_cons (pe_op op_fdiv (pe_op op_mod (pe_callTy call_int1 (by rfl) T.int (by decide +kernel) (pa_cons (pe_op op_mul (pe_ix ix_list (pv 0) pe_int (fun _ _ => rfl)) (pe_ix ix_list (pv 0) pe_int (fun _ _ => rfl))) pa_nil)) pe_int) pe_int) pa_nil)) (pv 1))))), ?_⟩
    refine ⟨_, rfl, a, _, _, _, rfl, rfl, .inl (.inl ha), atI_nat (j := 0) rfl, _, _, rfl, rfl, _, rfl, ?_⟩
    refine ite2 (fun h1 => ?_) (fun h1 => ?_)
    · refine ⟨_, rfl, a, _, _, _, rfl, rfl, .inl (.inl ha), atI_nat (j := 0) rfl, _, rfl, _, _, rfl, ⟨hm, by omega⟩, fun t ht => ?_⟩
      refine ⟨t, _, rfl, .inl (.inl upd_same), rfl, ?_⟩
      have hat : a ≠ t := ne_of_none ha ht
      refine ⟨_, _, rfl, _, rfl, a, _, _, 0, rfl, rfl, (by rw [upd_ne hat]; exact ha), rfl, ?_⟩
      refine ⟨_, _, rfl, rfl, _, rfl, ?_⟩
      have hp1 : (0 : Int) < p := of_decide_eq_true h1
      refine z (p % m) _ (Int.emod_nonneg _ (by omega)) (Int.emod_lt_of_pos _ hm) ⟨p / m, q, upd_same, Int.ediv_nonneg hp (by omega), hq, hq2⟩ fun b o hb hn => ?_
      rw [upd_ne hn, upd_ne (ne_of_none hb ht)]
      exact hb
    · have m1 : (0 : Int) < 2147483629 := by decide
      have m2 : (0 : Int) < 2147483563 := by decide
      refine ⟨_, rfl, a, _, _, _, rfl, rfl, .inl (.inl ha), atI_nat (j := 1) rfl, _, _, rfl, rfl, .inr ⟨by decide, by decide⟩, _, _, rfl, rfl, .inl ⟨_, rfl, _, _, rfl, rfl, m1, _, rfl, a, _, _, 1, rfl, rfl, ha, rfl, ?_⟩⟩
      have q0 : 0 ≤ (q * 39373 + 12227) % 2147483629 := Int.emod_nonneg _ (by decide)
      have q1 : (q * 39373 + 12227) % 2147483629 < 2147483629 := Int.emod_lt_of_pos _ (by decide)
      refine ⟨_, rfl, a, _, _, _, rfl, rfl, .inl (.inl upd_same), atI_nat (j := 1) rfl, _, rfl, a, _, _, _, rfl, rfl, .inl (.inl upd_same), atI_nat (j := 1) rfl, _, _, rfl, rfl, .inl ⟨by omega, by omega⟩, .inl ⟨_, rfl, _, _, rfl, rfl, m2, _, _, rfl, rfl, ⟨by decide, by decide⟩, .inl ⟨_, rfl, _, rfl, _, _, rfl, rfl, hm, ?_⟩⟩⟩
      refine z _ _ (Int.emod_nonneg _ (by omega)) (Int.emod_lt_of_pos _ hm) ⟨p, (q * 39373 + 12227) % 2147483629, upd_same, hp, q0, by omega⟩ fun b o hb hn => ?_
      rw [upd_ne hn]
      exact hb
theorem scPick : FnScope ["_law_pot_here", "_law_some"] ["_law_pot_here", "_law_some"] (defScope sPick) := ⟨rfl, rfl, rfl, by decide +kernel, rfl, by decide +kernel, by decide +kernel⟩
theorem ok_pick {f fD : Addr} {fd fdD : FuncData} (F : Fun K "_law_pick" "_law_pick" sPick f fd) (T : Blt mg) (FD : Fun K "_law_draw" "_law_draw" sDraw fD fdD) (bD : Binds K fdD ["_law_pot_here", "_law_many"] []) (mD : mg "_law_draw" = some (.ref fD)) : FnOk P w K mg base CX0 2 f fd ["_law_pot_here", "_law_some"] spPick := by
  have GD : FnOk P w K mg base CX0 1 fD fdD ["_law_pot_here", "_law_many"] spDraw := ok_draw FD T
  refine F.ok scPick (fun vs H Q E h => ?_) (fun cdv A outer s H vs Q E hr h => ?_)
  · obtain ⟨a, b, xs, rfl, _⟩ := h
    rfl
  · obtain ⟨a, b, xs, rfl, hpot, hb, hab, h0, h1, z⟩ := h
    refine ⟨_, pss_one (ps_ret (pe_ix ix_list (pv 1) (pe_call GD hr rfl mD FD.kp bD .nil pass0 (pa_cons (pv 0) (pa_cons (pe_callB call_len_seq (by rfl) T.len PySem.boot_len (pa_cons (pv 1) pa_nil)) pa_nil))) (fun _ _ => rfl))), ?_⟩
    refine ⟨_, rfl, _, rfl, _, rfl, b, xs, rfl, .inl (.inl (.inl hb)), a, _, rfl, hpot, by omega, by omega, fun r H' r0 r1 hp' but => ?_⟩
    have hlt : r.toNat < xs.length := by omega
    have er : ((r.toNat : Nat) : Int) = r := by omega
    have ea : atI xs ((r.toNat : Nat) : Int) = some xs[r.toNat] := atI_nat (List.getElem?_eq_getElem hlt)
    rw [er] at ea
    exact ⟨b, xs, r, xs[r.toNat], rfl, rfl, .inl (.inl (but b _ hb (Ne.symm hab))), ea, z _ H' (List.getElem_mem hlt) hp' but⟩
end
end K17
namespace XR
open PySem L2
/-- the lines that a law draws -/
def words : List Str := ["a", "b", "c", "", " ", "a ", "keep", "-", "+a", "ab", "A", "new"]
def Wd (ss : List Str) : Prop := ∀ s, s ∈ ss → s ∈ words
theorem ll20 {n : Nat} (h : n ≤ 20) : n ≤ sizeLine := Nat.le_trans h (by decide)
/-- a drawn text: a new list of words -/
def spText : Sp := fun vs H Q _ => ∃ (a : Addr) (m : Int), vs = [.ref a, .int m] ∧ PotAt H a ∧ 0 ≤ m ∧ m ≤ 100 ∧
  ∀ (p : Addr) (ss : List Str) H', PotAt H' a → But a H H' → H p = none → H' p = some (.lst (ss.map V.str)) → Wd ss → (ss.length : Int) ≤ m → Q (.ref p) H'
theorem But.new {a p : Addr} {H H' : Hp} {o : HO} (b : But a H H') (h : H' p = none) : But a H (upd H' p o) := fun x u hx n => by
  have := b x u hx n
  rw [upd_ne (ne_of_none this h)]
  exact this
theorem PotAt.same {a : Addr} {H H' : Hp} (s : Same H H') (h : PotAt H a) : PotAt H' a := by
  obtain ⟨p, q, e, r⟩ := h
  exact ⟨p, q, s _ _ e, r⟩
theorem PotAt.ne {a p : Addr} {H : Hp} (h : PotAt H a) (n : H p = none) : a ≠ p := by
  obtain ⟨_, _, e, _⟩ := h
  exact ne_of_none e n
theorem PotAt.upd {a p : Addr} {H : Hp} {o : HO} (h : PotAt H a) (n : a ≠ p) : PotAt (L2.upd H p o) a := by
  obtain ⟨p', q, e, r⟩ := h
  exact ⟨p', q, by rw [upd_ne n]; exact e, r⟩
theorem Same.but {a : Addr} {H H' : Hp} (s : Same H H') : But a H H' := fun b o h _ => s b o h
end XR
namespace K17
open PySem L2 XR
abbrev sText : Stmt := top 39
section
variable {P : Program} {w : World} {K : PySem.W.Frag} {mg : Str → Option Value} {base : Heap}
theorem scText : FnScope ["_law_pot_here", "_law_most", "_law_words", "_law_turn"] ["_law_pot_here", "_law_most"] (defScope sText) := ⟨rfl, rfl, rfl, by decide +kernel, rfl, by decide +kernel, by decide +kernel⟩
structure Draws (P : Program) (w : World) (K : PySem.W.Frag) (mg : Str → Option Value) (base : Heap) (fD fP : Addr) (fdD fdP : FuncData) : Prop where
  FD : Fun K "_law_draw" "_law_draw" sDraw fD fdD
  GD : FnOk P w K mg base CX0 1 fD fdD ["_law_pot_here", "_law_many"] spDraw
  bD : Binds K fdD ["_law_pot_here", "_law_many"] []
  mD : mg "_law_draw" = some (.ref fD)
  FP : Fun K "_law_pick" "_law_pick" sPick fP fdP
  GP : FnOk P w K mg base CX0 2 fP fdP ["_law_pot_here", "_law_some"] spPick
  bP : Binds K fdP ["_law_pot_here", "_law_some"] []
  mP : mg "_law_pick" = some (.ref fP)
theorem ok_text {f fD fP : Addr} {fd fdD fdP : FuncData} (F : Fun K "_law_text" "_law_text" sText f fd) (T : Blt mg) (D : Draws P w K mg base fD fP fdD fdP) : FnOk P w K mg base CX0 3 f fd ["_law_pot_here", "_law_most"] spText := by
  refine F.ok scText (fun vs H Q E h => ?_) (fun cdv A outer s H vs Q E hr h => ?_)
  · obtain ⟨a, m, rfl, _⟩ := h
    rfl
  · obtain ⟨a, m, rfl, hpot, m0, m1, z⟩ := h
    refine ⟨_, pss_cons (ps_set (i := 2) scText.nd rfl (.inr rfl) (pe_call D.GP hr rfl D.mP D.FP.kp D.bP .nil pass0 (pa_cons (pv 0) (pa_cons (pe_lst
          (pa_cons (pe_lst (pa_cons pe_str (pa_cons pe_str pa_nil)))
          (pa_cons (pe_lst (pa_cons pe_str (pa_cons pe_str (pa_cons pe_str pa_nil))))
          (pa_cons (pe_lst (pa_cons pe_str (pa_cons pe_str (pa_cons pe_str (pa_cons pe_str (pa_cons pe_str pa_nil))))))
          (pa_cons (pe_lst (pa_cons pe_str (pa_cons pe_str (pa_cons pe_str (pa_cons pe_str (pa_cons pe_str pa_nil)))))) pa_nil))))) pa_nil))))
      (pss_one (ps_ret (pe_lc (own := [("_law_turn", 3)]) (g := gName 3) (tt := tYes) (te := tCall spPick [] E0 (tCons (tVar 0) (tCons (tVar 2) tNil))) rfl scText.nd
          (pi_range1 rfl T.range (pa_cons (pe_call D.GD (hr.mono (by decide)) rfl D.mD D.FD.kp D.bD .nil pass0 (pa_cons (pv 0) (pa_cons (pe_op op_add (pv 1) pe_int) pa_nil))) pa_nil))
          (blkOk_by (own := [("_law_turn", 3)]) (N := ["_law_pot_here", "_law_most", "_law_words", "_law_turn"]) (sc := defScope sText) (by decide +kernel))
          (fun _ _ _ _ _ => pg_name (i := 3) scText.nd rfl (Or.inl rfl)) (fun _ _ _ _ _ => pts_nil)
          (fun _ _ _ _ _ => pe_call D.GP hr rfl D.mP D.FP.kp D.bP .nil pass0 (pa_cons (pv 0) (pa_cons (pv 2) pa_nil)))))), ?_⟩
    refine ⟨_, rfl, ll20 (by show 2 ≤ 20; decide), fun p0 n0 => ⟨ll20 (by show 3 ≤ 20; decide), fun p1 n1 => ⟨ll20 (by show 5 ≤ 20; decide), fun p2 n2 => ⟨ll20 (by show 5 ≤ 20; decide), fun p3 n3 => ⟨ll20 (by show 4 ≤ 20; decide), fun p4 n4 => ?_⟩⟩⟩⟩⟩
    have s0 := same_upd (o := .lst [V.str "a", V.str "b"]) n0
    have s1 := same_upd (o := .lst [V.str "a", V.str "b", V.str "c"]) n1
    have s2 := same_upd (o := .lst [V.str "a", V.str "", V.str " ", V.str "a ", V.str "keep"]) n2
    have s3 := same_upd (o := .lst [V.str "-", V.str "+a", V.str "ab", V.str "a", V.str "A"]) n3
    have s4 := same_upd (o := .lst [V.ref p0, V.ref p1, V.ref p2, V.ref p3]) n4
    have g4 := upd_same (H := upd (upd (upd (upd H p0 (.lst [V.str "a", V.str "b"])) p1 (.lst [V.str "a", V.str "b", V.str "c"])) p2 (.lst [V.str "a", V.str "", V.str " ", V.str "a ", V.str "keep"])) p3 (.lst [V.str "-", V.str "+a", V.str "ab", V.str "a", V.str "A"])) (a := p4) (o := .lst [V.ref p0, V.ref p1, V.ref p2, V.ref p3])
    have a0 := hpot.ne n0
    have a1 := (hpot.same s0).ne n1
    have a2 := ((hpot.same s0).same s1).ne n2
    have a3 := (((hpot.same s0).same s1).same s2).ne n3
    have a4 := ((((hpot.same s0).same s1).same s2).same s3).ne n4
    have g0 := s4 _ _ (s3 _ _ (s2 _ _ (s1 _ _ (upd_same (H := H) (a := p0) (o := .lst [V.str "a", V.str "b"])))))
    have g1 := s4 _ _ (s3 _ _ (s2 _ _ (upd_same (a := p1) (o := .lst [V.str "a", V.str "b", V.str "c"]))))
    have g2 := s4 _ _ (s3 _ _ (upd_same (a := p2) (o := .lst [V.str "a", V.str "", V.str " ", V.str "a ", V.str "keep"])))
    have g3 := s4 _ _ (upd_same (a := p3) (o := .lst [V.str "-", V.str "+a", V.str "ab", V.str "a", V.str "A"]))
    have sm := s0.trans (s1.trans (s2.trans (s3.trans s4)))
    have hpG := hpot.same sm
    refine ⟨a, p4, [V.ref p0, V.ref p1, V.ref p2, V.ref p3], rfl, hpG, g4, a4, by show 0 < 4; decide, by show 4 ≤ 1000; decide, fun x H1 hx hp1 b1 => ?_⟩
    clear s0 s1 s2 s3 s4 n1 n2 n3 n4
    generalize upd (upd (upd (upd (upd H p0 (.lst [V.str "a", V.str "b"])) p1 (.lst [V.str "a", V.str "b", V.str "c"])) p2 (.lst [V.str "a", V.str "", V.str " ", V.str "a ", V.str "keep"])) p3 (.lst [V.str "-", V.str "+a", V.str "ab", V.str "a", V.str "A"])) p4 (.lst [V.ref p0, V.ref p1, V.ref p2, V.ref p3]) = G at g0 g1 g2 g3 g4 sm hpG b1
    obtain ⟨pw, ws, rfl, hw, hne, w0, w5, hwd⟩ : ∃ pw ws, x = .ref pw ∧ G pw = some (.lst (ws.map V.str)) ∧ a ≠ pw ∧ 0 < ws.length ∧ ws.length ≤ 5 ∧ Wd ws := by
      simp only [List.mem_cons, List.not_mem_nil, or_false] at hx
      rcases hx with rfl | rfl | rfl | rfl
      · exact ⟨p0, ["a", "b"], rfl, g0, a0, by decide, by decide, by unfold Wd; decide⟩
      · exact ⟨p1, ["a", "b", "c"], rfl, g1, a1, by decide, by decide, by unfold Wd; decide⟩
      · exact ⟨p2, ["a", "", " ", "a ", "keep"], rfl, g2, a2, by decide, by decide, by unfold Wd; decide⟩
      · exact ⟨p3, ["-", "+a", "ab", "a", "A"], rfl, g3, a3, by decide, by decide, by unfold Wd; decide⟩
    have hw1 := b1 _ _ hw hne.symm
    refine ⟨_, rfl, _, rfl, _, _, rfl, rfl, a, m + 1, rfl, hp1, by omega, by omega, fun r H2 r0 r1 hp2 b2 => ?_⟩
    have hw2 := b2 _ _ hw1 hne.symm
    refine ⟨r, rfl, by omega, by omega, fun c nc => ?_⟩
    have hac := hp2.ne nc
    have hHc : H c = none := by
      cases e : H c with
      | none => rfl
      | some o =>
        have := b2 _ _ (b1 _ _ (sm _ _ e) hac.symm) hac.symm
        rw [nc] at this; cases this
    refine lc_range (n := r.toNat) (fun j H' => PotAt H' a ∧ But a H2 H' ∧ ∃ ss : List Str, H' c = some (.lst (ss.map V.str)) ∧ Wd ss ∧ ss.length = j) ⟨hp2.upd hac, (But.refl a H2).new nc, [], upd_same, (fun s h => by cases h), rfl⟩ ?_ ?_
    · rintro j H' hj ⟨hp', b', ss, hc, hwd', hl⟩
      refine ⟨rfl, ?_⟩
      unfold tYes
      dsimp only
      rw [if_pos rfl]
      have hw' := b' _ _ hw2 hne.symm
      refine ⟨_, rfl, _, rfl, a, pw, ws.map V.str, rfl, hp', hw', hne, by rw [List.length_map]; exact w0, by rw [List.length_map]; omega, fun x H3 hx hp3 b3 => ?_⟩
      obtain ⟨s, hs, rfl⟩ := List.mem_map.mp hx
      have hc3 := b3 _ _ hc hac.symm
      refine ⟨_, hc3, ?_, hp3.upd hac, ?_, ss ++ [s], ?_, ?_, ?_⟩
      · rw [List.length_map, hl]
        exact Nat.lt_of_lt_of_le hj (Nat.le_trans (show r.toNat ≤ 101 by omega) (by decide))
      · intro b o hb hn
        have hb' := b3 _ _ (b' _ _ hb hn) hn
        by_cases e : b = c
        · subst e; rw [nc] at hb; cases hb
        · rw [upd_ne e]; exact hb'
      · rw [upd_same, List.map_append]; rfl
      · intro y hy
        rcases List.mem_append.mp hy with hy | hy
        · exact hwd' y hy
        · rw [List.mem_singleton.mp hy]; exact hwd s hs
      · rw [List.length_append, hl]; rfl
    · rintro H' ⟨hp', b', ss, hc, hwd', hl⟩
      exact z c ss H' hp' (fun b o hb hn => b' _ _ (b2 _ _ (b1 _ _ (sm _ _ hb) hn) hn) hn) hHc hc hwd' (by omega)
end
end K17
namespace XR
open PySem L2
theorem But.fresh {a p : Addr} {H H' : Hp} (b : But a H H') (h : PotAt H' a) (n : H' p = none) : H p = none := by
  cases e : H p with
  | none => rfl
  | some o =>
    have := b _ _ e (h.ne n).symm
    rw [n] at this; cases this
theorem cut_to (ss : List Str) {m : Int} (h : 0 ≤ m) : cutV (ss.map V.str) none (some m) = (ss.take m.toNat).map V.str := by
  unfold cutV HT.sIx
  simp only [List.drop_zero, Nat.sub_zero, if_neg (show ¬ m < 0 by omega), List.length_map]
  rw [← List.map_take]
  congr 1
  by_cases q : m.toNat ≤ ss.length
  · rw [Nat.min_eq_left q]
  · rw [Nat.min_eq_right (by omega), List.take_of_length_le (Nat.le_refl _), List.take_of_length_le (by omega)]
theorem Wd.take {ss : List Str} (h : Wd ss) (n : Nat) : Wd (ss.take n) := fun s hs => h s (List.mem_of_mem_take hs)
theorem Wd.append {ss ts : List Str} (h : Wd ss) (k : Wd ts) : Wd (ss ++ ts) := fun s hs => by
  rcases List.mem_append.mp hs with hs | hs
  · exact h s hs
  · exact k s hs
theorem Wd.one {s : Str} (h : s ∈ words) : Wd [s] := fun x hx => by rw [List.mem_singleton.mp hx]; exact h
theorem Wd.two {s t : Str} (h : s ∈ words) (k : t ∈ words) : Wd [s, t] := fun x hx => by
  simp only [List.mem_cons, List.not_mem_nil, or_false] at hx
  rcases hx with rfl | rfl
  · exact h
  · exact k
/-- a text near another one -/
def spNear : Sp := fun vs H Q _ => ∃ (a l : Addr) (ls : List Str) (m : Int), vs = [.ref a, .ref l, .int m] ∧ PotAt H a ∧ H l = some (.lst (ls.map V.str)) ∧ a ≠ l ∧ Wd ls ∧ ls.length ≤ 60 ∧ 0 ≤ m ∧ m ≤ 100 ∧
  ∀ (p : Addr) (ss : List Str) H', PotAt H' a → But a H H' → H p = none → H' p = some (.lst (ss.map V.str)) → Wd ss → (ss.length : Int) ≤ m → Q (.ref p) H'
end XR
namespace K17
open PySem L2 XR
abbrev sNear : Stmt := top 40
section
variable {P : Program} {w : World} {K : PySem.W.Frag} {mg : Str → Option Value} {base : Heap}
theorem scNear : FnScope ["_law_pot_here", "_law_lines", "_law_most", "_law_found", "_law_line", "_law_way"] ["_law_pot_here", "_law_lines", "_law_most"] (defScope sNear) := ⟨rfl, rfl, rfl, by decide +kernel, rfl, by decide +kernel, by decide +kernel⟩
theorem ok_near {f fD fP : Addr} {fd fdD fdP : FuncData} (F : Fun K "_law_near" "_law_near" sNear f fd) (T : Blt mg) (D : Draws P w K mg base fD fP fdD fdP) : FnOk P w K mg base CX0 3 f fd ["_law_pot_here", "_law_lines", "_law_most"] spNear := by
  refine F.ok scNear (fun vs H Q E h => ?_) (fun cdv A outer s H vs Q E hr h => ?_)
  · obtain ⟨a, l, ls, m, rfl, _⟩ := h
    rfl
  · obtain ⟨a, l, ls, m, rfl, hpot, hl, hal, wl, l60, m0, m1, z⟩ := h
    refine ⟨_, pss_cons (ps_set (i := 3) scNear.nd rfl (.inl rfl) (pe_lst pa_nil))
      (pss_cons (ps_for PassesOwn.never rfl (pi_list (pv 1)) (pg_name (i := 4) scNear.nd rfl (.inl rfl))
        (pss_cons (ps_set (i := 5) scNear.nd rfl (.inl rfl) (pe_call D.GD (hr.mono (by decide)) rfl D.mD D.FD.kp D.bD .nil pass0 (pa_cons (pv 0) (pa_cons pe_int pa_nil))))
        (pss_one (ps_set (i := 3) scNear.nd rfl (.inl rfl) (pe_op op_cat (pv 3) (pe_ix ix_list (pe_lst
          (pa_cons (pe_lst (pa_cons (pv 4) pa_nil)) (pa_cons (pe_lst (pa_cons (pv 4) pa_nil)) (pa_cons (pe_lst (pa_cons (pv 4) pa_nil)) (pa_cons (pe_lst pa_nil) (pa_cons (pe_lst (pa_cons (pv 4) (pa_cons (pv 4) pa_nil)))
          (pa_cons (pe_lst (pa_cons (pe_call D.GP hr rfl D.mP D.FP.kp D.bP .nil pass0 (pa_cons (pv 0) (pa_cons (pe_lst (pa_cons pe_str (pa_cons pe_str (pa_cons pe_str pa_nil)))) pa_nil))) (pa_cons (pv 4) pa_nil))) pa_nil))))))) (pv 5) (fun _ _ => rfl)))))))
      (pss_one (ps_ret (pe_slice sl_list (pv 3) po_none (po_some (pv 2)))))), ?_⟩
    refine ⟨ll20 (by decide), fun p0 n0 => ?_⟩
    refine ⟨_, rfl, l, rfl, ⟨_, SqL.of ((same_upd n0) _ _ hl)⟩, ?_⟩
    refine for_list (xs := ls.map V.str) (fun i σ H' => PotAt H' a ∧ But a H H' ∧ ∃ pf fs x4 x5, σ = [some (V.ref a), some (V.ref l), some (V.int m), some (V.ref pf), x4, x5] ∧ H pf = none ∧ H' pf = some (.lst (fs.map V.str)) ∧ Wd fs ∧ fs.length ≤ 2 * i)
      ⟨hpot.upd (hpot.ne n0), (But.refl a H).new n0, p0, [], _, _, rfl, n0, upd_same, (fun s h => by cases h), Nat.le_refl _⟩ (fun i σ H' hi ⟨_, hb, _⟩ => SqL.of (hb _ _ hl hal.symm)) ?_ ?_
    · rintro i x σ G hx ⟨hp, hb, pf, fs, x4, x5, rfl, npf, hpf, wf, lf⟩
      rw [List.getElem?_map] at hx
      obtain ⟨ln, hln, rfl⟩ := Option.map_eq_some_iff.mp hx
      have hi : i < ls.length := (List.getElem?_eq_some_iff.mp hln).1
      have lnw : ln ∈ words := wl _ (List.mem_of_getElem? hln)
      have haf : a ≠ pf := by
        intro e
        obtain ⟨_, _, e2, _⟩ := hpot
        rw [e, npf] at e2; cases e2
      refine ⟨_, rfl, a, 6, rfl, hp, by decide, by decide, fun r G1 r0 r1 hp1 b1 => ?_⟩
      have hf1 := b1 _ _ hpf haf.symm
      refine ⟨_, rfl, _, rfl, ll20 (by show 1 ≤ 20; decide), fun q0 k0 => ⟨_, rfl, ll20 (by show 1 ≤ 20; decide), fun q1 k1 => ⟨_, rfl, ll20 (by show 1 ≤ 20; decide), fun q2 k2 => ⟨ll20 (by decide), fun q3 k3 => ⟨_, rfl, _, rfl, ll20 (by show 2 ≤ 20; decide), fun q4 k4 => ⟨_, rfl, ll20 (by show 3 ≤ 20; decide), fun q5 k5 => ?_⟩⟩⟩⟩⟩⟩
      have s0 := same_upd (o := .lst [V.str ln]) k0
      have s1 := same_upd (o := .lst [V.str ln]) k1
      have s2 := same_upd (o := .lst [V.str ln]) k2
      have s3 := same_upd (o := .lst []) k3
      have s4 := same_upd (o := .lst [V.str ln, V.str ln]) k4
      have s5 := same_upd (o := .lst [V.str "a", V.str "b", V.str "new"]) k5
      have g0 := s5 _ _ (s4 _ _ (s3 _ _ (s2 _ _ (s1 _ _ (upd_same (H := G1) (a := q0) (o := .lst [V.str ln]))))))
      have g1 := s5 _ _ (s4 _ _ (s3 _ _ (s2 _ _ (upd_same (a := q1) (o := .lst [V.str ln])))))
      have g2 := s5 _ _ (s4 _ _ (s3 _ _ (upd_same (a := q2) (o := .lst [V.str ln]))))
      have g3 := s5 _ _ (s4 _ _ (upd_same (a := q3) (o := .lst [])))
      have g4 := s5 _ _ (upd_same (a := q4) (o := .lst [V.str ln, V.str ln]))
      have g5 := upd_same (H := upd (upd (upd (upd (upd G1 q0 (.lst [V.str ln])) q1 (.lst [V.str ln])) q2 (.lst [V.str ln])) q3 (.lst [])) q4 (.lst [V.str ln, V.str ln])) (a := q5) (o := .lst [V.str "a", V.str "b", V.str "new"])
      have a0 := hp1.ne k0
      have a1 := (hp1.same s0).ne k1
      have a2 := ((hp1.same s0).same s1).ne k2
      have a3 := (((hp1.same s0).same s1).same s2).ne k3
      have a4 := ((((hp1.same s0).same s1).same s2).same s3).ne k4
      have a5 := (((((hp1.same s0).same s1).same s2).same s3).same s4).ne k5
      have sm := s0.trans (s1.trans (s2.trans (s3.trans (s4.trans s5))))
      have hpG := hp1.same sm
      have hfG := sm _ _ hf1
      refine ⟨a, q5, [V.str "a", V.str "b", V.str "new"], rfl, hpG, g5, a5, by show 0 < 3; decide, by show 3 ≤ 1000; decide, fun x G3 hx3 hp3 b3 => ?_⟩
      clear s0 s1 s2 s3 s4 s5 k0 k1 k2 k3 k4 k5
      generalize upd (upd (upd (upd (upd (upd G1 q0 (.lst [V.str ln])) q1 (.lst [V.str ln])) q2 (.lst [V.str ln])) q3 (.lst [])) q4 (.lst [V.str ln, V.str ln])) q5 (.lst [V.str "a", V.str "b", V.str "new"]) = G2 at g0 g1 g2 g3 g4 g5 sm hpG hfG b3
      obtain ⟨xs, rfl, xw⟩ : ∃ xs : Str, x = .str xs ∧ xs ∈ words := by
        simp only [List.mem_cons, List.not_mem_nil, or_false] at hx3
        rcases hx3 with rfl | rfl | rfl
        · exact ⟨_, rfl, by decide⟩
        · exact ⟨_, rfl, by decide⟩
        · exact ⟨_, rfl, by decide⟩
      refine ⟨_, rfl, ll20 (by show 2 ≤ 20; decide), fun q6 k6 => ⟨ll20 (by show 6 ≤ 20; decide), fun q7 k7 => ?_⟩⟩
      have s6 := same_upd (o := .lst [V.str xs, V.str ln]) k6
      have s7 := same_upd (o := .lst [V.ref q0, V.ref q1, V.ref q2, V.ref q3, V.ref q4, V.ref q6]) k7
      have s67 := s6.trans s7
      have h0 := s67 _ _ (b3 _ _ g0 a0.symm)
      have h1 := s67 _ _ (b3 _ _ g1 a1.symm)
      have h2 := s67 _ _ (b3 _ _ g2 a2.symm)
      have h3 := s67 _ _ (b3 _ _ g3 a3.symm)
      have h4 := s67 _ _ (b3 _ _ g4 a4.symm)
      have h6 := s7 _ _ (upd_same (H := G3) (a := q6) (o := .lst [V.str xs, V.str ln]))
      have h7 := upd_same (H := upd G3 q6 (.lst [V.str xs, V.str ln])) (a := q7) (o := .lst [V.ref q0, V.ref q1, V.ref q2, V.ref q3, V.ref q4, V.ref q6])
      have hf7 := s67 _ _ (b3 _ _ hfG haf.symm)
      have hp7 := hp3.same s67
      have b7 : But a H (upd (upd G3 q6 (.lst [V.str xs, V.str ln])) q7 (.lst [V.ref q0, V.ref q1, V.ref q2, V.ref q3, V.ref q4, V.ref q6])) := fun b o e n => s67 _ _ (b3 _ _ (sm _ _ (b1 _ _ (hb _ _ e n) n)) n)
      clear s6 s7 s67 k6 k7
      generalize upd (upd G3 q6 (.lst [V.str xs, V.str ln])) q7 (.lst [V.ref q0, V.ref q1, V.ref q2, V.ref q3, V.ref q4, V.ref q6]) = G7 at h0 h1 h2 h3 h4 h6 h7 hf7 hp7 b7
      obtain ⟨v, pl, lz, hv, rfl, hz, wz, lz2⟩ : ∃ v pl lz, ([V.ref q0, V.ref q1, V.ref q2, V.ref q3, V.ref q4, V.ref q6] : List V)[r.toNat]? = some v ∧ v = .ref pl ∧ G7 pl = some (.lst (lz.map V.str)) ∧ Wd lz ∧ lz.length ≤ 2 := by
        have hr6 : r.toNat = 0 ∨ r.toNat = 1 ∨ r.toNat = 2 ∨ r.toNat = 3 ∨ r.toNat = 4 ∨ r.toNat = 5 := by omega
        rcases hr6 with e | e | e | e | e | e <;> rw [e]
        · exact ⟨_, q0, [ln], rfl, rfl, h0, .one lnw, by show 1 ≤ 2; decide⟩
        · exact ⟨_, q1, [ln], rfl, rfl, h1, .one lnw, by show 1 ≤ 2; decide⟩
        · exact ⟨_, q2, [ln], rfl, rfl, h2, .one lnw, by show 1 ≤ 2; decide⟩
        · exact ⟨_, q3, [], rfl, rfl, h3, (fun s h => by cases h), by decide⟩
        · exact ⟨_, q4, [ln, ln], rfl, rfl, h4, .two lnw lnw, by show 2 ≤ 2; decide⟩
        · exact ⟨_, q6, [xs, ln], rfl, rfl, h6, .two xw lnw, by show 2 ≤ 2; decide⟩
      have er : ((r.toNat : Nat) : Int) = r := by omega
      have ea := atI_nat hv
      rw [er] at ea
      refine ⟨_, rfl, q7, _, r, _, rfl, rfl, SqL.of h7, ea, ?_⟩
      refine ⟨pf, pl, _, _, rfl, rfl, hf7, hz, ?_, fun q8 k8 => ?_⟩
      · rw [List.length_map, List.length_map]
        exact Nat.le_trans (show fs.length + lz.length ≤ 200 by omega) (by decide)
      · refine ⟨hp7.upd (hp7.ne k8), b7.new k8, q8, fs ++ lz, _, _, rfl, b7.fresh hp7 k8, ?_, wf.append wz, ?_⟩
        · rw [upd_same, List.map_append]
        · rw [List.length_append]; omega
    · rintro σ G ⟨hp, hb, pf, fs, x4, x5, rfl, npf, hpf, wf, lf⟩
      refine ⟨_, rfl, _, rfl, m, rfl, pf, fs.map V.str, rfl, SqL.of hpf, fun q nq => ?_⟩
      refine z q (fs.take m.toNat) _ (hp.upd (hp.ne nq)) (hb.new nq) (hb.fresh hp nq) ?_ (wf.take _) ?_
      · rw [upd_same, cut_to fs m0]
      · rw [List.length_take]; omega
end
end K17
namespace XR
open PySem L2
/-- two drawn texts, in a new tuple -/
def spTwo : Sp := fun vs H Q _ => ∃ (a : Addr) (m : Int), vs = [.ref a, .int m] ∧ PotAt H a ∧ 0 ≤ m ∧ m ≤ 60 ∧
  ∀ (t p1 p2 : Addr) (ss1 ss2 : List Str) H', PotAt H' a → But a H H' → H t = none → H p1 = none → H p2 = none → H' t = some (.tup [.ref p1, .ref p2]) → H' p1 = some (.lst (ss1.map V.str)) → H' p2 = some (.lst (ss2.map V.str)) →
    Wd ss1 → Wd ss2 → (ss1.length : Int) ≤ m → (ss2.length : Int) ≤ m → Q (.ref t) H'
theorem But.ne {a p : Addr} {H H' : Hp} (b : But a H H') (h : PotAt H a) (n : H p = none) : a ≠ p := h.ne n
end XR
namespace K17
open PySem L2 XR
abbrev sTwo : Stmt := top 41
section
variable {P : Program} {w : World} {K : PySem.W.Frag} {mg : Str → Option Value} {base : Heap}
theorem scTwo : FnScope ["_law_pot_here", "_law_most", "_law_elder"] ["_law_pot_here", "_law_most"] (defScope sTwo) := ⟨rfl, rfl, rfl, by decide +kernel, rfl, by decide +kernel, by decide +kernel⟩
theorem ok_two {f fD fP fT fN : Addr} {fd fdD fdP fdT fdN : FuncData} (F : Fun K "_law_two" "_law_two" sTwo f fd) (T : Blt mg) (D : Draws P w K mg base fD fP fdD fdP)
    (FT : Fun K "_law_text" "_law_text" sText fT fdT) (bT : Binds K fdT ["_law_pot_here", "_law_most"] []) (mT : mg "_law_text" = some (.ref fT))
    (FN : Fun K "_law_near" "_law_near" sNear fN fdN) (bN : Binds K fdN ["_law_pot_here", "_law_lines", "_law_most"] []) (mN : mg "_law_near" = some (.ref fN)) : FnOk P w K mg base CX0 4 f fd ["_law_pot_here", "_law_most"] spTwo := by
  have GT := ok_text (P := P) (w := w) (base := base) FT T D
  have GN := ok_near (P := P) (w := w) (base := base) FN T D
  refine F.ok scTwo (fun vs H Q E h => ?_) (fun cdv A outer s H vs Q E hr h => ?_)
  · obtain ⟨a, m, rfl, _⟩ := h
    rfl
  · obtain ⟨a, m, rfl, hpot, m0, m1, z⟩ := h
    refine ⟨_, pss_cons (ps_set (i := 2) scTwo.nd rfl (.inl rfl) (pe_call GT hr rfl mT FT.kp bT .nil pass0 (pa_cons (pv 0) (pa_cons (pv 1) pa_nil))))
      (pss_one (ps_ret (pe_tup (pa_cons (pv 2) (pa_cons (pe_ifExp (pt_cmpR op_eq (pe_call D.GD (hr.mono (by decide)) rfl D.mD D.FD.kp D.bD .nil pass0 (pa_cons (pv 0) (pa_cons pe_int pa_nil))) pe_int (nomark _))
        (pe_call GT hr rfl mT FT.kp bT .nil pass0 (pa_cons (pv 0) (pa_cons (pv 1) pa_nil)))
        (pe_call GN hr rfl mN FN.kp bN .nil pass0 (pa_cons (pv 0) (pa_cons (pv 2) (pa_cons (pv 1) pa_nil))))) pa_nil))))), ?_⟩
    refine ⟨_, rfl, _, rfl, a, m, rfl, hpot, m0, by omega, fun p1 ss1 H1 hp1 b1 n1 h1 w1 l1 => ?_⟩
    have a1 := hpot.ne n1
    refine ⟨_, rfl, _, rfl, a, 3, rfl, hp1, by decide, by decide, fun r H2 r0 r1 hp2 b2 => ⟨rfl, _, rfl, ?_⟩⟩
    have h2 := b2 _ _ h1 a1.symm
    have fin : ∀ (p2 : Addr) (ss2 : List Str) H3, PotAt H3 a → But a H2 H3 → H2 p2 = none → H3 p2 = some (.lst (ss2.map V.str)) → Wd ss2 → (ss2.length : Int) ≤ m →
        ∀ t, H3 t = none → Q (.ref t) (upd H3 t (.tup [.ref p1, .ref p2])) := fun p2 ss2 H3 hp3 b3 n2 h3 w2 l2 t nt => by
      have s := same_upd (o := .tup [V.ref p1, V.ref p2]) nt
      have b13 : But a H H3 := (b1.trans b2).trans b3
      exact z t p1 p2 ss1 ss2 _ (hp3.same s) (b13.same s) (b13.fresh hp3 nt) n1 ((b1.trans b2).fresh hp2 n2) upd_same (s _ _ (b3 _ _ h2 a1.symm)) (s _ _ h3) w1 w2 l1 l2
    refine ite2 (fun _ => ?_) (fun _ => ?_)
    · refine ⟨_, rfl, _, rfl, a, m, rfl, hp2, m0, by omega, fun p2 ss2 H3 hp3 b3 n2 h3 w2 l2 => ⟨ll20 (by show 2 ≤ 20; decide), fun t nt => fin p2 ss2 H3 hp3 b3 n2 h3 w2 l2 t nt⟩⟩
    · refine ⟨_, rfl, _, rfl, _, rfl, a, p1, ss1, m, rfl, hp2, h2, a1, w1, by omega, m0, by omega, fun p2 ss2 H3 hp3 b3 n2 h3 w2 l2 => ⟨ll20 (by show 2 ≤ 20; decide), fun t nt => fin p2 ss2 H3 hp3 b3 n2 h3 w2 l2 t nt⟩⟩
end
end K17
namespace XR
open PySem L2
/-- a diff of two texts, as pairs of numbers -/
def IsDf (ss1 ss2 : List Str) (ps : List (Nat × Nat)) : Prop :=
  (∀ q, q ∈ ps → 1 ≤ q.1 ∧ q.1 ≤ ss1.length ∧ 1 ≤ q.2 ∧ q.2 ≤ ss2.length ∧ ∃ s : Str, ss1[q.1 - 1]? = some s ∧ ss2[q.2 - 1]? = some s) ∧ ps.Pairwise fun x y => x.1 < y.1 ∧ x.2 < y.2
def tupV (q : Nat × Nat) : HO := .tup [.int (q.1 : Int), .int (q.2 : Int)]
/-- rs: where the pairs stand -/
def PsAt (H : Hp) (rs : List Addr) (ps : List (Nat × Nat)) : Prop := rs.length = ps.length ∧ ∀ (i : Nat) (q : Nat × Nat), ps[i]? = some q → ∃ r : Addr, rs[i]? = some r ∧ H r = some (tupV q)
def refs (rs : List Addr) : List V := rs.map V.ref
/-- the diff at t -/
def DfAt (H : Hp) (t : Addr) (ps : List (Nat × Nat)) : Prop := ∃ rs, H t = some (.tup (refs rs)) ∧ PsAt H rs ps
theorem PsAt.same {H H' : Hp} {rs : List Addr} {ps : List (Nat × Nat)} (s : Same H H') (h : PsAt H rs ps) : PsAt H' rs ps :=
  ⟨h.1, fun i q hq => let ⟨r, h1, h2⟩ := h.2 i q hq; ⟨r, h1, s _ _ h2⟩⟩
theorem PsAt.but {a : Addr} {H H' : Hp} {rs : List Addr} {ps : List (Nat × Nat)} (b : But a H H') (hp : PotAt H a) (h : PsAt H rs ps) : PsAt H' rs ps :=
  ⟨h.1, fun i q hq => let ⟨r, h1, h2⟩ := h.2 i q hq; ⟨r, h1, b _ _ h2 (fun e => by obtain ⟨_, _, e2, _⟩ := hp; rw [e] at h2; rw [e2] at h2; cases h2)⟩⟩
theorem DfAt.same {H H' : Hp} {t : Addr} {ps : List (Nat × Nat)} (s : Same H H') (h : DfAt H t ps) : DfAt H' t ps :=
  let ⟨rs, h1, h2⟩ := h; ⟨rs, s _ _ h1, h2.same s⟩
theorem DfAt.but {a t : Addr} {H H' : Hp} {ps : List (Nat × Nat)} (b : But a H H') (hp : PotAt H a) (h : DfAt H t ps) : DfAt H' t ps :=
  let ⟨rs, h1, h2⟩ := h
  ⟨rs, b _ _ h1 (fun e => by obtain ⟨_, _, e2, _⟩ := hp; rw [e, e2] at h1; cases h1), h2.but b hp⟩
theorem PsAt.snoc {H : Hp} {rs : List Addr} {ps : List (Nat × Nat)} {r : Addr} {q : Nat × Nat} (h : PsAt H rs ps) (k : H r = some (tupV q)) : PsAt H (rs ++ [r]) (ps ++ [q]) := by
  refine ⟨by rw [List.length_append, List.length_append, h.1]; rfl, fun i q' hq => ?_⟩
  by_cases hi : i < ps.length
  · rw [List.getElem?_append_left hi] at hq
    obtain ⟨r', h1, h2⟩ := h.2 i q' hq
    exact ⟨r', by rw [List.getElem?_append_left (by rw [h.1]; exact hi)]; exact h1, h2⟩
  · have e : i = ps.length := by
      have := (List.getElem?_eq_some_iff.mp hq).1
      rw [List.length_append] at this
      have h2 : i < ps.length + 1 := this
      omega
    subst e
    rw [List.getElem?_append_right (Nat.le_refl _), Nat.sub_self] at hq
    have e2 : q = q' := Option.some.inj hq
    subst e2
    exact ⟨r, by rw [← h.1, List.getElem?_append_right (Nat.le_refl _), Nat.sub_self]; rfl, k⟩
theorem IsDf.snoc {ss1 ss2 : List Str} {ps : List (Nat × Nat)} {i j : Nat} {s : Str} (h : IsDf ss1 ss2 ps) (h1 : ss1[i]? = some s) (hj : 1 ≤ j) (h2 : ss2[j - 1]? = some s) (lt : ∀ q, q ∈ ps → q.1 < i + 1 ∧ q.2 < j) : IsDf ss1 ss2 (ps ++ [(i + 1, j)]) := by
  refine ⟨fun q hq => ?_, ?_⟩
  · rcases List.mem_append.mp hq with hq | hq
    · exact h.1 q hq
    · rw [List.mem_singleton.mp hq]
      have l1 := (List.getElem?_eq_some_iff.mp h1).1
      have l2 := (List.getElem?_eq_some_iff.mp h2).1
      refine ⟨by show 1 ≤ i + 1; omega, by show i + 1 ≤ _; omega, hj, by show j ≤ _; omega, s, ?_, h2⟩
      show ss1[i + 1 - 1]? = some s
      rw [Nat.add_sub_cancel]; exact h1
  · rw [List.pairwise_append]
    refine ⟨h.2, List.pairwise_singleton _ _, fun x hx y hy => ?_⟩
    rw [List.mem_singleton.mp hy]
    exact lt x hx
/-- a drawn diff, new -/
def spDiff : Sp := fun vs H Q _ => ∃ (a p1 p2 : Addr) (ss1 ss2 : List Str), vs = [.ref a, .ref p1, .ref p2] ∧ PotAt H a ∧ H p1 = some (.lst (ss1.map V.str)) ∧ H p2 = some (.lst (ss2.map V.str)) ∧ ss1.length ≤ 60 ∧ ss2.length ≤ 60 ∧
  ∀ (t : Addr) (ps : List (Nat × Nat)) H', PotAt H' a → But a H H' → H t = none → DfAt H' t ps → IsDf ss1 ss2 ps → Q (.ref t) H'
theorem lst_ne {a p : Addr} {H : Hp} {ss : List Str} (h : PotAt H a) (k : H p = some (.lst (ss.map V.str))) : a ≠ p := fun e => by
  obtain ⟨x, y, e2, _⟩ := h
  rw [← e, e2] at k
  have k2 := Option.some.inj k
  injection k2 with k2
  cases ss with
  | nil => cases k2
  | cons s ss => injection k2 with k3 _; cases k3
theorem lay_all : ∀ js : List Int, PyData.canLayAll0 (js.map PyData.int) = true ∧ PyData.depthAll (js.map PyData.int) ≤ 1
  | [] => ⟨by simp [PyData.canLayAll0], by simp [PyData.depthAll]⟩
  | j :: js => by
    obtain ⟨h1, h2⟩ := lay_all js
    exact ⟨by simp [PyData.canLayAll0, PyData.canLay0, h1], by simp [PyData.depthAll, PyData.depth]; omega⟩
theorem int_lay (js : List Int) : SeqAt.shaped (.list (js.map PyData.int)) = true := by
  obtain ⟨h1, h2⟩ := lay_all js
  unfold SeqAt.shaped
  rw [Bool.and_eq_true]
  refine ⟨by simp only [PyData.canLay0, h1], ?_⟩
  rw [decide_eq_true_eq]
  have e : (PyData.list (js.map PyData.int)).depth = PyData.depthAll (js.map PyData.int) + 1 := by simp only [PyData.depth]
  have e2 : (64 : Nat) = 64 := rfl
  omega
theorem dpInts {K : PySem.W.Frag} {H : Hp} : ∀ js : List Int, DpAll K H (js.map V.int) (js.map PyData.int)
  | [] => .nil
  | j :: js => .cons (.int j) (dpInts js)
end XR
namespace K17
open PySem L2 XR
abbrev sDiff : Stmt := top 42
section
variable {P : Program} {w : World} {K : PySem.W.Frag} {mg : Str → Option Value} {base : Heap}
theorem scDiff : FnScope ["_law_pot_here", "_law_elder", "_law_newer", "_law_found", "_law_last", "_law_far", "_law_k", "_law_line", "_law_some", "_law_j"] ["_law_pot_here", "_law_elder", "_law_newer"] (defScope sDiff) := ⟨rfl, rfl, rfl, by decide +kernel, rfl, by decide +kernel, by decide +kernel⟩
end
end K17
namespace XR
open PySem L2
theorem PotAt.lst_ne {a p : Addr} {H : Hp} {xs : List V} (h : PotAt H a) (k : H p = some (.tup xs)) : a ≠ p := fun e => by
  obtain ⟨x, y, e2, _⟩ := h
  rw [← e, e2] at k
  cases k
theorem cut_ints (js : List Int) {m : Int} (h : 0 ≤ m) : cutV (js.map V.int) none (some m) = (js.take m.toNat).map V.int := by
  unfold cutV HT.sIx
  simp only [List.drop_zero, Nat.sub_zero, if_neg (show ¬ m < 0 by omega), List.length_map]
  rw [← List.map_take]
  congr 1
  by_cases q : m.toNat ≤ js.length
  · rw [Nat.min_eq_left q]
  · rw [Nat.min_eq_right (by omega), List.take_of_length_le (Nat.le_refl _), List.take_of_length_le (by omega)]
theorem str_of_map {ss : List Str} {i : Nat} {v : V} (h : (ss.map V.str)[i]? = some v) : ∃ s : Str, v = .str s ∧ ss[i]? = some s := by
  rw [List.getElem?_map] at h
  obtain ⟨s, h1, rfl⟩ := Option.map_eq_some_iff.mp h
  exact ⟨s, rfl, h1⟩
theorem PsAt.nil {H : Hp} : PsAt H [] [] := ⟨rfl, fun i q h => by simp at h⟩
theorem IsDf.nil {ss1 ss2 : List Str} : IsDf ss1 ss2 [] := ⟨fun q h => (by cases h), List.Pairwise.nil⟩
theorem PsAt.updL {H : Hp} {rs : List Addr} {ps : List (Nat × Nat)} {p : Addr} {xs ys : List V} (h : PsAt H rs ps) (k : H p = some (.lst xs)) : PsAt (upd H p (.lst ys)) rs ps :=
  ⟨h.1, fun i q hq => let ⟨r, h1, h2⟩ := h.2 i q hq; ⟨r, h1, by rw [upd_ne (fun e => by rw [e, k] at h2; cases h2)]; exact h2⟩⟩
theorem eqv_nil (x : PyData) (xs : List PyData) : PyData.eqv (.list (x :: xs)) (.list []) = false := by simp [PyData.eqv, PyData.eqvAll]
theorem eqv_nil0 : PyData.eqv (.list []) (.list []) = true := by simp [PyData.eqv, PyData.eqvAll]
end XR
namespace K17
open PySem L2 XR
section
variable {P : Program} {w : World} {K : PySem.W.Frag} {mg : Str → Option Value} {base : Heap}
theorem ok_diff {f fD fP : Addr} {fd fdD fdP : FuncData} (F : Fun K "_law_diff" "_law_diff" sDiff f fd) (T : Blt mg) (D : Draws P w K mg base fD fP fdD fdP) : FnOk P w K mg base CX0 3 f fd ["_law_pot_here", "_law_elder", "_law_newer"] spDiff := by
  refine F.ok scDiff (fun vs H Q E h => ?_) (fun cdv A outer s H vs Q E hr h => ?_)
  · obtain ⟨a, p1, p2, ss1, ss2, rfl, _⟩ := h
    rfl
  · obtain ⟨a, p1, p2, ss1, ss2, rfl, hpot, hl1, hl2, l1, l2, z⟩ := h
    refine ⟨_, pss_cons (ps_par3 (i := 3) (j := 4) (l := 5) rfl scDiff.nd rfl rfl rfl (by decide) (by decide) (by decide) rfl rfl rfl (pa_cons (pe_lst pa_nil) (pa_cons pe_int (pa_cons (pe_call D.GP hr rfl D.mP D.FP.kp D.bP .nil pass0 (pa_cons (pv 0) (pa_cons (pe_lst (pa_cons pe_int (pa_cons pe_int (pa_cons pe_int pa_nil)))) pa_nil))) pa_nil))) rfl)
      (pss_cons (ps_for PassesOwn.never rfl (pi_enum (by rfl) T.enum (pa_cons (pv 1) pa_nil)) (pg_tup rfl (pgs_cons (pg_name (i := 6) scDiff.nd rfl (.inl rfl)) (pgs_cons (pg_name (i := 7) scDiff.nd rfl (.inr rfl)) pgs_nil)))
        (pss_cons (ps_set (i := 8) scDiff.nd rfl (.inl rfl) (pe_slice sl_list (pe_lc (own := [("_law_j", 9)]) (g := gName 9) (tt := tTest (tOp rEq (tOp (rIxL K) (tVar 2) (tOp (rI0 fun i j => V.int (i - j)) (tVar 9) (tC (V.int 1)))) (tVar 7))) (te := tVar 9) rfl scDiff.nd
            (pi_range2 rfl T.range (pa_cons (pe_op op_add (pv 4) pe_int) (pa_cons (pe_op op_add (pe_callB call_len_seq (by rfl) T.len PySem.boot_len (pa_cons (pv 2) pa_nil)) pe_int) pa_nil)))
            (blkOk_by (own := [("_law_j", 9)]) (N := ["_law_pot_here", "_law_elder", "_law_newer", "_law_found", "_law_last", "_law_far", "_law_k", "_law_line", "_law_some", "_law_j"]) (sc := defScope sDiff) (by decide +kernel))
            (fun _ _ _ _ _ => pg_name (i := 9) scDiff.nd rfl (Or.inl rfl)) (fun _ _ _ _ _ => pts_one (pt_cmpR op_eq (pe_ix ix_list (pv 2) (pe_op op_sub (pv 9) pe_int) (fun _ _ => rfl)) (pv 7) (nomark _))) (fun _ _ _ _ _ => pv 9)) po_none (po_some (pv 5))))
        (pss_one (ps_if (PW.pt (pw_and (pt_cmpR (op_neD hr.units) (pv 8) (pe_lst pa_nil) (nomark _)) (pw_and1 (pt_cmpR op_gt (pe_call D.GD (hr.mono (by decide)) rfl D.mD D.FD.kp D.bD .nil pass0 (pa_cons (pv 0) (pa_cons pe_int pa_nil))) pe_int (nomark _)))))
          (pss_cons (ps_set (i := 4) scDiff.nd rfl (.inl rfl) (pe_call D.GP hr rfl D.mP D.FP.kp D.bP .nil pass0 (pa_cons (pv 0) (pa_cons (pv 8) pa_nil))))
          (pss_one (ps_expr (pe_bm PySem.F.plainAttrs_list PySem.F.slot_list_append PySem.F.type_list_append mt_append (pv 3) (pa_cons (pe_tup (pa_cons (pe_op op_add (pv 6) pe_int) (pa_cons (pv 4) pa_nil))) pa_nil)))))
          pss_nil))))
      (pss_one (ps_ret (pe_callTy call_tuple_of (by rfl) (T.all "tuple" (by decide)) (by decide +kernel) (pa_cons (pv 3) pa_nil))))), ?_⟩
    refine ⟨ll20 (by decide), fun pf nf => ⟨_, rfl, ll20 (by show 3 ≤ 20; decide), fun q k => ?_⟩⟩
    have s0 := same_upd (o := .lst []) nf
    have s1 := same_upd (o := .lst [V.int 1, V.int 2, V.int 60]) k
    have af := hpot.ne nf
    have aq := (hpot.same s0).ne k
    have hpf := s1 _ _ (upd_same (H := H) (a := pf) (o := .lst []))
    have hq := upd_same (H := upd H pf (.lst [])) (a := q) (o := .lst [V.int 1, V.int 2, V.int 60])
    have sm := s0.trans s1
    refine ⟨a, q, [V.int 1, V.int 2, V.int 60], rfl, hpot.same sm, hq, aq, by show 0 < 3; decide, by show 3 ≤ 1000; decide, fun x G hx hp0 b0 => ?_⟩
    generalize upd (upd H pf (.lst [])) q (.lst [V.int 1, V.int 2, V.int 60]) = G0 at sm hpf hq b0
    obtain ⟨fr, rfl, fr1⟩ : ∃ fr : Int, x = .int fr ∧ 0 ≤ fr := by
      simp only [List.mem_cons, List.not_mem_nil, or_false] at hx
      rcases hx with rfl | rfl | rfl
      · exact ⟨1, rfl, by decide⟩
      · exact ⟨2, rfl, by decide⟩
      · exact ⟨60, rfl, by decide⟩
    have bG : But a H G := fun b o h n => b0 _ _ (sm _ _ h) n
    have hpfG := b0 _ _ hpf af.symm
    clear s0 s1 k hq
    refine ⟨_, _, _, rfl, ?_⟩
    refine ⟨_, rfl, p1, _, rfl, SqL.of (bG _ _ hl1 (lst_ne hpot hl1).symm), ?_⟩
    refine for_it walk_enum (fun i σ H' => PotAt H' a ∧ But a H H' ∧ ∃ (rs : List Addr) (ps : List (Nat × Nat)) (last : Nat) (x6 x7 x8 x9 : Option V), σ = [some (V.ref a), some (V.ref p1), some (V.ref p2), some (V.ref pf), some (V.int (last : Int)), some (V.int fr), x6, x7, x8, x9] ∧
      H' pf = some (.lst (refs rs)) ∧ PsAt H' rs ps ∧ IsDf ss1 ss2 ps ∧ (∀ q, q ∈ ps → q.1 ≤ i ∧ q.2 ≤ last) ∧ last ≤ 60 ∧ ps.length ≤ i)
      ⟨hp0, bG, [], [], 0, _, _, _, _, rfl, hpfG, .nil, .nil, (fun q h => nomatch h), by decide, Nat.le_refl _⟩
      (fun i σ H' hi ⟨_, hb, _⟩ => SqL.of (hb _ _ hl1 (lst_ne hpot hl1).symm)) ?_ ?_
    · rintro i x σ Ha Hb hi ⟨hp, hb, rs, ps, last, x6, x7, x8, x9, rfl, hf, hps, hdf, hlast, last60, psl⟩ ⟨t, y1, y2, rfl, nt, rfl, hy1, hy2⟩
      cases hy1
      obtain ⟨ln, rfl, hln⟩ := str_of_map hy2
      rw [List.length_map] at hi
      have st := same_upd (o := .tup [V.int (i : Nat), V.str ln]) nt
      have hp1 := hp.same st
      have hb1 := hb.same st
      have hf1 := st _ _ hf
      have hps1 := hps.same st
      refine ⟨t, _, rfl, .inl (.inl upd_same), rfl, ?_⟩
      generalize upd Ha t (.tup [V.int (i : Nat), V.str ln]) = Hb at st hp1 hb1 hf1 hps1 ⊢
      have hl2b := hb1 _ _ hl2 (lst_ne hpot hl2).symm
      refine ⟨_, _, rfl, _, _, rfl, rfl, ?_⟩
      refine ⟨_, rfl, _, _, rfl, rfl, _, rfl, p2, _, rfl, .inl (SqL.of hl2b), _, _, rfl, rfl, ?_⟩
      rw [List.length_map]
      refine ⟨_, _, rfl, ⟨by omega, by omega, by omega, by omega⟩, fun c nc => ?_⟩
      have sc0 := same_upd (o := .lst []) nc
      refine lc_range (lo := (last : Int) + 1) (n := (((ss2.length : Nat) : Int) + 1 - ((last : Int) + 1)).toNat) (fun j H' => PotAt H' a ∧ Same Hb H' ∧ ∃ js : List Int, H' c = some (.lst (js.map V.int)) ∧ (∀ x, x ∈ js → (last : Int) < x ∧ ss2[(x - 1).toNat]? = some ln) ∧ js.length ≤ j)
        ⟨hp1.same sc0, sc0, [], upd_same, (fun x h => nomatch h), Nat.le_refl _⟩ ?_ ?_
      · rintro j H' hj ⟨hp', sm', js, hc, hjs, ljs⟩
        have hl2' := sm' _ _ hl2b
        have hlt : last + j < ss2.length := by omega
        have ei : (last : Int) + 1 + (j : Int) - 1 = ((last + j : Nat) : Int) := by omega
        refine ⟨rfl, ?_⟩
        refine ⟨_, rfl, _, rfl, _, _, rfl, rfl, p2, _, _, V.str ss2[last + j], rfl, rfl, SqL.of hl2', ?_, _, rfl, rfl, _, rfl, ?_⟩
        · rw [ei]
          exact atI_nat (by rw [List.getElem?_map, List.getElem?_eq_getElem hlt]; rfl)
        · have nc' : ∀ b o, Hb b = some o → b ≠ c := fun b o h => ne_of_none h nc
          refine ite2 (fun h1 => ?_) (fun h1 => ?_)
          · have h2 : ss2[last + j] = ln := by
              have := of_decide_eq_true h1
              injection this
            refine ⟨_, rfl, _, hc, ?_, hp'.upd (fun e => ?_), fun b o h => ?_, js ++ [(last : Int) + 1 + (j : Int)], ?_, ?_, ?_⟩
            · rw [List.length_map]
              exact Nat.lt_of_le_of_lt ljs (Nat.lt_of_lt_of_le (show j < 61 by omega) (by decide))
            · obtain ⟨x, y, e2, _⟩ := hp1
              rw [e, nc] at e2; cases e2
            · rw [upd_ne (nc' b o h)]; exact sm' _ _ h
            · rw [upd_same, List.map_append]; rfl
            · intro x hx
              rcases List.mem_append.mp hx with hx | hx
              · exact hjs x hx
              · rw [List.mem_singleton.mp hx]
                refine ⟨by omega, ?_⟩
                rw [show ((last : Int) + 1 + (j : Int) - 1).toNat = last + j by omega, List.getElem?_eq_getElem hlt, h2]
            · rw [List.length_append]; simp; omega
          · exact ⟨hp', sm', js, hc, hjs, by omega⟩
      · rintro Hd ⟨hp', sm', js, hc, hjs, ljs⟩
        refine ⟨_, rfl, fr, rfl, c, _, rfl, SqL.of hc, fun u nu => ?_⟩
        rw [cut_ints js fr1]
        have hjt : ∀ x, x ∈ js.take fr.toNat → (last : Int) < x ∧ ss2[(x - 1).toNat]? = some ln := fun x hx => hjs x (List.mem_of_mem_take hx)
        have ljt : (js.take fr.toNat).length ≤ 61 := by rw [List.length_take]; omega
        have hu := upd_same (H := Hd) (a := u) (o := .lst ((js.take fr.toNat).map V.int))
        have su := same_upd (o := .lst ((js.take fr.toNat).map V.int)) nu
        have sall := sm'.trans su
        have hpu := hp'.same su
        have au : a ≠ u := hp'.ne nu
        generalize js.take fr.toNat = jt at hjt ljt hu su sall hpu ⊢
        generalize upd Hd u (.lst (jt.map V.int)) = He at hu su sall hpu ⊢
        clear su hc nu
        refine ⟨_, rfl, ll20 (by decide), fun e1 ne1 => ?_⟩
        have se := same_upd (o := .lst []) ne1
        refine ⟨.list (jt.map .int), .list [], .lst (SqL.of (se _ _ hu)) (dpInts _), .lst (SqL.of upd_same) .nil, int_lay _, int_lay [], _, rfl, ?_⟩
        have sf := sall.trans se
        have hpf' := hpu.same se
        have huf := se _ _ hu
        generalize upd He e1 (.lst []) = Hf at sf hpf' huf ⊢
        clear se ne1 hu
        have bf := hb1.same sf
        have stay : ∀ (Hz : Hp), PotAt Hz a → But a Hf Hz → (Hz pf = some (.lst (refs rs)) ∧ PsAt Hz rs ps ∧ IsDf ss1 ss2 ps ∧ (∀ q, q ∈ ps → q.1 ≤ i + 1 ∧ q.2 ≤ last) ∧ last ≤ 60 ∧ ps.length ≤ i + 1) := fun Hz hz bz =>
          ⟨bz _ _ (sf _ _ hf1) af.symm, (hps1.same sf).but bz hpf', hdf, fun q hq => ⟨Nat.le_succ_of_le (hlast q hq).1, (hlast q hq).2⟩, last60, by omega⟩
        cases jt with
        | nil =>
          rw [show PyData.eqv (.list ([].map PyData.int)) (.list []) = true from eqv_nil0]
          exact iteF (iteF ⟨hpf', bf, rs, ps, last, _, _, _, _, rfl, stay Hf hpf' (But.refl a Hf)⟩)
        | cons j0 jt =>
          rw [show PyData.eqv (.list ((j0 :: jt).map PyData.int)) (.list []) = false from eqv_nil _ _]
          refine iteT ⟨_, rfl, a, 4, rfl, hpf', by decide, by decide, fun r Hg r0 r1 hpg bg => ⟨_, _, rfl, rfl, _, rfl, ?_⟩⟩
          have hug := bg _ _ huf au.symm
          refine ite2 (fun _ => ?_) (fun _ => ?_)
          · refine ⟨_, rfl, _, rfl, a, u, _, rfl, hpg, hug, au, by simp, by rw [List.length_map]; exact Nat.le_trans ljt (by decide), fun x Hh hx hph bh => ?_⟩
            obtain ⟨jv, hjv, rfl⟩ := List.mem_map.mp hx
            obtain ⟨jl, jm⟩ := hjt jv hjv
            obtain ⟨jn, rfl⟩ : ∃ jn : Nat, jv = (jn : Int) := ⟨jv.toNat, by omega⟩
            have bgh := bg.trans bh
            obtain ⟨st1, st2, st3, st4, st5, st6⟩ := stay Hh hph bgh
            refine ⟨_, rfl, .inl ⟨rfl, _, SqL.of st1⟩, ?_⟩
            refine ⟨_, rfl, _, _, rfl, rfl, _, rfl, ll20 (by show 2 ≤ 20; decide), fun v nv => ?_⟩
            have sv := same_upd (o := .tup [V.int ((i : Int) + 1), V.int (jn : Int)]) nv
            have hfv := sv _ _ st1
            have jlen : jn ≤ ss2.length := by
              have := (List.getElem?_eq_some_iff.mp jm).1
              omega
            refine ⟨pf, _, _, rfl, rfl, hfv, ?_, ?_⟩
            · unfold refs
              rw [List.length_map, st2.1]
              exact Nat.lt_of_le_of_lt st6 (Nat.lt_of_lt_of_le (show i + 1 < 62 by omega) (by decide))
            · have hv : upd Hh v (.tup [V.int ((i : Int) + 1), V.int (jn : Int)]) v = some (tupV (i + 1, jn)) := by
                rw [upd_same]; rfl
              have ps2 := ((st2.same sv).snoc hv).updL (ys := refs rs ++ [V.ref v]) hfv
              refine ⟨(hph.same sv).upd af, fun b o h n => ?_, rs ++ [v], ps ++ [(i + 1, jn)], jn, _, _, _, _, rfl, ?_, ps2, st3.snoc hln (by omega) ?_ (fun q hq => ⟨?_, ?_⟩), fun q hq => ?_, by omega, ?_⟩
              · have e := sv _ _ ((bf.trans bgh) b o h n)
                rw [upd_ne (fun e2 => by rw [e2, nf] at h; cases h)]
                exact e
              · rw [upd_same]
                unfold refs
                rw [List.map_append]
                rfl
              · rw [show ((jn : Int) - 1).toNat = jn - 1 by omega] at jm
                exact jm
              · have := (hlast q hq).1; omega
              · have := (hlast q hq).2; omega
              · rcases List.mem_append.mp hq with hq | hq
                · have := hlast q hq
                  exact ⟨by omega, by omega⟩
                · rw [List.mem_singleton.mp hq]
                  exact ⟨Nat.le_refl _, Nat.le_refl _⟩
              · rw [List.length_append]; simp; omega
          · exact ⟨hpg, bf.trans bg, rs, ps, last, _, _, _, _, rfl, stay Hg hpg bg⟩
    · rintro σ G' ⟨hp, hb, rs, ps, last, x6, x7, x8, x9, rfl, hf, hps, hdf, hlast, last60, psl⟩
      refine ⟨_, rfl, pf, _, rfl, .inl ⟨SqL.of hf, fun u nu => ?_⟩⟩
      have su := same_upd (o := .tup (refs rs)) nu
      exact z u ps _ (hp.same su) (hb.same su) (hb.fresh hp nu) ⟨rs, upd_same, hps.same su⟩ hdf
end
end K17
/-! Raising an exception of the text whose __init__ calls super().__init__ and stores its parameters; its field in a handler. -/
namespace XR
open PySem PySem.Spec L2
section
variable {X : Cx} {n : Nat} {C : Addr} {fv : List V → List (Str × V)} {x : Str} {p pos : Pos} {e : Expr} {es : List Expr} {t : TA}
/-- C(e, ..), to be raised -/
def tPmX (C : Addr) (n : Nat) (fv : List V → List (Str × V)) (t : TA) : St → Hp → XK → Prop := fun σ H Q => t σ H fun vs H1 => vs.length = n ∧ ∀ d, H1 d = none → Q (.ref C) (some d) (upd H1 d (.xd (fv vs)))
theorem pmkX (T : MkX X.K X.prog C none n fv) (h0 : ∀ vs : List V, vs.length = n → fv vs ≠ []) (hk : PySem.W.keepIn X.K (.ref C) = true) (hr : Room 2 X.A) (hsup : X.mg "super" = none) (bP : PySem.W.subIn X.K (.ref C) (.type "BaseException") = some true) (tP : PySem.W.typeIn X.K (.ref C) = some (.type "type"))
    (hg : Gl X x) (hm : X.mg x = some (.ref C)) (ha : PA X (e :: es) t)
    (hdb : (x == ("__debug__" : Str)) = false := by decide) (he : starEach (e :: es) X.env = (false, eval e X.env) :: starEach es X.env := by rfl) (hpl : (backTo pos (starEach es X.env)).any (·.1) = false := by rfl) :
    PMk X (.Call (.Name x p) (e :: es) [] pos) (tPmX C n fv t) := by
  intro pins s σ H Q I h
  refine wpAny_Call_Name_kw (ld_glob I hg hm ?_ hdb)
  refine PySem.W.callWith_K (h₀ := X.base) I.ok.mod.kin hk (thn (ha.run pos pins s σ H _ I h) fun us s1 ⟨vs, H1, I1, r, hl, q⟩ => ⟨I1.kIn, ?_⟩) he hpl
  have hlu : us.length = n := r.length.symm.trans hl
  obtain ⟨fI, cc, cda, B, newId, initId, bmB, fd, txt, kk, p0, p1, p2, p3, p4, p5, l, gb, T1, T2⟩ := T.ex
  obtain ⟨S, hl9, bt, hloc, hself, hx, hfv⟩ := T2 us hlu
  obtain ⟨mb, hb, hbb⟩ := I1.ok.mod.blt
  have hn : us.length ≤ sizeLine := by rw [hlu, sizeLine_eq]; have := T.n1; omega
  have m2 : mb "super" = some (.type "super") := (hbb _ (by decide +kernel)).trans (by decide +kernel)
  obtain ⟨hp, g, dr, tk, os⟩ := s1
  have hm' := I1.ok.mod.glob.keeps I1.bk
  have hb' := hb.keeps I1.bk
  have dep : (X.A.under (.builtin "type.__call__" ⟨.ref C :: us, []⟩)).depth < recursionLimit := by
    have := hr.dp
    rw [make_depth]
    omega
  show wpAny _ _ (call (.ref C) us) _ _ _
  refine made T1 S hl9 I1.kIn hm' hb' hsup m2 I1.nolimit dep hn (bt _) (hloc _) (hself _) (hx _) fun h' tk' L k F => ?_
  obtain ⟨t1, ⟨hf, ho⟩ | ⟨dx, hf, hd0, hde, hdL, ho, hns⟩⟩ := F
  · exact absurd ((hfv vs r).nil_iff hf) (h0 vs hl)
  · obtain ⟨G', g1, g2⟩ := restrict h' fun b => decide (b ≠ hp.objs.size + 1)
    have gk : ∀ b, b ≠ hp.objs.size + 1 → G'.get? b = h'.get? b := fun b hb => g1 b (decide_eq_true hb)
    have ge : G'.get? (hp.objs.size + 1) = none := g2 (hp.objs.size + 1) (by simp)
    have old : ∀ b o, hp.get? b = some o → G'.get? b = some o := fun b o q => (gk b (Nat.ne_of_lt (Nat.lt_succ_of_lt (Heap.lt_size q)))).trans (k b o q)
    have ob : ObjOk X.prog X.w (upd H1 dx (.xd (fv vs))) G' dx (.xd (fv vs)) := ⟨_, hns.at (fun o q => (gk dx hde).trans q), (hfv vs r).rel⟩
    have J : Inv X pins σ (upd H1 dx (.xd (fv vs))) ⟨G', g, dr, tk', os⟩ := I1.laid (t' := tk') old hd0 ob
    refine ⟨hp.objs.size + 1, _, _, ⟨G', g, dr, tk', os⟩, _, .ref C, some dx, rfl, J, fun b o q => ?_, ge, ho, ⟨rfl, rfl⟩, rfl, rfl, ?_, rfl, I1.bare, raises_own bP tP, q dx (I1.hok.fresh hd0)⟩
    · by_cases hb : b = hp.objs.size + 1
      · have q' : G'.get? b = some o := q
        rw [hb, ge] at q'; cases q'
      · exact (gk b hb).symm.trans q
    · rw [upd_ne (Ne.symm hde)]
      exact I1.hok.fresh (Nat.le_succ _)
/-- raise C(e, ..) -/
theorem ps_raiseX {W : WX} {pos2 : Pos} (hc : X.calm = true) (tk : Takes X W) (T : MkX X.K X.prog C none n fv) (h0 : ∀ vs : List V, vs.length = n → fv vs ≠ []) (hk : PySem.W.keepIn X.K (.ref C) = true) (hr : Room 2 X.A) (hsup : X.mg "super" = none) (bP : PySem.W.subIn X.K (.ref C) (.type "BaseException") = some true) (tP : PySem.W.typeIn X.K (.ref C) = some (.type "type"))
    (hg : Gl X x) (hm : X.mg x = some (.ref C)) (ha : PA X (e :: es) t)
    (hdb : (x == ("__debug__" : Str)) = false := by decide) (he : starEach (e :: es) X.env = (false, eval e X.env) :: starEach es X.env := by rfl) (hpl : (backTo pos (starEach es X.env)).any (·.1) = false := by rfl) :
    PS X (.Raise (some (.Call (.Name x p) (e :: es) [] pos)) none pos2) (fun _ σ H => tPmX C n fv t σ H fun cls d H' => W cls d σ H') := ps_raise hc tk (pmkX T h0 hk hr hsup bP tP hg hm ha hdb he hpl)
/-- e.f in a handler, e the exception that it holds (at a; its class cls, its dict d) -/
def tByX (K : PySem.W.Frag) (a : Addr) (cls : Value) (d : Option Addr) (f : Str) (te : TE) : TE := fun σ H Q => te σ H fun x H1 => x = .ref a ∧ ∃ (C dd : Addr) (fs : List (Str × V)) (v : V), cls = .ref C ∧ d = some dd ∧ ClsR K C ∧ PySem.W.findIn K (.ref C) f = some none ∧ H1 dd = some (.xd fs) ∧ fs.lookup f = some v ∧ Q v H1
theorem pe_byX {a : Addr} {oe : Obj} {cls : Value} {d : Option Addr} {pn : List (Addr × Obj)} {e : Expr} {f : Str} {te : TE} {pos : Pos} (hz : Zc cls d oe) (hf : ∃ vs, oe.data = .fields vs) (he : PE (X.suite a ((a, oe) :: pn)) e te)
    (hb : attributeBase e f X.env (eval e X.env) = eval e X.env) :
    PE (X.suite a ((a, oe) :: pn)) (.Attribute e f pos) (tByX X.K a cls d f te) := by
  refine ⟨fun pins s σ H Q I h => ?_⟩
  refine attr_of hb (thn (he.run pins s σ H _ I h) fun u s1 hh => ?_)
  obtain ⟨x, H1, I1, rx, ex, C, dd, fs, v, ec, ed, T, nf, ea, lk, q⟩ := hh
  subst ex
  obtain rfl : u = Value.ref a := rx
  subst ec
  subst ed
  obtain ⟨ha, _⟩ := I1.pin (a, oe) (List.mem_append_left _ List.mem_cons_self)
  obtain ⟨vs, hd⟩ := hf
  have hx : ObjOk X.prog X.w H1 s1.heap dd (.xd fs) := I1.hok dd _ ea
  obtain ⟨mA, hns, hr⟩ := hx
  obtain ⟨od, ho, hl⟩ := lookIn_ns hns
  obtain ⟨u, hu, ru⟩ := RelO.some_of (v := v) (o := mA f) (by rw [← lk]; exact hr f)
  have J : PySem.W.InstAt s1.heap a oe C (some od) := ⟨ha, hz.1, by unfold PySem.W.notCls; rw [hd] <;> rfl, by rw [hz.2]; exact ho⟩
  exact PySem.PX.exc_get I1.kIn J T.ga T.gt T.sb (PySem.W.findObj_own T.di nf rfl (by rw [hl, hu])) (handed_of ru) ⟨v, H1, I1.tok _, ru, q⟩
end
end XR
namespace XR
open PySem L2
def tyN : PyData → String
  | .none => "NoneType"
  | .bool _ => "bool"
  | .int _ => "int"
  | .str _ => "str"
  | .list _ => "list"
  | .tuple _ => "tuple"
  | .dict _ => "dict"
theorem Dq.ty {K : PySem.W.Frag} {H : Hp} {x : V} {d : PyData} (h : Dq K H x d) : TyX K H x (.type (tyN d)) := by
  cases h with
  | non => exact .base .non
  | bl b => exact .base (.bl b)
  | int i => exact .base (.int i)
  | str s => exact .base (.str s)
  | lst h1 h2 =>
    rcases h1 with (h | ⟨o, h⟩) | ⟨o, _, _, h, hc, _⟩
    · exact .base (.lst h)
    · exact .base (.frz h)
    · exact .kList h hc
  | tup h1 h2 =>
    rcases h1 with (h | ⟨o, h⟩) | ⟨o, _, _, h, hc, _⟩
    · exact .base (.tup h)
    · exact .fTuple h
    · exact .kTuple h hc
  | dct h1 _ _ => exact .base (.dK h1)
/-- a judge of any value -/
def spJudge (K : PySem.W.Frag) (p : PyData → Bool) : Sp := fun vs H Q _ => ∃ (x : V) (d : PyData), vs = [x] ∧ Dq K H x d ∧ ∀ H', Same H H' → Q (.bl (p d)) H'
def isWhole : PyData → Bool
  | .int _ => true
  | _ => false
def isSeq : PyData → Bool
  | .list _ => true
  | .tuple _ => true
  | _ => false
def isLine : PyData → Bool
  | .str s => !decide ((10 : Nat) ∈ s.cps.toList)
  | _ => false
def itemsOf : PyData → List PyData
  | .list ds => ds
  | .tuple ds => ds
  | _ => []
def isText (d : PyData) : Bool := isSeq d && (decide ((itemsOf d).length ≤ 60) && (itemsOf d).all isLine)
theorem kit_int (d : PyData) : kitB (tyN d) "int" = some (isWhole d || (match d with | .bool _ => true | _ => false)) := by
  cases d <;> kernel_rfl
theorem kit_bool (d : PyData) : kitB (tyN d) "bool" = some (match d with | .bool _ => true | _ => false) := by
  cases d <;> kernel_rfl
theorem kit_str (d : PyData) : kitB (tyN d) "str" = some (match d with | .str _ => true | _ => false) := by
  cases d <;> kernel_rfl
theorem kit_tuple (d : PyData) : kitB (tyN d) "tuple" = some (match d with | .tuple _ => true | _ => false) := by
  cases d <;> kernel_rfl
end XR
namespace K17
open PySem L2 XR
abbrev sWhole : Stmt := top 6
abbrev sIsList : Stmt := top 7
abbrev sIsTuple : Stmt := top 8
abbrev sSpot : Stmt := top 9
abbrev sLine : Stmt := top 12
abbrev sIsText : Stmt := top 13
section
variable {P : Program} {w : World} {K : PySem.W.Frag} {mg : Str → Option Value} {base : Heap}
theorem scWhole : FnScope ["value"] ["value"] (defScope sWhole) := ⟨rfl, rfl, rfl, by decide +kernel, rfl, by decide +kernel, by decide +kernel⟩
def Blt.isin {mg : Str → Option Value} (T : Blt mg) : mg "isinstance" = none := T.all _ (by decide)
theorem ok_whole {f : Addr} {fd : FuncData} (F : Fun K "is_whole" "is_whole" sWhole f fd) (T : Blt mg) : FnOk P w K mg base CX0 1 f fd ["value"] (spJudge K isWhole) := by
  refine F.ok scWhole (fun vs H Q E h => ?_) (fun cdv A outer s H vs Q E hr h => ?_)
  · obtain ⟨x, d, rfl, _⟩ := h
    rfl
  · obtain ⟨x, d, rfl, hd, z⟩ := h
    refine ⟨_, pss_one (ps_ret (pe_and (pe_callB call_isi (by rfl) T.isin (by decide +kernel) (pa_cons (pv 0) (pa_cons (pe_bltn (v := .ty "int") (u := .type "int") (by rfl) T.int (by decide +kernel) rfl) pa_nil)))
      (pe_one (pe_not (pe_callB call_isi (by rfl) T.isin (by decide +kernel) (pa_cons (pv 0) (pa_cons (pe_bltn (v := .ty "bool") (u := .type "bool") (by rfl) (T.all "bool" (by decide)) (by decide +kernel) rfl) pa_nil))))))), ?_⟩
    refine ⟨_, rfl, x, _, _, _, _, rfl, .ty "int", hd.ty, kit_ty (kit_int d), _, rfl, ?_⟩
    have zz := z H (fun _ _ e => e)
    cases d <;> first
      | exact iteF zz
      | exact iteT ⟨_, rfl, x, _, _, _, _, rfl, .ty "bool", hd.ty, kit_ty (kit_bool _), _, rfl, zz⟩
theorem scIsList : FnScope ["value"] ["value"] (defScope sIsList) := ⟨rfl, rfl, rfl, by decide +kernel, rfl, by decide +kernel, by decide +kernel⟩
theorem kit_seq {K : PySem.W.Frag} (d : PyData) : PySem.W.kitAny K (.type (tyN d)) [.type "list", .type "tuple"] = some (isSeq d) := by
  cases d <;> kernel_rfl
theorem ok_isList {f : Addr} {fd : FuncData} (F : Fun K "is_list" "is_list" sIsList f fd) (T : Blt mg) : FnOk P w K mg base CX0 1 f fd ["value"] (spJudge K isSeq) := by
  refine F.ok scIsList (fun vs H Q E h => ?_) (fun cdv A outer s H vs Q E hr h => ?_)
  · obtain ⟨x, d, rfl, _⟩ := h
    rfl
  · obtain ⟨x, d, rfl, hd, z⟩ := h
    refine ⟨_, pss_one (ps_ret (pe_callB call_isiT (by rfl) T.isin (by decide +kernel) (pa_cons (pv 0) (pa_cons (pe_tup (pa_cons (pe_bltn (v := .ty "list") (u := .type "list") (by rfl) (T.all "list" (by decide)) (by decide +kernel) rfl) (pa_cons (pe_bltn (v := .ty "tuple") (u := .type "tuple") (by rfl) (T.all "tuple" (by decide)) (by decide +kernel) rfl) pa_nil))) pa_nil)))), ?_⟩
    refine ⟨_, rfl, ll20 (by show 2 ≤ 20; decide), fun t nt => ?_⟩
    have s := same_upd (o := .tup [V.ty "list", V.ty "tuple"]) nt
    exact ⟨x, t, _, _, _, _, rfl, upd_same, .cons (.ty "list") (.cons (.ty "tuple") .nil), (hd.same s).ty, kit_seq d, z _ s⟩
theorem scLine : FnScope ["value"] ["value"] (defScope sLine) := ⟨rfl, rfl, rfl, by decide +kernel, rfl, by decide +kernel, by decide +kernel⟩
theorem ok_line {f : Addr} {fd : FuncData} (F : Fun K "is_line" "is_line" sLine f fd) (T : Blt mg) : FnOk P w K mg base CX0 1 f fd ["value"] (spJudge K isLine) := by
  refine F.ok scLine (fun vs H Q E h => ?_) (fun cdv A outer s H vs Q E hr h => ?_)
  · obtain ⟨x, d, rfl, _⟩ := h
    rfl
  · obtain ⟨x, d, rfl, hd, z⟩ := h
    refine ⟨_, pss_one (ps_ret (pe_and (pe_callB call_isi (by rfl) T.isin (by decide +kernel) (pa_cons (pv 0) (pa_cons (pe_bltn (v := .ty "str") (u := .type "str") (by rfl) (T.all "str" (by decide)) (by decide +kernel) rfl) pa_nil)))
      (pe_one (pe_cmpR op_notIn_sign pe_str (pv 0) (by rfl))))), ?_⟩
    refine ⟨_, rfl, x, _, _, _, _, rfl, .ty "str", hd.ty, kit_ty (kit_str d), _, rfl, ?_⟩
    have zz := z H (fun _ _ e => e)
    cases d <;> first
      | exact iteF zz
      | skip
    cases hd
    exact iteT ⟨_, rfl, _, _, rfl, rfl, zz⟩
end
end K17
namespace XR
open PySem L2
theorem DqAll.get {K : PySem.W.Frag} {H : Hp} : ∀ {xs : List V} {ds : List PyData} {i : Nat} {x : V}, DqAll K H xs ds → xs[i]? = some x → ∃ d, ds[i]? = some d ∧ Dq K H x d
  | _, _, _, _, .nil, h => by simp at h
  | _, _, 0, _, .cons (d := d) a b, h => by
    have e := Option.some.inj h
    subst e
    exact ⟨d, rfl, a⟩
  | _, _, i + 1, _, .cons a b, h => b.get (i := i) h
end XR
namespace K17
open PySem L2 XR
section
variable {P : Program} {w : World} {K : PySem.W.Frag} {mg : Str → Option Value} {base : Heap}
theorem scIsText : FnScope ["value", "line"] ["value"] (defScope sIsText) := ⟨rfl, rfl, rfl, by decide +kernel, rfl, by decide +kernel, by decide +kernel⟩
theorem ok_isText {f fL fI : Addr} {fd fdL fdI : FuncData} {tm : Nat} (F : Fun K "is_text" "is_text" sIsText f fd) (T : Blt mg) (mM : mg "MOST" = some (.int 60 tm))
    (FL : Fun K "is_list" "is_list" sIsList fL fdL) (bL : Binds K fdL ["value"] []) (mL : mg "is_list" = some (.ref fL))
    (FI : Fun K "is_line" "is_line" sLine fI fdI) (bI : Binds K fdI ["value"] []) (mI : mg "is_line" = some (.ref fI)) : FnOk P w K mg base CX0 2 f fd ["value"] (spJudge K isText) := by
  have GL := ok_isList (P := P) (w := w) (base := base) FL T
  have GI := ok_line (P := P) (w := w) (base := base) FI T
  refine F.ok scIsText (fun vs H Q E h => ?_) (fun cdv A outer s H vs Q E hr h => ?_)
  · obtain ⟨x, d, rfl, _⟩ := h
    rfl
  · obtain ⟨x, d, rfl, hd, z⟩ := h
    cases hd with
    | @lst a xs ds h1 h2 =>
      refine ⟨_, pss_one (ps_ret (pe_and (pe_call GL hr rfl mL FL.kp bL .nil pass0 (pa_cons (pv 0) pa_nil)) (pe_and (pe_cmpR op_le (pe_callB call_len_seq (by rfl) T.len PySem.boot_len (pa_cons (pv 0) pa_nil)) (pe_glob (v := .int 60) (by rfl) mM ⟨_, rfl⟩) (nomark _))
        (pe_one (pe_callB (cr_all rfl) (by rfl) (T.all "all" (by decide)) (by decide +kernel) (pa_cons (pe_lc (own := [("line", 1)]) (g := gName 1) (tt := tYes) (te := tCall (spJudge K isLine) [] E0 (tCons (tVar 1) tNil)) rfl scIsText.nd (pi_list (pv 0))
          (blkOk_by (own := [("line", 1)]) (N := ["value", "line"]) (sc := defScope sIsText) (by decide +kernel)) (fun _ _ _ _ _ => pg_name (i := 1) scIsText.nd rfl (Or.inl rfl)) (fun _ _ _ _ _ => pts_nil)
          (fun _ _ _ _ _ => pe_call GI hr rfl mI FI.kp bI .nil pass0 (pa_cons (pv 1) pa_nil))) pa_nil)))))), ?_⟩
      refine ⟨_, rfl, _, _, rfl, .lst h1 h2, fun H1 s1 => ⟨_, rfl, iteT ⟨_, rfl, a, xs, rfl, .inl (s1.seq h1), _, _, rfl, rfl, _, rfl, ?_⟩⟩⟩
      have hlen := h2.length
      refine ite2 (fun c1 => ?_) (fun c1 => ?_)
      · have c2 : xs.length ≤ 60 := by have := of_decide_eq_true c1; omega
        refine ⟨_, rfl, a, rfl, ⟨_, s1.seq h1⟩, fun D nD => ?_⟩
        have sD := same_upd (o := .lst []) nD
        refine lc_list (K := K) (a := a) (xs := xs) (fun i H' => Same H1 H' ∧ H' D = some (.lst (((ds.take i).map isLine).map V.bl))) ⟨sD, upd_same⟩ (fun i H' _ hh => (hh.1).seq (s1.seq h1)) ?_ ?_
        · rintro i x H' hx ⟨sm, hD⟩
          obtain ⟨d, hd1, hd2⟩ := h2.get hx
          refine ⟨rfl, ?_⟩
          unfold tYes
          dsimp only
          rw [if_pos rfl]
          refine ⟨_, rfl, x, d, rfl, (hd2.same s1).same sm, fun H2 s2 => ⟨_, s2 _ _ hD, ?_, fun b o h => ?_, ?_⟩⟩
          · rw [List.length_map, List.length_map]
            have c3 : (ds.take i).length ≤ 60 := by rw [List.length_take]; omega
            exact Nat.lt_of_le_of_lt c3 (by decide)
          · rw [upd_ne (ne_of_none h nD)]
            exact s2 _ _ (sm _ _ h)
          · rw [upd_same, List.take_add_one, hd1, List.map_append, List.map_append]
            rfl
        · rintro H' ⟨sm, hD⟩
          refine ⟨D, ds.map isLine, rfl, SqL.of (by rw [hD, hlen, List.take_length]), ?_⟩
          have e : (ds.map isLine).all id = isText (.list ds) := by
            unfold isText isSeq itemsOf
            rw [List.all_map, decide_eq_true (show ds.length ≤ 60 by omega)]
            rfl
          rw [e]
          exact z _ (s1.trans sm)
      · have e : isText (.list ds) = false := by
          have c2 : ¬ ds.length ≤ 60 := fun h => c1 (decide_eq_true (by omega))
          unfold isText isSeq itemsOf
          rw [decide_eq_false c2]
          rfl
        have zz := z _ s1
        rw [e] at zz
        exact zz
    | @tup a xs ds h1 h2 =>
      refine ⟨_, pss_one (ps_ret (pe_and (pe_call GL hr rfl mL FL.kp bL .nil pass0 (pa_cons (pv 0) pa_nil)) (pe_and (pe_cmpR op_le (pe_callB call_len_seq (by rfl) T.len PySem.boot_len (pa_cons (pv 0) pa_nil)) (pe_glob (v := .int 60) (by rfl) mM ⟨_, rfl⟩) (nomark _))
        (pe_one (pe_callB (cr_all rfl) (by rfl) (T.all "all" (by decide)) (by decide +kernel) (pa_cons (pe_lc (own := [("line", 1)]) (g := gName 1) (tt := tYes) (te := tCall (spJudge K isLine) [] E0 (tCons (tVar 1) tNil)) rfl scIsText.nd (pi_tup (pv 0))
          (blkOk_by (own := [("line", 1)]) (N := ["value", "line"]) (sc := defScope sIsText) (by decide +kernel)) (fun _ _ _ _ _ => pg_name (i := 1) scIsText.nd rfl (Or.inl rfl)) (fun _ _ _ _ _ => pts_nil)
          (fun _ _ _ _ _ => pe_call GI hr rfl mI FI.kp bI .nil pass0 (pa_cons (pv 1) pa_nil))) pa_nil)))))), ?_⟩
      refine ⟨_, rfl, _, _, rfl, .tup h1 h2, fun H1 s1 => ⟨_, rfl, iteT ⟨_, rfl, a, xs, rfl, .inr (XR.Same.tup s1 h1), _, _, rfl, rfl, _, rfl, ?_⟩⟩⟩
      have hlen := h2.length
      refine ite2 (fun c1 => ?_) (fun c1 => ?_)
      · have c2 : xs.length ≤ 60 := by have := of_decide_eq_true c1; omega
        refine ⟨_, rfl, a, rfl, ⟨_, XR.Same.tup s1 h1⟩, fun D nD => ?_⟩
        have sD := same_upd (o := .lst []) nD
        refine lc_tup (K := K) (a := a) (xs := xs) (fun i H' => Same H1 H' ∧ H' D = some (.lst (((ds.take i).map isLine).map V.bl))) ⟨sD, upd_same⟩ (fun i H' _ hh => XR.Same.tup hh.1 (XR.Same.tup s1 h1)) ?_ ?_
        · rintro i x H' hx ⟨sm, hD⟩
          obtain ⟨d, hd1, hd2⟩ := h2.get hx
          refine ⟨rfl, ?_⟩
          unfold tYes
          dsimp only
          rw [if_pos rfl]
          refine ⟨_, rfl, x, d, rfl, (hd2.same s1).same sm, fun H2 s2 => ⟨_, s2 _ _ hD, ?_, fun b o h => ?_, ?_⟩⟩
          · rw [List.length_map, List.length_map]
            have c3 : (ds.take i).length ≤ 60 := by rw [List.length_take]; omega
            exact Nat.lt_of_le_of_lt c3 (by decide)
          · rw [upd_ne (ne_of_none h nD)]
            exact s2 _ _ (sm _ _ h)
          · rw [upd_same, List.take_add_one, hd1, List.map_append, List.map_append]
            rfl
        · rintro H' ⟨sm, hD⟩
          refine ⟨D, ds.map isLine, rfl, SqL.of (by rw [hD, hlen, List.take_length]), ?_⟩
          have e : (ds.map isLine).all id = isText (.tuple ds) := by
            unfold isText isSeq itemsOf
            rw [List.all_map, decide_eq_true (show ds.length ≤ 60 by omega)]
            rfl
          rw [e]
          exact z _ (s1.trans sm)
      · have e : isText (.tuple ds) = false := by
          have c2 : ¬ ds.length ≤ 60 := fun h => c1 (decide_eq_true (by omega))
          unfold isText isSeq itemsOf
          rw [decide_eq_false c2]
          rfl
        have zz := z _ s1
        rw [e] at zz
        exact zz
    | non =>
      refine ⟨_, pss_one (ps_ret (pe_and (pe_call GL hr rfl mL FL.kp bL .nil pass0 (pa_cons (pv 0) pa_nil)) (pe_and (pe_cmpR op_le (pe_callB call_len_seq (by rfl) T.len PySem.boot_len (pa_cons (pv 0) pa_nil)) (pe_glob (v := .int 60) (by rfl) mM ⟨_, rfl⟩) (nomark _))
        (pe_one (pe_callB (cr_all rfl) (by rfl) (T.all "all" (by decide)) (by decide +kernel) (pa_cons (pe_lc (own := [("line", 1)]) (g := gName 1) (tt := tYes) (te := tCall (spJudge K isLine) [] E0 (tCons (tVar 1) tNil)) rfl scIsText.nd (pi_list (pv 0))
          (blkOk_by (own := [("line", 1)]) (N := ["value", "line"]) (sc := defScope sIsText) (by decide +kernel)) (fun _ _ _ _ _ => pg_name (i := 1) scIsText.nd rfl (Or.inl rfl)) (fun _ _ _ _ _ => pts_nil)
          (fun _ _ _ _ _ => pe_call GI hr rfl mI FI.kp bI .nil pass0 (pa_cons (pv 1) pa_nil))) pa_nil)))))), ?_⟩
      exact ⟨_, rfl, _, _, rfl, .non, fun H1 s1 => ⟨_, rfl, iteF (z _ s1)⟩⟩
    | bl b =>
      refine ⟨_, pss_one (ps_ret (pe_and (pe_call GL hr rfl mL FL.kp bL .nil pass0 (pa_cons (pv 0) pa_nil)) (pe_and (pe_cmpR op_le (pe_callB call_len_seq (by rfl) T.len PySem.boot_len (pa_cons (pv 0) pa_nil)) (pe_glob (v := .int 60) (by rfl) mM ⟨_, rfl⟩) (nomark _))
        (pe_one (pe_callB (cr_all rfl) (by rfl) (T.all "all" (by decide)) (by decide +kernel) (pa_cons (pe_lc (own := [("line", 1)]) (g := gName 1) (tt := tYes) (te := tCall (spJudge K isLine) [] E0 (tCons (tVar 1) tNil)) rfl scIsText.nd (pi_list (pv 0))
          (blkOk_by (own := [("line", 1)]) (N := ["value", "line"]) (sc := defScope sIsText) (by decide +kernel)) (fun _ _ _ _ _ => pg_name (i := 1) scIsText.nd rfl (Or.inl rfl)) (fun _ _ _ _ _ => pts_nil)
          (fun _ _ _ _ _ => pe_call GI hr rfl mI FI.kp bI .nil pass0 (pa_cons (pv 1) pa_nil))) pa_nil)))))), ?_⟩
      exact ⟨_, rfl, _, _, rfl, .bl b, fun H1 s1 => ⟨_, rfl, iteF (z _ s1)⟩⟩
    | int i =>
      refine ⟨_, pss_one (ps_ret (pe_and (pe_call GL hr rfl mL FL.kp bL .nil pass0 (pa_cons (pv 0) pa_nil)) (pe_and (pe_cmpR op_le (pe_callB call_len_seq (by rfl) T.len PySem.boot_len (pa_cons (pv 0) pa_nil)) (pe_glob (v := .int 60) (by rfl) mM ⟨_, rfl⟩) (nomark _))
        (pe_one (pe_callB (cr_all rfl) (by rfl) (T.all "all" (by decide)) (by decide +kernel) (pa_cons (pe_lc (own := [("line", 1)]) (g := gName 1) (tt := tYes) (te := tCall (spJudge K isLine) [] E0 (tCons (tVar 1) tNil)) rfl scIsText.nd (pi_list (pv 0))
          (blkOk_by (own := [("line", 1)]) (N := ["value", "line"]) (sc := defScope sIsText) (by decide +kernel)) (fun _ _ _ _ _ => pg_name (i := 1) scIsText.nd rfl (Or.inl rfl)) (fun _ _ _ _ _ => pts_nil)
          (fun _ _ _ _ _ => pe_call GI hr rfl mI FI.kp bI .nil pass0 (pa_cons (pv 1) pa_nil))) pa_nil)))))), ?_⟩
      exact ⟨_, rfl, _, _, rfl, .int i, fun H1 s1 => ⟨_, rfl, iteF (z _ s1)⟩⟩
    | str s =>
      refine ⟨_, pss_one (ps_ret (pe_and (pe_call GL hr rfl mL FL.kp bL .nil pass0 (pa_cons (pv 0) pa_nil)) (pe_and (pe_cmpR op_le (pe_callB call_len_seq (by rfl) T.len PySem.boot_len (pa_cons (pv 0) pa_nil)) (pe_glob (v := .int 60) (by rfl) mM ⟨_, rfl⟩) (nomark _))
        (pe_one (pe_callB (cr_all rfl) (by rfl) (T.all "all" (by decide)) (by decide +kernel) (pa_cons (pe_lc (own := [("line", 1)]) (g := gName 1) (tt := tYes) (te := tCall (spJudge K isLine) [] E0 (tCons (tVar 1) tNil)) rfl scIsText.nd (pi_list (pv 0))
          (blkOk_by (own := [("line", 1)]) (N := ["value", "line"]) (sc := defScope sIsText) (by decide +kernel)) (fun _ _ _ _ _ => pg_name (i := 1) scIsText.nd rfl (Or.inl rfl)) (fun _ _ _ _ _ => pts_nil)
          (fun _ _ _ _ _ => pe_call GI hr rfl mI FI.kp bI .nil pass0 (pa_cons (pv 1) pa_nil))) pa_nil)))))), ?_⟩
      exact ⟨_, rfl, _, _, rfl, .str s, fun H1 s1 => ⟨_, rfl, iteF (z _ s1)⟩⟩
    | dct h1 h2 h3 =>
      refine ⟨_, pss_one (ps_ret (pe_and (pe_call GL hr rfl mL FL.kp bL .nil pass0 (pa_cons (pv 0) pa_nil)) (pe_and (pe_cmpR op_le (pe_callB call_len_seq (by rfl) T.len PySem.boot_len (pa_cons (pv 0) pa_nil)) (pe_glob (v := .int 60) (by rfl) mM ⟨_, rfl⟩) (nomark _))
        (pe_one (pe_callB (cr_all rfl) (by rfl) (T.all "all" (by decide)) (by decide +kernel) (pa_cons (pe_lc (own := [("line", 1)]) (g := gName 1) (tt := tYes) (te := tCall (spJudge K isLine) [] E0 (tCons (tVar 1) tNil)) rfl scIsText.nd (pi_list (pv 0))
          (blkOk_by (own := [("line", 1)]) (N := ["value", "line"]) (sc := defScope sIsText) (by decide +kernel)) (fun _ _ _ _ _ => pg_name (i := 1) scIsText.nd rfl (Or.inl rfl)) (fun _ _ _ _ _ => pts_nil)
          (fun _ _ _ _ _ => pe_call GI hr rfl mI FI.kp bI .nil pass0 (pa_cons (pv 1) pa_nil))) pa_nil)))))), ?_⟩
      exact ⟨_, rfl, _, _, rfl, .dct h1 h2 h3, fun H1 s1 => ⟨_, rfl, iteF (z _ s1)⟩⟩
end
end K17
namespace XR
open PySem PySem.Spec L2
/-- a call that raises nothing of a def that may raise -/
theorem passF {X : Cx} (σ : St) : PassesAt (L2.CX X.prog X.w) X σ E0 := fun pins H s e s' I h => by
  obtain ⟨_, _, _, _, _, _, _, _, _, _, _, _, z⟩ := h
  exact z.elim
section
variable {X : Cx} {CX : CXT} {k : Nat} {f : Addr} {sp : Sp} {E : St → XK} {x : Str} {p pos : Pos} {e : Expr} {es : List Expr} {t : TA}
/-- the plain call of a def that is known by its promise for any arguments -/
theorem pe_callR (F : FnR X.prog X.w X.K X.mg X.base CX k f sp) (hr : Room k X.A) (hgl : Gl X x) (hm : X.mg x = some (.ref f)) (hk : PySem.W.keepIn X.K (.ref f) = true) (hx : ∀ σ, PassesAt CX X σ (E σ)) (ha : PA X (e :: es) t)
    (hdb : (x == ("__debug__" : Str)) = false := by decide) (he : starEach (e :: es) X.env = (false, eval e X.env) :: starEach es X.env := by rfl) (hpl : (backTo pos (starEach es X.env)).any (·.1) = false := by rfl) :
    PE X (.Call (.Name x p) (e :: es) [] pos) (fun σ H Q => t σ H fun vs H1 => sp vs H1 Q (E σ)) := by
  refine ⟨fun pins s σ H Q I h => ?_⟩
  refine wpAny_Call_Name_kw (ld_glob I hgl hm ?_ hdb)
  refine PySem.W.callWith_K (h₀ := X.base) I.ok.mod.kin hk (thn (ha.run pos pins s σ H _ I h) fun us s1 ⟨vs, H1, I1, r, q⟩ => ⟨I1.kIn, ?_⟩) he hpl
  refine wpAny_call (codeAny_mono (F X.A X.stack s1 H1 us vs Q (E σ) hr I1.env0 r q) fun r' s' hq => ?_)
  cases r' with
  | error e => exact hx σ pins H1 s1 e s' I1 hq
  | ok fl =>
    cases fl with
    | ret u => exact I1.after hq
    | next => exact False.elim hq
    | brk => exact False.elim hq
    | cont => exact False.elim hq
end
/-- what is known of a class of exceptions with n fields -/
structure XOk (P : Program) (K : PySem.W.Frag) (mg : Str → Option Value) (x : Str) (C : Addr) (n : Nat) (fv : List V → List (Str × V)) : Prop where
  mx : MkX K P C none n fv
  ne : ∀ vs : List V, vs.length = n → fv vs ≠ []
  kp : PySem.W.keepIn K (.ref C) = true
  bP : PySem.W.subIn K (.ref C) (.type "BaseException") = some true
  tP : PySem.W.typeIn K (.ref C) = some (.type "type")
  g : mg x = some (.ref C)
  rd : ClsR K C
  nf : ∀ vs : List V, ∀ q, q ∈ fv vs → PySem.W.findIn K (.ref C) q.1 = some none
def fvOne (f : Str) : List V → List (Str × V) := fun vs => [(f, vs.getD 0 .non)]
/-- a judge of texts: it raises with the first that is none -/
def spCheck (K : PySem.W.Frag) (C : Addr) : Sp := fun vs H Q E => ∃ ds : List PyData, DqAll K H vs ds ∧ vs.length ≤ 100 ∧ (ds.all isText = true → ∀ H', Same H H' → Q .non H') ∧
  (∀ i x d, vs[i]? = some x → ds[i]? = some d → isText d = false → (∀ d', d' ∈ ds.take i → isText d' = true) → ∀ H' dd, Same H H' → H dd = none → H' dd = some (.xd [("value", x)]) → E (.ref C) (some dd) H')
end XR
namespace K17
open PySem L2 XR
abbrev sCheck : Stmt := top 14
section
variable {P : Program} {w : World} {K : PySem.W.Frag} {mg : Str → Option Value} {base : Heap}
theorem scCheck : FnScope ["texts", "text"] ["texts"] (defScope sCheck) := ⟨rfl, rfl, rfl, by decide +kernel, rfl, by decide +kernel, by decide +kernel⟩
theorem ok_check {f fI CT : Addr} {fdI : FuncData} {oc kV doc pm cdv ct : Value} {an od : Option Addr} {osl : Array (Option Value)}
    (lk : List.lookup f K = some { cls := oc, dict := od, data := Data.func (PySem.W.fnOf "check_texts" "check_texts" (defArgs sCheck) (defBody sCheck) (defScope sCheck) .none kV doc pm an cdv ct), slots := osl }) (hc : PySem.W.codeIn K cdv "check_texts" = true)
    (hsup : mg "super" = none) (XT : XOk P K mg "InvalidText" CT 1 (fvOne "value"))
    (FI : Fun K "is_text" "is_text" sIsText fI fdI) (GI : FnOk P w K mg base CX0 2 fI fdI ["value"] (spJudge K isText)) (bI : Binds K fdI ["value"] []) (mI : mg "is_text" = some (.ref fI)) : FnR P w K mg base (L2.CX P w) 3 f (spCheck K CT) := by
  have R := StX.fn_star (CX := L2.CX P w) (P := P) (w := w) (K := K) (mg := mg) (base := base) (k := 2) (ps := []) (pv := "texts") (N := ["texts", "text"])
    (sp := fun vs H Q E => ∃ (p : Addr) (xs : List V) (ds : List PyData), vs = [.ref p] ∧ H p = some (.tup xs) ∧ DqAll K H xs ds ∧ (ds.all isText = true → ∀ H', Same H H' → Q .non H') ∧
      (∀ i x d, xs[i]? = some x → ds[i]? = some d → isText d = false → (∀ d', d' ∈ ds.take i → isText d' = true) → ∀ H' dd, Same H H' → H dd = none → H' dd = some (.xd [("value", x)]) → E (.ref CT) (some dd) H'))
    lk hc scCheck StX.cxUp (fun us rest hl => by
      cases us with
      | nil => cases rest with
        | nil => rfl
        | cons r rs => rfl
      | cons a b => cases hl) (fun A outer s H vs Q E hr h => ?_)
  · intro A outer s H us vs Q E hr he r h
    refine R A outer s H us vs Q E hr he r ?_
    obtain ⟨ds, hd, hl, h1, h2⟩ := h
    refine ⟨[], vs, rfl, rfl, Nat.le_trans hl (by decide), fun p hp => ⟨p, vs, ds, rfl, upd_same, hd.same (same_upd hp), fun e H' s' => h1 e H' ((same_upd hp).trans s'), fun i x d a b c e H' dd s' n k => h2 i x d a b c e H' dd ((same_upd hp).trans s') ?_ k⟩⟩
    by_cases e : dd = p
    · rw [e]; exact hp
    · rw [upd_ne e] at n; exact n
  · obtain ⟨p, xs, ds, rfl, hp, hd, h1, h2⟩ := h
    refine ⟨_, pss_one (ps_for PySem.PassesOwn.leaving rfl (pi_tup (pv 0)) (pg_name (i := 1) scCheck.nd rfl (.inl rfl)) (pss_one (ps_if (pt_not (pt_val (pe_call GI hr rfl mI FI.kp bI .nil pass0 (pa_cons (pv 1) pa_nil))))
      (pss_one (ps_raiseX rfl (takes_of rfl rfl rfl rfl) XT.mx XT.ne XT.kp hr hsup XT.bP XT.tP rfl XT.g (pa_cons (pv 1) pa_nil))) pss_nil))), ?_⟩
    refine ⟨_, rfl, p, rfl, ⟨_, .inl (.inl hp)⟩, ?_⟩
    refine for_tup (K := K) (a := p) (xs := xs) (fun i σ H' => Same H H' ∧ (∃ x1, σ = [some (V.ref p), x1]) ∧ (∀ d', d' ∈ ds.take i → isText d' = true)) ⟨fun _ _ e => e, ⟨_, rfl⟩, fun d' h => by simp at h⟩ (fun i σ H' _ hh => .inl (.inl (hh.1 _ _ hp))) ?_ ?_
    · rintro i x σ H' hx ⟨sm, ⟨x1, rfl⟩, ht⟩
      obtain ⟨d, hd1, hd2⟩ := hd.get hx
      refine ⟨_, rfl, x, d, rfl, hd2.same sm, fun H2 s2 => ⟨_, rfl, ?_⟩⟩
      cases e : isText d with
      | true =>
        refine iteF ⟨sm.trans s2, ⟨_, rfl⟩, fun d' hd' => ?_⟩
        rw [List.take_add_one, hd1] at hd'
        rcases List.mem_append.mp hd' with h | h
        · exact ht d' h
        · have : d' = d := by simpa using h
          rw [this]; exact e
      | false =>
        refine iteT ⟨_, rfl, rfl, fun dd ndd => ?_⟩
        have s3 := sm.trans s2
        refine h2 i x d hx hd1 e ht _ dd (s3.trans (same_upd ndd)) ?_ upd_same
        cases q : H dd with
        | none => rfl
        | some o => rw [s3 _ _ q] at ndd; cases ndd
    · rintro σ H' ⟨sm, ⟨x1, rfl⟩, ht⟩
      refine h1 ?_ H' sm
      rw [List.all_eq_true]
      intro d' hd'
      refine ht d' ?_
      rw [hd.length, List.take_length]
      exact hd'
end
end K17
namespace XR
open PySem L2
/-- a text, a list or a tuple -/
def TxA (K : PySem.W.Frag) (H : Hp) (x : V) (ss : List Str) : Prop := ∃ a, x = .ref a ∧ (SqL K H a (ss.map V.str) ∨ SqT K H a (ss.map V.str))
theorem TxA.same {K : PySem.W.Frag} {H H' : Hp} {x : V} {ss : List Str} (s : Same H H') (h : TxA K H x ss) : TxA K H' x ss := by
  obtain ⟨a, e, h | h⟩ := h
  · exact ⟨a, e, .inl (s.seq h)⟩
  · exact ⟨a, e, .inr (XR.Same.tup s h)⟩
theorem dqStrs {K : PySem.W.Frag} {H : Hp} : ∀ ss : List Str, DqAll K H (ss.map V.str) (ss.map PyData.str)
  | [] => .nil
  | s :: ss => .cons (.str s) (dqStrs ss)
theorem TxA.dq {K : PySem.W.Frag} {H : Hp} {x : V} {ss : List Str} (h : TxA K H x ss) : ∃ d, Dq K H x d ∧ itemsOf d = ss.map PyData.str ∧ isSeq d = true := by
  obtain ⟨a, rfl, h | h⟩ := h
  · exact ⟨.list (ss.map .str), .lst h (dqStrs ss), rfl, rfl⟩
  · exact ⟨.tuple (ss.map .str), .tup h (dqStrs ss), rfl, rfl⟩
theorem word_line : ∀ s, s ∈ words → isLine (.str s) = true := by decide +kernel
theorem text_ok {d : PyData} {ss : List Str} (h1 : itemsOf d = ss.map PyData.str) (h2 : isSeq d = true) (w : Wd ss) (l : ss.length ≤ 60) : isText d = true := by
  unfold isText
  rw [h1, h2, List.length_map, decide_eq_true l, List.all_map]
  simp only [Bool.true_and]
  rw [List.all_eq_true]
  exact fun s hs => word_line s (w s hs)
def isTup (n : Int) : PyData → Bool
  | .tuple ds => decide ((ds.length : Int) = n)
  | _ => false
def isSpot : PyData → Bool
  | .tuple [a, b] => isWhole a && isWhole b
  | _ => false
def pairOk (ss1 ss2 : List Str) : PyData → Bool
  | .tuple [.int i, .int j] => decide (1 ≤ i) && (decide (i ≤ ss1.length) && (decide (1 ≤ j) && (decide (j ≤ ss2.length) && decide (ss1[(i - 1).toNat]? = ss2[(j - 1).toNat]?))))
  | _ => false
def spPair (K : PySem.W.Frag) : Sp := fun vs H Q _ => ∃ (x1 x2 v : V) (ss1 ss2 : List Str) (d : PyData), vs = [x1, x2, v] ∧ TxA K H x1 ss1 ∧ TxA K H x2 ss2 ∧ Dq K H v d ∧ ∀ H', Same H H' → Q (.bl (pairOk ss1 ss2 d)) H'
def spTup (K : PySem.W.Frag) : Sp := fun vs H Q _ => ∃ (x : V) (d : PyData) (n : Int), vs = [x, .int n] ∧ Dq K H x d ∧ ∀ H', Same H H' → Q (.bl (isTup n d)) H'
end XR
namespace K17
open PySem L2 XR
abbrev sPair : Stmt := top 17
section
variable {P : Program} {w : World} {K : PySem.W.Frag} {mg : Str → Option Value} {base : Heap}
theorem scTup : FnScope ["value", "many"] ["value", "many"] (defScope sIsTuple) := ⟨rfl, rfl, rfl, by decide +kernel, rfl, by decide +kernel, by decide +kernel⟩
theorem ok_tup {f : Addr} {fd : FuncData} (F : Fun K "is_tuple" "is_tuple" sIsTuple f fd) (T : Blt mg) : FnOk P w K mg base CX0 1 f fd ["value", "many"] (spTup K) := by
  refine F.ok scTup (fun vs H Q E h => ?_) (fun cdv A outer s H vs Q E hr h => ?_)
  · obtain ⟨x, d, n, rfl, _⟩ := h
    rfl
  · obtain ⟨x, d, n, rfl, hd, z⟩ := h
    refine ⟨_, pss_one (ps_ret (pe_and (pe_callB call_isi (by rfl) T.isin (by decide +kernel) (pa_cons (pv 0) (pa_cons (pe_bltn (v := .ty "tuple") (u := .type "tuple") (by rfl) (T.all "tuple" (by decide)) (by decide +kernel) rfl) pa_nil)))
      (pe_one (pe_cmpR op_eq (pe_callB call_len_seq (by rfl) T.len PySem.boot_len (pa_cons (pv 0) pa_nil)) (pv 1) (nomark _))))), ?_⟩
    refine ⟨_, rfl, x, _, _, _, _, rfl, .ty "tuple", hd.ty, kit_ty (kit_tuple d), _, rfl, ?_⟩
    have zz := z H (fun _ _ e => e)
    cases hd with
    | @tup a xs ds h1 h2 =>
      refine iteT ⟨_, rfl, a, xs, rfl, .inr h1, _, rfl, rfl, ?_⟩
      have e : decide (V.int ((xs.length : Nat) : Int) = V.int n) = isTup n (.tuple ds) := by
        show _ = decide ((ds.length : Int) = n)
        rw [h2.length]
        by_cases q : ((ds.length : Nat) : Int) = n
        · rw [decide_eq_true q, q]; simp
        · rw [decide_eq_false q]; simp [q]
      rw [e]
      exact zz
    | non => exact iteF zz
    | bl b => exact iteF zz
    | int i => exact iteF zz
    | str s => exact iteF zz
    | lst h1 h2 => exact iteF zz
    | dct h1 h2 h3 => exact iteF zz
end
end K17
namespace XR
open PySem L2
theorem DqAll.two {K : PySem.W.Frag} {H : Hp} {xs : List V} {ds : List PyData} (h : DqAll K H xs ds) (e : ds.length = 2) : ∃ d1 d2 y1 y2, ds = [d1, d2] ∧ xs = [y1, y2] ∧ Dq K H y1 d1 ∧ Dq K H y2 d2 := by
  cases h with
  | nil => cases e
  | cons a h =>
    cases h with
    | nil => cases e
    | cons b h =>
      cases h with
      | nil => exact ⟨_, _, _, _, rfl, rfl, a, b⟩
      | cons c h => simp at e
end XR
namespace K17
open PySem L2 XR
section
variable {P : Program} {w : World} {K : PySem.W.Frag} {mg : Str → Option Value} {base : Heap}
theorem scSpot : FnScope ["value"] ["value"] (defScope sSpot) := ⟨rfl, rfl, rfl, by decide +kernel, rfl, by decide +kernel, by decide +kernel⟩
theorem ok_spot {f fT fW : Addr} {fd fdT fdW : FuncData} (F : Fun K "is_spot" "is_spot" sSpot f fd) (T : Blt mg) (FT : Fun K "is_tuple" "is_tuple" sIsTuple fT fdT) (bT : Binds K fdT ["value", "many"] []) (mT : mg "is_tuple" = some (.ref fT))
    (FW : Fun K "is_whole" "is_whole" sWhole fW fdW) (bW : Binds K fdW ["value"] []) (mW : mg "is_whole" = some (.ref fW)) : FnOk P w K mg base CX0 2 f fd ["value"] (spJudge K isSpot) := by
  have GT := ok_tup (P := P) (w := w) (base := base) FT T
  have GW := ok_whole (P := P) (w := w) (base := base) FW T
  refine F.ok scSpot (fun vs H Q E h => ?_) (fun cdv A outer s H vs Q E hr h => ?_)
  · obtain ⟨x, d, rfl, _⟩ := h
    rfl
  · obtain ⟨x, d, rfl, hd, z⟩ := h
    refine ⟨_, pss_one (ps_ret (pe_and (pe_call GT hr rfl mT FT.kp bT .nil pass0 (pa_cons (pv 0) (pa_cons pe_int pa_nil))) (pe_and (pe_call GW hr rfl mW FW.kp bW .nil pass0 (pa_cons (pe_ix ix_tup (pv 0) pe_int (fun _ _ => rfl)) pa_nil))
      (pe_one (pe_call GW hr rfl mW FW.kp bW .nil pass0 (pa_cons (pe_ix ix_tup (pv 0) pe_int (fun _ _ => rfl)) pa_nil)))))), ?_⟩
    refine ⟨_, rfl, x, d, 2, rfl, hd, fun H1 s1 => ⟨_, rfl, ?_⟩⟩
    have zz := z H1 s1
    have no : isTup 2 d = false → isSpot d = false := by
      intro h
      cases d with
      | tuple ds =>
        have h' : decide ((ds.length : Int) = 2) = false := h
        rcases ds with _ | ⟨d1, _ | ⟨d2, _ | ⟨d3, ds⟩⟩⟩
        · rfl
        · rfl
        · exact absurd rfl (of_decide_eq_false h')
        · rfl
      | _ => rfl
    cases e : isTup 2 d with
    | false =>
      rw [no e] at zz
      exact iteF zz
    | true =>
      cases hd with
      | @tup a xs ds h1 h2 =>
        have e2 : ds.length = 2 := by
          have : ((ds.length : Nat) : Int) = 2 := of_decide_eq_true e
          omega
        obtain ⟨d1, d2, y1, y2, rfl, rfl, k1, k2⟩ := h2.two e2
        refine iteT ⟨_, rfl, a, _, _, _, rfl, rfl, XR.Same.tup s1 h1, atI_nat (j := 0) rfl, y1, d1, rfl, k1.same s1, fun H2 s2 => ⟨_, rfl, ?_⟩⟩
        have zz2 := z H2 (s1.trans s2)
        cases e3 : isWhole d1 with
        | false =>
          have e4 : isSpot (.tuple [d1, d2]) = false := by show (isWhole d1 && isWhole d2) = false; rw [e3]; rfl
          rw [e4] at zz2
          exact iteF zz2
        | true =>
          refine iteT ⟨_, rfl, a, _, _, _, rfl, rfl, XR.Same.tup s2 (XR.Same.tup s1 h1), atI_nat (j := 1) rfl, y2, d2, rfl, (k2.same s1).same s2, fun H3 s3 => ?_⟩
          have e4 : isSpot (.tuple [d1, d2]) = isWhole d2 := by show (isWhole d1 && isWhole d2) = _; rw [e3]; rfl
          have zz3 := z H3 (s1.trans (s2.trans s3))
          rw [e4] at zz3
          exact zz3
      | non => cases e
      | bl b => cases e
      | int i => cases e
      | str s => cases e
      | lst h1 h2 => cases e
      | dct h1 h2 h3 => cases e
end
end K17
namespace XR
open PySem L2
theorem spot_is {K : PySem.W.Frag} {H : Hp} {v : V} {d : PyData} (h : Dq K H v d) (e : isSpot d = true) : ∃ (a : Addr) (i j : Int), v = .ref a ∧ d = .tuple [.int i, .int j] ∧ SqT K H a [.int i, .int j] := by
  cases h with
  | @tup a xs ds h1 h2 =>
    rcases ds with _ | ⟨d1, _ | ⟨d2, _ | ⟨d3, ds⟩⟩⟩
    · cases e
    · cases e
    · obtain ⟨d1', d2', y1, y2, e1, rfl, k1, k2⟩ := h2.two rfl
      injection e1 with e1 e3
      injection e3 with e3 _
      subst e1 e3
      have e4 : (isWhole d1 && isWhole d2) = true := e
      rw [Bool.and_eq_true] at e4
      cases k1 with
      | int i =>
        cases k2 with
        | int j => exact ⟨a, _, _, rfl, rfl, h1⟩
        | _ => exact absurd (show false = true from e4.2) Bool.false_ne_true
      | _ => exact absurd (show false = true from e4.1) Bool.false_ne_true
    · cases e
  | _ => cases e
theorem not_spot {ss1 ss2 : List Str} {d : PyData} (e : isSpot d = false) : pairOk ss1 ss2 d = false := by
  unfold pairOk
  split
  · cases e
  · rfl
/-- text[i] -/
theorem TxA.ix {K : PySem.W.Frag} {H : Hp} {x : V} {ss : List Str} {Q : VK} {i : Nat} {s : Str} (h : TxA K H x ss) (e : ss[i]? = some s) {z : Int} (hz : z = (i : Int)) (q : Q (.str s) H) : rIx K x (.int z) H Q := by
  obtain ⟨a, rfl, h | h⟩ := h
  · exact .inl ⟨a, _, z, .str s, rfl, rfl, h, by rw [hz]; exact atI_nat (by rw [List.getElem?_map, e]; rfl), q⟩
  · exact .inr (.inl ⟨a, _, z, .str s, rfl, rfl, h, by rw [hz]; exact atI_nat (by rw [List.getElem?_map, e]; rfl), q⟩)
/-- len(text) -/
theorem TxA.len {K : PySem.W.Frag} {H : Hp} {x : V} {ss : List Str} (h : TxA K H x ss) {Q : VK} (q : Q (.int (ss.length : Nat)) H) : ∃ p ys, [x] = [V.ref p] ∧ (SqL K H p ys ∨ SqT K H p ys) ∧ Q (.int (ys.length : Nat)) H := by
  obtain ⟨a, rfl, h⟩ := h
  exact ⟨a, ss.map V.str, rfl, h, by rw [List.length_map]; exact q⟩
end XR
namespace K17
open PySem L2 XR
section
variable {P : Program} {w : World} {K : PySem.W.Frag} {mg : Str → Option Value} {base : Heap}
theorem scPair : FnScope ["old", "new", "value", "i", "j"] ["old", "new", "value"] (defScope sPair) := ⟨rfl, rfl, rfl, by decide +kernel, rfl, by decide +kernel, by decide +kernel⟩
theorem ok_pair {f fS : Addr} {fd fdS : FuncData} (F : Fun K "is_pair" "is_pair" sPair f fd) (T : Blt mg) (FS : Fun K "is_spot" "is_spot" sSpot fS fdS) (GS : FnOk P w K mg base CX0 2 fS fdS ["value"] (spJudge K isSpot)) (bS : Binds K fdS ["value"] []) (mS : mg "is_spot" = some (.ref fS)) : FnOk P w K mg base CX0 3 f fd ["old", "new", "value"] (spPair K) := by
  refine F.ok scPair (fun vs H Q E h => ?_) (fun cdv A outer s H vs Q E hr h => ?_)
  · obtain ⟨x1, x2, v, ss1, ss2, d, rfl, _⟩ := h
    rfl
  · obtain ⟨x1, x2, v, ss1, ss2, d, rfl, t1, t2, hd, z⟩ := h
    refine ⟨_, pss_cons (ps_if (pt_not (pt_val (pe_call GS hr rfl mS FS.kp bS .nil pass0 (pa_cons (pv 2) pa_nil)))) (pss_one (ps_ret pe_bl)) pss_nil)
      (pss_cons (ps_asg (pv 2) (pg_tup rfl (pgs_cons (pg_name (i := 3) scPair.nd rfl (.inl rfl)) (pgs_cons (pg_name (i := 4) scPair.nd rfl (.inl rfl)) pgs_nil))))
      (pss_one (ps_ret (pe_and (pe_chain op_le op_le pe_int (pv 3) (pe_callB call_len_seq (by rfl) T.len PySem.boot_len (pa_cons (pv 0) pa_nil))) (pe_and (pe_chain op_le op_le pe_int (pv 4) (pe_callB call_len_seq (by rfl) T.len PySem.boot_len (pa_cons (pv 1) pa_nil)))
        (pe_one (pe_cmpR op_eq (pe_ix ix_seq (pv 0) (pe_op op_sub (pv 3) pe_int) (fun _ _ => rfl)) (pe_ix ix_seq (pv 1) (pe_op op_sub (pv 4) pe_int) (fun _ _ => rfl)) (nomark _)))))))), ?_⟩
    refine ⟨_, rfl, v, d, rfl, hd, fun H1 s1 => ⟨_, rfl, ?_⟩⟩
    have zz := z H1 s1
    cases e : isSpot d with
    | false =>
      rw [not_spot e] at zz
      exact iteT zz
    | true =>
      obtain ⟨a, i, j, rfl, rfl, hs⟩ := spot_is hd e
      have hs1 := XR.Same.tup s1 hs
      refine iteF ⟨_, rfl, a, _, rfl, hs1, rfl, _, _, rfl, _, _, rfl, rfl, ?_⟩
      have t1' := t1.same s1
      have t2' := t2.same s1
      obtain ⟨a1, rfl, ha1⟩ := id t1'
      obtain ⟨a2, rfl, ha2⟩ := id t2'
      have hz : pairOk ss1 ss2 (.tuple [.int i, .int j]) = (decide (1 ≤ i) && (decide (i ≤ ss1.length) && (decide (1 ≤ j) && (decide (j ≤ ss2.length) && decide (ss1[(i - 1).toNat]? = ss2[(j - 1).toNat]?))))) := rfl
      rw [hz] at zz
      refine ⟨_, rfl, _, _, rfl, rfl, _, rfl, ?_⟩
      by_cases c1 : (1 : Int) ≤ i
      · rw [decide_eq_true c1] at zz ⊢
        refine iteT ⟨_, rfl, a1, _, rfl, ha1, _, _, rfl, rfl, _, rfl, ?_⟩
        rw [List.length_map]
        by_cases c2 : i ≤ (ss1.length : Int)
        · rw [decide_eq_true c2] at zz ⊢
          refine iteT ⟨_, rfl, _, _, rfl, rfl, _, rfl, ?_⟩
          by_cases c3 : (1 : Int) ≤ j
          · rw [decide_eq_true c3] at zz ⊢
            refine iteT ⟨_, rfl, a2, _, rfl, ha2, _, _, rfl, rfl, _, rfl, ?_⟩
            rw [List.length_map]
            by_cases c4 : j ≤ (ss2.length : Int)
            · rw [decide_eq_true c4] at zz ⊢
              have l1 : (i - 1).toNat < ss1.length := by omega
              have l2 : (j - 1).toNat < ss2.length := by omega
              refine iteT ⟨_, rfl, _, rfl, _, _, rfl, rfl, TxA.ix t1' (List.getElem?_eq_getElem l1) (by omega) ⟨_, rfl, _, rfl, _, _, rfl, rfl, TxA.ix t2' (List.getElem?_eq_getElem l2) (by omega) ⟨rfl, ?_⟩⟩⟩
              have e5 : decide (V.str ss1[(i - 1).toNat] = V.str ss2[(j - 1).toNat]) = decide (ss1[(i - 1).toNat]? = ss2[(j - 1).toNat]?) := by
                rw [List.getElem?_eq_getElem l1, List.getElem?_eq_getElem l2]
                by_cases q : ss1[(i - 1).toNat] = ss2[(j - 1).toNat]
                · rw [q]; simp
                · rw [decide_eq_false (fun h => q (by injection h)), decide_eq_false (fun h => q (Option.some.inj h))]
              rw [e5]
              exact zz
            · rw [decide_eq_false c4] at zz ⊢
              exact iteF zz
          · rw [decide_eq_false c3] at zz ⊢
            exact iteF ⟨_, rfl, iteF zz⟩
        · rw [decide_eq_false c2] at zz ⊢
          exact iteF zz
      · rw [decide_eq_false c1] at zz ⊢
        exact iteF ⟨_, rfl, iteF zz⟩
end
end K17
namespace XR
open PySem L2
/-- a zip of two tuples -/
theorem walk_zipT {K : PySem.W.Frag} {a b : Addr} {xs ys : List V} {n : Nat} (hn : n = min xs.length ys.length) : Walk (RZ.ItzT K a b) n (fun H => SqT K H a xs ∧ SqT K H b ys) (YPair (fun i => xs[i]?) fun i => ys[i]?) := by
  refine ⟨fun i H hi ⟨h1, h2⟩ => ?_, fun H ⟨h1, h2⟩ => ⟨xs, ys, h1, h2, ?_⟩, fun i H x H' hi ⟨h1, h2⟩ h => ?_⟩
  · have l1 : i < xs.length := by omega
    have l2 : i < ys.length := by omega
    exact ⟨xs, ys, xs[i], ys[i], h1, h2, List.getElem?_eq_getElem l1, List.getElem?_eq_getElem l2⟩
  · omega
  · obtain ⟨T, x, y, e1, e2, e3, q1, q2⟩ := h
    exact ⟨T, x, y, e1, e2, e3, q1 xs h1, q2 ys h2⟩
/-- the items of a tuple are pairs of whole numbers -/
def Prs (K : PySem.W.Frag) (H : Hp) (xs : List V) (ps : List (Int × Int)) : Prop := xs.length = ps.length ∧ ∀ (i : Nat) (q : Int × Int), ps[i]? = some q → ∃ a : Addr, xs[i]? = some (V.ref a) ∧ SqT K H a [.int q.1, .int q.2]
theorem Prs.same {K : PySem.W.Frag} {H H' : Hp} {xs : List V} {ps : List (Int × Int)} (s : Same H H') (h : Prs K H xs ps) : Prs K H' xs ps :=
  ⟨h.1, fun i q hq => let ⟨a, h1, h2⟩ := h.2 i q hq; ⟨a, h1, XR.Same.tup s h2⟩⟩
def riseB (p q : Int × Int) : Bool := decide (p.1 < q.1) && decide (p.2 < q.2)
def rising (ps : List (Int × Int)) : Bool := (List.zipWith riseB ps (ps.drop 1)).all id
def spRise (K : PySem.W.Frag) : Sp := fun vs H Q _ => ∃ (t : Addr) (xs : List V) (ps : List (Int × Int)), vs = [.ref t] ∧ SqT K H t xs ∧ Prs K H xs ps ∧ ps.length ≤ 1000 ∧ ∀ H', Same H H' → Q (.bl (rising ps)) H'
theorem cut_one (xs : List V) : cutV xs (some 1) none = xs.drop 1 := by
  unfold cutV HT.sIx
  simp only [if_neg (show ¬ (1 : Int) < 0 by decide)]
  rcases xs with _ | ⟨x, xs⟩
  · rfl
  · have e : min (1 : Int).toNat (x :: xs).length = 1 := by
      show min 1 (xs.length + 1) = 1
      omega
    rw [e]
    show List.take (xs.length + 1 - 1) xs = xs
    rw [Nat.add_sub_cancel, List.take_length]
theorem tup_upd {K : PySem.W.Frag} {H : Hp} {a p : Addr} {xs ys zs : List V} (h : SqT K H a xs) (k : H p = some (.lst ys)) : SqT K (upd H p (.lst zs)) a xs := by
  rcases h with (h | ⟨o, h⟩) | h
  · exact .inl (.inl (by rw [upd_ne (fun e => by rw [e, k] at h; cases h)]; exact h))
  · exact .inl (.inr ⟨o, by rw [upd_ne (fun e => by rw [e, k] at h; cases h)]; exact h⟩)
  · exact .inr h
end XR
namespace K17
open PySem L2 XR
abbrev sRising : Stmt := top 18
section
variable {P : Program} {w : World} {K : PySem.W.Frag} {mg : Str → Option Value} {base : Heap}
theorem scRising : FnScope ["pairs", "i", "j", "k", "n"] ["pairs"] (defScope sRising) := ⟨rfl, rfl, rfl, by decide +kernel, rfl, by decide +kernel, by decide +kernel⟩
theorem ok_rising {f : Addr} {fd : FuncData} (F : Fun K "is_rising" "is_rising" sRising f fd) (T : Blt mg) : FnOk P w K mg base CX0 1 f fd ["pairs"] (spRise K) := by
  refine F.ok scRising (fun vs H Q E h => ?_) (fun cdv A outer s H vs Q E hr h => ?_)
  · obtain ⟨t, xs, ps, rfl, _⟩ := h
    rfl
  · obtain ⟨t, xs, ps, rfl, ht, hp, hl, z⟩ := h
    refine ⟨_, pss_one (ps_ret (pe_callB (cr_all rfl) (by rfl) (T.all "all" (by decide)) (by decide +kernel) (pa_cons (pe_lc (own := [("i", 1), ("j", 2), ("k", 3), ("n", 4)]) (g := gTup K 2 (gCons (gTup K 2 (gCons (gName 1) (gCons (gName 2) gNil))) (gCons (gTup K 2 (gCons (gName 3) (gCons (gName 4) gNil))) gNil))) (tt := tYes)
        (te := tAndV (tOp (rI0 fun i j => V.bl (decide (i < j))) (tVar 1) (tVar 3)) (tOp (rI0 fun i j => V.bl (decide (i < j))) (tVar 2) (tVar 4))) rfl scRising.nd
        (RZ.pi_zipA rfl (T.all "zip" (by decide)) (pa_cons (pv 0) (pa_cons (pe_slice sl_tupA (pv 0) (po_some pe_int) po_none) pa_nil)))
        (blkOk_by (own := [("i", 1), ("j", 2), ("k", 3), ("n", 4)]) (N := ["pairs", "i", "j", "k", "n"]) (sc := defScope sRising) (by decide +kernel))
        (fun _ _ _ _ _ => pg_tup rfl (pgs_cons (pg_tup rfl (pgs_cons (pg_name (i := 1) scRising.nd rfl (.inl rfl)) (pgs_cons (pg_name (i := 2) scRising.nd rfl (.inl rfl)) pgs_nil))) (pgs_cons (pg_tup rfl (pgs_cons (pg_name (i := 3) scRising.nd rfl (.inl rfl)) (pgs_cons (pg_name (i := 4) scRising.nd rfl (.inl rfl)) pgs_nil))) pgs_nil))) (fun _ _ _ _ _ => pts_nil)
        (fun _ _ _ _ _ => pe_and (pe_cmpR op_lt (pv 1) (pv 3) (nomark _)) (pe_one (pe_cmpR op_lt (pv 2) (pv 4) (nomark _))))) pa_nil))), ?_⟩
    refine ⟨_, rfl, _, rfl, 1, rfl, t, xs, rfl, ht, fun hw => ?_, fun hn p np => ?_⟩
    · have e0 : xs.drop 1 = xs := by
        have h0 : (if (1 : Int) < 0 then ((1 : Int) + (xs.length : Nat)).toNat else min (1 : Int).toNat xs.length) = 0 := hw.1
        rw [if_neg (by decide)] at h0
        have h1 : min 1 xs.length = 0 := h0
        have h2 : xs.length = 0 := by omega
        rw [List.eq_nil_of_length_eq_zero h2]
        rfl
      have hmin : (ps.drop 1).length = min xs.length (xs.drop 1).length := by rw [List.length_drop, List.length_drop, hp.1]; omega
      have s1 : Same H H := fun _ _ e => e
      have h1 := ht
      have hu : SqT K H t (xs.drop 1) := by rw [e0]; exact ht
      refine ⟨t, t, xs, xs.drop 1, rfl, .inr ⟨h1, hu, fun D nD => ?_⟩⟩
      have sD := same_upd (o := .lst []) nD
      refine lc_it (walk_zipT (n := (ps.drop 1).length) hmin) (fun i H' => Same H H' ∧ SqT K H' t xs ∧ SqT K H' t (xs.drop 1) ∧ H' D = some (.lst (((List.zipWith riseB ps (ps.drop 1)).take i).map V.bl))) ⟨s1.trans sD, XR.Same.tup sD h1, XR.Same.tup sD hu, upd_same⟩ (fun i H' _ hh => ⟨hh.2.1, hh.2.2.1⟩) ?_ ?_
      · rintro i x Ha Hb hi ⟨sm, h1', h2', hD⟩ ⟨T0, y1, y2, rfl, nT, rfl, e1, e2⟩
        rw [List.length_drop] at hi
        have i1 : i < ps.length := by omega
        have i2 : i + 1 < ps.length := by omega
        obtain ⟨a1, x1, k1⟩ := hp.2 i _ (List.getElem?_eq_getElem i1)
        obtain ⟨a2, x2, k2⟩ := hp.2 (i + 1) _ (List.getElem?_eq_getElem i2)
        have e2' : xs[1 + i]? = some y2 := by rw [← List.getElem?_drop]; exact e2
        rw [Nat.add_comm 1 i] at e2'
        obtain rfl : y1 = V.ref a1 := Option.some.inj (e1.symm.trans x1)
        obtain rfl : y2 = V.ref a2 := Option.some.inj (e2'.symm.trans x2)
        have sT := same_upd (o := .tup [V.ref a1, V.ref a2]) nT
        have sa := sm.trans sT
        refine ⟨T0, _, rfl, .inl (.inl upd_same), rfl, _, _, rfl, a1, _, rfl, XR.Same.tup sa k1, rfl, _, _, rfl, _, _, rfl, rfl, _, _, rfl, a2, _, rfl, XR.Same.tup sa k2, rfl, _, _, rfl, _, _, rfl, rfl, rfl, rfl, ?_⟩
        unfold tYes
        dsimp only
        rw [if_pos rfl]
        have hD' := sT _ _ hD
        have hz : (List.zipWith riseB ps (ps.drop 1))[i]? = some (riseB ps[i] ps[i + 1]) := by
          rw [List.getElem?_zipWith, List.getElem?_eq_getElem i1, List.getElem?_drop, Nat.add_comm 1 i, List.getElem?_eq_getElem i2]
        have fin : ∀ c : Bool, c = riseB ps[i] ps[i + 1] → ∃ acc, upd Ha T0 (.tup [V.ref a1, V.ref a2]) D = some (.lst acc) ∧ acc.length < sizeLine ∧ (Same H (upd (upd Ha T0 (.tup [V.ref a1, V.ref a2])) D (.lst (acc ++ [V.bl c]))) ∧ SqT K (upd (upd Ha T0 (.tup [V.ref a1, V.ref a2])) D (.lst (acc ++ [V.bl c]))) t xs ∧ SqT K (upd (upd Ha T0 (.tup [V.ref a1, V.ref a2])) D (.lst (acc ++ [V.bl c]))) t (xs.drop 1) ∧ upd (upd Ha T0 (.tup [V.ref a1, V.ref a2])) D (.lst (acc ++ [V.bl c])) D = some (.lst (((List.zipWith riseB ps (ps.drop 1)).take (i + 1)).map V.bl))) := fun c hc => by
          refine ⟨_, hD', ?_, fun b o h => ?_, XR.tup_upd (XR.Same.tup sT h1') hD', XR.tup_upd (XR.Same.tup sT h2') hD', ?_⟩
          · rw [List.length_map, List.length_take]
            exact Nat.lt_of_le_of_lt (Nat.min_le_left _ _) (Nat.lt_of_lt_of_le i1 (Nat.le_trans hl (by decide)))
          · have hb := s1 _ _ h
            rw [upd_ne (ne_of_none hb nD)]
            exact sa _ _ h
          · rw [upd_same, List.take_add_one, hz, List.map_append, hc]
            rfl
        refine ⟨_, rfl, _, rfl, _, _, rfl, rfl, _, rfl, ?_⟩
        by_cases c1 : ps[i].1 < ps[i + 1].1
        · rw [decide_eq_true c1]
          refine iteT ⟨_, rfl, _, rfl, _, _, rfl, rfl, fin _ ?_⟩
          unfold riseB
          rw [decide_eq_true c1]
          rfl
        · rw [decide_eq_false c1]
          refine iteF (fin _ ?_)
          unfold riseB
          rw [decide_eq_false c1]
          rfl
      · rintro H' ⟨sm, _, _, hD⟩
        refine ⟨D, List.zipWith riseB ps (ps.drop 1), rfl, SqL.of ?_, z _ sm⟩
        rw [hD, List.take_of_length_le]
        rw [List.length_zipWith]
        exact Nat.min_le_right _ _
    · have hmin : (ps.drop 1).length = min xs.length (xs.drop 1).length := by rw [List.length_drop, List.length_drop, hp.1]; omega
      rw [cut_one]
      have s1 := same_upd (o := .tup (xs.drop 1)) np
      have h1 := XR.Same.tup s1 ht
      have hu : SqT K (upd H p (.tup (xs.drop 1))) p (xs.drop 1) := .inl (.inl upd_same)
      generalize upd H p (.tup (xs.drop 1)) = H1 at s1 h1 hu ⊢
      refine ⟨t, p, xs, xs.drop 1, rfl, .inr ⟨h1, hu, fun D nD => ?_⟩⟩
      have sD := same_upd (o := .lst []) nD
      refine lc_it (walk_zipT (n := (ps.drop 1).length) hmin) (fun i H' => Same H H' ∧ SqT K H' t xs ∧ SqT K H' p (xs.drop 1) ∧ H' D = some (.lst (((List.zipWith riseB ps (ps.drop 1)).take i).map V.bl))) ⟨s1.trans sD, XR.Same.tup sD h1, XR.Same.tup sD hu, upd_same⟩ (fun i H' _ hh => ⟨hh.2.1, hh.2.2.1⟩) ?_ ?_
      · rintro i x Ha Hb hi ⟨sm, h1', h2', hD⟩ ⟨T0, y1, y2, rfl, nT, rfl, e1, e2⟩
        rw [List.length_drop] at hi
        have i1 : i < ps.length := by omega
        have i2 : i + 1 < ps.length := by omega
        obtain ⟨a1, x1, k1⟩ := hp.2 i _ (List.getElem?_eq_getElem i1)
        obtain ⟨a2, x2, k2⟩ := hp.2 (i + 1) _ (List.getElem?_eq_getElem i2)
        have e2' : xs[1 + i]? = some y2 := by rw [← List.getElem?_drop]; exact e2
        rw [Nat.add_comm 1 i] at e2'
        obtain rfl : y1 = V.ref a1 := Option.some.inj (e1.symm.trans x1)
        obtain rfl : y2 = V.ref a2 := Option.some.inj (e2'.symm.trans x2)
        have sT := same_upd (o := .tup [V.ref a1, V.ref a2]) nT
        have sa := sm.trans sT
        refine ⟨T0, _, rfl, .inl (.inl upd_same), rfl, _, _, rfl, a1, _, rfl, XR.Same.tup sa k1, rfl, _, _, rfl, _, _, rfl, rfl, _, _, rfl, a2, _, rfl, XR.Same.tup sa k2, rfl, _, _, rfl, _, _, rfl, rfl, rfl, rfl, ?_⟩
        unfold tYes
        dsimp only
        rw [if_pos rfl]
        have hD' := sT _ _ hD
        have hz : (List.zipWith riseB ps (ps.drop 1))[i]? = some (riseB ps[i] ps[i + 1]) := by
          rw [List.getElem?_zipWith, List.getElem?_eq_getElem i1, List.getElem?_drop, Nat.add_comm 1 i, List.getElem?_eq_getElem i2]
        have fin : ∀ c : Bool, c = riseB ps[i] ps[i + 1] → ∃ acc, upd Ha T0 (.tup [V.ref a1, V.ref a2]) D = some (.lst acc) ∧ acc.length < sizeLine ∧ (Same H (upd (upd Ha T0 (.tup [V.ref a1, V.ref a2])) D (.lst (acc ++ [V.bl c]))) ∧ SqT K (upd (upd Ha T0 (.tup [V.ref a1, V.ref a2])) D (.lst (acc ++ [V.bl c]))) t xs ∧ SqT K (upd (upd Ha T0 (.tup [V.ref a1, V.ref a2])) D (.lst (acc ++ [V.bl c]))) p (xs.drop 1) ∧ upd (upd Ha T0 (.tup [V.ref a1, V.ref a2])) D (.lst (acc ++ [V.bl c])) D = some (.lst (((List.zipWith riseB ps (ps.drop 1)).take (i + 1)).map V.bl))) := fun c hc => by
          refine ⟨_, hD', ?_, fun b o h => ?_, XR.tup_upd (XR.Same.tup sT h1') hD', XR.tup_upd (XR.Same.tup sT h2') hD', ?_⟩
          · rw [List.length_map, List.length_take]
            exact Nat.lt_of_le_of_lt (Nat.min_le_left _ _) (Nat.lt_of_lt_of_le i1 (Nat.le_trans hl (by decide)))
          · have hb := s1 _ _ h
            rw [upd_ne (ne_of_none hb nD)]
            exact sa _ _ h
          · rw [upd_same, List.take_add_one, hz, List.map_append, hc]
            rfl
        refine ⟨_, rfl, _, rfl, _, _, rfl, rfl, _, rfl, ?_⟩
        by_cases c1 : ps[i].1 < ps[i + 1].1
        · rw [decide_eq_true c1]
          refine iteT ⟨_, rfl, _, rfl, _, _, rfl, rfl, fin _ ?_⟩
          unfold riseB
          rw [decide_eq_true c1]
          rfl
        · rw [decide_eq_false c1]
          refine iteF (fin _ ?_)
          unfold riseB
          rw [decide_eq_false c1]
          rfl
      · rintro H' ⟨sm, _, _, hD⟩
        refine ⟨D, List.zipWith riseB ps (ps.drop 1), rfl, SqL.of ?_, z _ sm⟩
        rw [hD, List.take_of_length_le]
        rw [List.length_zipWith]
        exact Nat.min_le_right _ _
end
end K17
namespace XR
open PySem L2
def strOf : PyData → Str
  | .str s => s
  | _ => ""
def strsOf (d : PyData) : List Str := (itemsOf d).map strOf
def pairOf : PyData → Int × Int
  | .tuple [.int i, .int j] => (i, j)
  | _ => (0, 0)
def isDiffB (ss1 ss2 : List Str) : PyData → Bool
  | .tuple ds => ds.all (pairOk ss1 ss2) && rising (ds.map pairOf)
  | _ => false
theorem all_line : ∀ (ds : List PyData), ds.all isLine = true → ds = (ds.map strOf).map PyData.str
  | [], _ => rfl
  | d :: ds, h => by
    rw [List.all_cons, Bool.and_eq_true] at h
    have ih := all_line ds h.2
    have e : d = PyData.str (strOf d) := by
      cases d with
      | str s => rfl
      | _ => exact absurd (show false = true from h.1) Bool.false_ne_true
    show d :: ds = PyData.str (strOf d) :: ((ds.map strOf).map PyData.str)
    rw [← ih, ← e]
theorem dq_strs {K : PySem.W.Frag} {H : Hp} : ∀ {xs : List V} {ss : List Str}, DqAll K H xs (ss.map PyData.str) → xs = ss.map V.str
  | [], [], _ => rfl
  | x :: xs, s :: ss, .cons a b => by
    have e := dq_strs (ss := ss) b
    cases a
    rw [e]
    rfl
theorem text_is {K : PySem.W.Frag} {H : Hp} {x : V} {d : PyData} (h : Dq K H x d) (e : isText d = true) : TxA K H x (strsOf d) := by
  unfold isText at e
  rw [Bool.and_eq_true, Bool.and_eq_true] at e
  obtain ⟨e1, e2, e3⟩ := e
  cases h with
  | @lst a xs ds h1 h2 =>
    have k : ds = (ds.map strOf).map PyData.str := all_line ds e3
    rw [k] at h2
    have q := dq_strs h2
    rw [q] at h1
    exact ⟨a, rfl, .inl h1⟩
  | @tup a xs ds h1 h2 =>
    have k : ds = (ds.map strOf).map PyData.str := all_line ds e3
    rw [k] at h2
    have q := dq_strs h2
    rw [q] at h1
    exact ⟨a, rfl, .inr h1⟩
  | _ => exact absurd (show false = true from e1) Bool.false_ne_true
theorem pairOk_spot {ss1 ss2 : List Str} {d : PyData} (e : pairOk ss1 ss2 d = true) : isSpot d = true := by
  cases q : isSpot d with
  | true => rfl
  | false => rw [not_spot q] at e; cases e
theorem prs_of {K : PySem.W.Frag} {H : Hp} {xs : List V} {ds : List PyData} {ss1 ss2 : List Str} (h : DqAll K H xs ds) (e : ds.all (pairOk ss1 ss2) = true) : Prs K H xs (ds.map pairOf) := by
  refine ⟨by rw [List.length_map, h.length], fun i q hq => ?_⟩
  rw [List.getElem?_map] at hq
  obtain ⟨d, hd, rfl⟩ := Option.map_eq_some_iff.mp hq
  have hi : i < xs.length := by rw [h.length]; exact (List.getElem?_eq_some_iff.mp hd).1
  obtain ⟨d', hd', hdq⟩ := h.get (List.getElem?_eq_getElem hi)
  obtain rfl : d = d' := Option.some.inj (hd.symm.trans hd')
  have ed := (List.all_eq_true.mp e) d (List.mem_of_getElem? hd)
  obtain ⟨a, i', j', e1, rfl, hs⟩ := spot_is hdq (pairOk_spot ed)
  exact ⟨a, by rw [List.getElem?_eq_getElem hi, e1], hs⟩
/-- the way out of a judge of texts -/
def BadT (C : Addr) (vs : List V) (ds : List PyData) (H : Hp) (E : XK) : Prop :=
  ∀ (i : Nat) (x : V) (d : PyData), vs[i]? = some x → ds[i]? = some d → isText d = false → (∀ d', d' ∈ ds.take i → isText d' = true) → ∀ H' dd, Same H H' → H dd = none → H' dd = some (.xd [("value", x)]) → E (.ref C) (some dd) H'
theorem BadT.none {C : Addr} {vs : List V} {ds : List PyData} {H : Hp} {E : XK} (h : ds.all isText = true) : BadT C vs ds H E := fun i x d _ hd e _ => by
  have := (List.all_eq_true.mp h) d (List.mem_of_getElem? hd)
  rw [e] at this; cases this
theorem BadT.same {C : Addr} {vs : List V} {ds : List PyData} {H H1 : Hp} {E : XK} (s : Same H H1) (h : BadT C vs ds H E) : BadT C vs ds H1 E := fun i x d a b c e H' dd s' n k => by
  refine h i x d a b c e H' dd (s.trans s') ?_ k
  cases q : H dd with
  | none => rfl
  | some o => rw [s _ _ q] at n; cases n
def spIsDiff (K : PySem.W.Frag) (CT : Addr) : Sp := fun vs H Q E => ∃ (x1 x2 v : V) (d1 d2 dv : PyData), vs = [x1, x2, v] ∧ Dq K H x1 d1 ∧ Dq K H x2 d2 ∧ Dq K H v dv ∧ (itemsOf dv).length ≤ 1000 ∧
  (isText d1 = true → isText d2 = true → ∀ H', Same H H' → Q (.bl (isDiffB (strsOf d1) (strsOf d2) dv)) H') ∧ BadT CT [x1, x2] [d1, d2] H E
end XR
namespace K17
open PySem L2 XR
abbrev sIsDiff : Stmt := top 16
section
variable {P : Program} {w : World} {K : PySem.W.Frag} {mg : Str → Option Value} {base : Heap}
theorem scIsDiff : FnScope ["old", "new", "value", "pair"] ["old", "new", "value"] (defScope sIsDiff) := ⟨rfl, rfl, rfl, by decide +kernel, rfl, by decide +kernel, by decide +kernel⟩
theorem ok_isDiff {f fC fP fR CT : Addr} {fd fdP fdR : FuncData} (F : Fun K "is_diff" "is_diff" sIsDiff f fd) (T : Blt mg)
    (GC : FnR P w K mg base (L2.CX P w) 3 fC (spCheck K CT)) (kC : PySem.W.keepIn K (.ref fC) = true) (mC : mg "check_texts" = some (.ref fC))
    (FP : Fun K "is_pair" "is_pair" sPair fP fdP) (GP : FnOk P w K mg base CX0 3 fP fdP ["old", "new", "value"] (spPair K)) (bP : Binds K fdP ["old", "new", "value"] []) (mP : mg "is_pair" = some (.ref fP))
    (FR : Fun K "is_rising" "is_rising" sRising fR fdR) (bR : Binds K fdR ["pairs"] []) (mR : mg "is_rising" = some (.ref fR)) : FnOk P w K mg base (L2.CX P w) 4 f fd ["old", "new", "value"] (spIsDiff K CT) := by
  have GR := ok_rising (P := P) (w := w) (base := base) FR T
  refine F.okX scIsDiff (fun vs H Q E h => ?_) (fun cdv A outer s H vs Q E hr h => ?_)
  · obtain ⟨x1, x2, v, d1, d2, dv, rfl, _⟩ := h
    rfl
  · obtain ⟨x1, x2, v, d1, d2, dv, rfl, t1, t2, hv, lv, z, bad⟩ := h
    refine ⟨_, pss_cons (ps_expr (pe_callR GC hr rfl mC kC (fun σ => passAt (takes_of rfl rfl rfl rfl) σ) (pa_cons (pv 0) (pa_cons (pv 1) pa_nil))))
      (pss_cons (ps_if (pt_not (pt_val (pe_callB call_isi (by rfl) T.isin (by decide +kernel) (pa_cons (pv 2) (pa_cons (pe_bltn (v := .ty "tuple") (u := .type "tuple") (by rfl) (T.all "tuple" (by decide)) (by decide +kernel) rfl) pa_nil))))) (pss_one (ps_ret pe_bl)) pss_nil)
      (pss_one (ps_ret (pe_and (pe_callB (cr_all rfl) (by rfl) (T.all "all" (by decide)) (by decide +kernel) (pa_cons (pe_lc (own := [("pair", 3)]) (g := gName 3) (tt := tYes) (te := tCall (spPair K) [] E0 (tCons (tVar 0) (tCons (tVar 1) (tCons (tVar 3) tNil)))) rfl scIsDiff.nd (pi_tup (pv 2))
          (blkOk_by (own := [("pair", 3)]) (N := ["old", "new", "value", "pair"]) (sc := defScope sIsDiff) (by decide +kernel)) (fun _ _ _ _ _ => pg_name (i := 3) scIsDiff.nd rfl (Or.inl rfl)) (fun _ _ _ _ _ => pts_nil)
          (fun _ _ _ _ _ => pe_call GP hr rfl mP FP.kp bP .nil pass0 (pa_cons (pv 0) (pa_cons (pv 1) (pa_cons (pv 3) pa_nil))))) pa_nil))
        (pe_one (pe_call GR (hr.mono (by decide)) rfl mR FR.kp bR .nil pass0 (pa_cons (pv 2) pa_nil))))))), ?_⟩
    refine ⟨_, rfl, _, rfl, [d1, d2], .cons t1 (.cons t2 .nil), by show 2 ≤ 100; decide, fun ht H1 s1 => ?_, bad⟩
    have ht1 : isText d1 = true ∧ isText d2 = true := by
      have : (isText d1 && (isText d2 && true)) = true := ht
      simpa using this
    have zz := z ht1.1 ht1.2
    refine ⟨_, rfl, v, _, _, _, _, rfl, .ty "tuple", (hv.same s1).ty, kit_ty (kit_tuple dv), _, rfl, ?_⟩
    have zz1 := zz H1 s1
    cases hv with
    | @tup a xs ds h1 h2 =>
      have tx1 := (text_is t1 ht1.1).same s1
      have tx2 := (text_is t2 ht1.2).same s1
      have h1' := XR.Same.tup s1 h1
      have lds : ds.length ≤ 1000 := lv
      refine iteF ⟨_, rfl, a, rfl, ⟨_, h1'⟩, fun D nD => ?_⟩
      have sD := same_upd (o := .lst []) nD
      refine lc_tup (K := K) (a := a) (xs := xs) (fun i H' => Same H1 H' ∧ H' D = some (.lst (((ds.take i).map (pairOk (strsOf d1) (strsOf d2))).map V.bl))) ⟨sD, upd_same⟩ (fun i H' _ hh => XR.Same.tup hh.1 h1') ?_ ?_
      · rintro i x H' hx ⟨sm, hD⟩
        obtain ⟨d, hd1, hd2⟩ := h2.get hx
        refine ⟨rfl, ?_⟩
        unfold tYes
        dsimp only
        rw [if_pos rfl]
        refine ⟨_, rfl, _, rfl, _, rfl, x1, x2, x, _, _, d, rfl, tx1.same sm, tx2.same sm, (hd2.same s1).same sm, fun H2 s2 => ⟨_, s2 _ _ hD, ?_, fun b o h => ?_, ?_⟩⟩
        · rw [List.length_map, List.length_map]
          have c3 : (ds.take i).length ≤ 1000 := by rw [List.length_take]; omega
          exact Nat.lt_of_le_of_lt c3 (by decide)
        · rw [upd_ne (ne_of_none h nD)]
          exact s2 _ _ (sm _ _ h)
        · rw [upd_same, List.take_add_one, hd1, List.map_append, List.map_append]
          rfl
      · rintro H' ⟨sm, hD⟩
        have s1' := s1.trans sm
        have zz2 := zz H' s1'
        refine ⟨D, ds.map (pairOk (strsOf d1) (strsOf d2)), rfl, SqL.of (by rw [hD, h2.length, List.take_length]), _, rfl, ?_⟩
        have e : (ds.map (pairOk (strsOf d1) (strsOf d2))).all id = ds.all (pairOk (strsOf d1) (strsOf d2)) := by rw [List.all_map]; rfl
        have ez : isDiffB (strsOf d1) (strsOf d2) (.tuple ds) = (ds.all (pairOk (strsOf d1) (strsOf d2)) && rising (ds.map pairOf)) := rfl
        rw [ez] at zz2
        rw [e]
        cases ea : ds.all (pairOk (strsOf d1) (strsOf d2)) with
        | false =>
          rw [ea] at zz2
          exact iteF zz2
        | true =>
          refine iteT ⟨_, rfl, a, xs, ds.map pairOf, rfl, XR.Same.tup sm h1', (prs_of h2 ea).same s1', by rw [List.length_map]; exact lds, fun H2 s2 => ?_⟩
          have zz3 := zz H2 (s1'.trans s2)
          rw [ez, ea] at zz3
          exact zz3
    | non => exact iteT zz1
    | bl b => exact iteT zz1
    | int i => exact iteT zz1
    | str s => exact iteT zz1
    | lst h1 h2 => exact iteT zz1
    | dct h1 h2 h3 => exact iteT zz1
end
end K17
namespace XR
open PySem L2
def tupD (q : Nat × Nat) : PyData := .tuple [.int (q.1 : Int), .int (q.2 : Int)]
def dfD (ps : List (Nat × Nat)) : PyData := .tuple (ps.map tupD)
theorem pair_ok {ss1 ss2 : List Str} {ps : List (Nat × Nat)} (h : IsDf ss1 ss2 ps) {q : Nat × Nat} (hq : q ∈ ps) : pairOk ss1 ss2 (tupD q) = true := by
  obtain ⟨a1, a2, b1, b2, s, e1, e2⟩ := h.1 q hq
  show (decide (1 ≤ (q.1 : Int)) && (decide ((q.1 : Int) ≤ ss1.length) && (decide (1 ≤ (q.2 : Int)) && (decide ((q.2 : Int) ≤ ss2.length) && decide (ss1[((q.1 : Int) - 1).toNat]? = ss2[((q.2 : Int) - 1).toNat]?))))) = true
  have z1 : ((q.1 : Int) - 1).toNat = q.1 - 1 := by omega
  have z2 : ((q.2 : Int) - 1).toNat = q.2 - 1 := by omega
  rw [z1, z2, e1, e2, decide_eq_true (show (1 : Int) ≤ (q.1 : Int) by omega), decide_eq_true (show (q.1 : Int) ≤ (ss1.length : Int) by omega), decide_eq_true (show (1 : Int) ≤ (q.2 : Int) by omega), decide_eq_true (show (q.2 : Int) ≤ (ss2.length : Int) by omega)]
  simp
theorem rise_ok : ∀ {ps : List (Nat × Nat)}, ps.Pairwise (fun x y => x.1 < y.1 ∧ x.2 < y.2) → rising ((ps.map tupD).map pairOf) = true
  | [], _ => rfl
  | [_], _ => rfl
  | p :: q :: ps, h => by
    have h2 := rise_ok (List.pairwise_cons.mp h).2
    have h1 := (List.pairwise_cons.mp h).1 q (List.mem_cons_self ..)
    have e : rising (((p :: q :: ps).map tupD).map pairOf) = (riseB (p.1, p.2) (q.1, q.2) && rising (((q :: ps).map tupD).map pairOf)) := rfl
    rw [e, h2]
    unfold riseB
    rw [decide_eq_true (show ((p.1 : Int), (p.2 : Int)).1 < ((q.1 : Int), (q.2 : Int)).1 by show (p.1 : Int) < q.1; omega), decide_eq_true (show ((p.1 : Int), (p.2 : Int)).2 < ((q.1 : Int), (q.2 : Int)).2 by show (p.2 : Int) < q.2; omega)]
    rfl
theorem df_ok {ss1 ss2 : List Str} {ps : List (Nat × Nat)} (h : IsDf ss1 ss2 ps) : isDiffB ss1 ss2 (dfD ps) = true := by
  show ((ps.map tupD).all (pairOk ss1 ss2) && rising ((ps.map tupD).map pairOf)) = true
  rw [rise_ok h.2, Bool.and_true, List.all_eq_true]
  intro d hd
  obtain ⟨q, hq, rfl⟩ := List.mem_map.mp hd
  exact pair_ok h hq
theorem df_len {ss1 ss2 : List Str} {ps : List (Nat × Nat)} (h : IsDf ss1 ss2 ps) : ps.length ≤ ss1.length := by
  have key : ∀ (ps : List (Nat × Nat)) (lo : Nat), ps.Pairwise (fun x y => x.1 < y.1 ∧ x.2 < y.2) → (∀ q, q ∈ ps → lo < q.1 ∧ q.1 ≤ ss1.length) → ps.length + lo ≤ ss1.length ∨ ps = [] := by
    intro ps
    induction ps with
    | nil => intro lo _ _; exact .inr rfl
    | cons p ps ih =>
      intro lo hp hq
      have hp2 := List.pairwise_cons.mp hp
      have q0 := hq p (List.mem_cons_self ..)
      rcases ih p.1 hp2.2 (fun q hqm => ⟨(hp2.1 q hqm).1, (hq q (List.mem_cons_of_mem _ hqm)).2⟩) with h | h
      · left; rw [List.length_cons]; omega
      · left; rw [h, List.length_cons, List.length_nil]; omega
  rcases key ps 0 h.2 (fun q hq => ⟨by have := (h.1 q hq).1; omega, (h.1 q hq).2.1⟩) with h | h
  · omega
  · rw [h]; exact Nat.zero_le _
/-- a diff as a value -/
def DfV (K : PySem.W.Frag) (H : Hp) (v : V) (ps : List (Nat × Nat)) : Prop := Dq K H v (dfD ps)
theorem DfAt.v {K : PySem.W.Frag} {H : Hp} {t : Addr} {ps : List (Nat × Nat)} (h : DfAt H t ps) : DfV K H (.ref t) ps := by
  obtain ⟨rs, h1, h2, h3⟩ := h
  have key : ∀ (rs : List Addr) (ps : List (Nat × Nat)), rs.length = ps.length → (∀ (i : Nat) (q : Nat × Nat), ps[i]? = some q → ∃ r : Addr, rs[i]? = some r ∧ H r = some (tupV q)) → DqAll K H (refs rs) (ps.map tupD) := by
    intro rs
    induction rs with
    | nil =>
      intro ps hl _
      cases ps with
      | nil => exact .nil
      | cons p ps => simp at hl
    | cons r rs ih =>
      intro ps hl hq
      cases ps with
      | nil => simp at hl
      | cons p ps =>
        obtain ⟨r', e1, e2⟩ := hq 0 p rfl
        obtain rfl : r = r' := Option.some.inj e1
        exact .cons (.tup (.inl (.inl e2)) (.cons (.int _) (.cons (.int _) .nil))) (ih ps (by simpa using hl) fun i q h => hq (i + 1) q h)
  exact .tup (.inl (.inl h1)) (key rs ps h2 h3)
theorem DfV.same {K : PySem.W.Frag} {H H' : Hp} {v : V} {ps : List (Nat × Nat)} (s : Same H H') (h : DfV K H v ps) : DfV K H' v ps := Dq.same s h
def spCheckD (K : PySem.W.Frag) (CT CD : Addr) : Sp := fun vs H Q E => ∃ (x1 x2 v : V) (d1 d2 dv : PyData), vs = [x1, x2, v] ∧ Dq K H x1 d1 ∧ Dq K H x2 d2 ∧ Dq K H v dv ∧ (itemsOf dv).length ≤ 1000 ∧
  (isText d1 = true → isText d2 = true → isDiffB (strsOf d1) (strsOf d2) dv = true → ∀ H', Same H H' → Q .non H') ∧ BadT CT [x1, x2] [d1, d2] H E ∧
  (isText d1 = true → isText d2 = true → isDiffB (strsOf d1) (strsOf d2) dv = false → ∀ H' dd, Same H H' → H dd = none → H' dd = some (.xd [("value", v)]) → E (.ref CD) (some dd) H')
end XR
namespace K17
open PySem L2 XR
abbrev sCheckD : Stmt := top 19
section
variable {P : Program} {w : World} {K : PySem.W.Frag} {mg : Str → Option Value} {base : Heap}
theorem scCheckD : FnScope ["old", "new", "diff"] ["old", "new", "diff"] (defScope sCheckD) := ⟨rfl, rfl, rfl, by decide +kernel, rfl, by decide +kernel, by decide +kernel⟩
theorem ok_checkD {f fI CT CD : Addr} {fd fdI : FuncData} (F : Fun K "check_diff" "check_diff" sCheckD f fd) (hsup : mg "super" = none) (XD : XOk P K mg "InvalidDiff" CD 1 (fvOne "value"))
    (FI : Fun K "is_diff" "is_diff" sIsDiff fI fdI) (GI : FnOk P w K mg base (L2.CX P w) 4 fI fdI ["old", "new", "value"] (spIsDiff K CT)) (bI : Binds K fdI ["old", "new", "value"] []) (mI : mg "is_diff" = some (.ref fI)) : FnOk P w K mg base (L2.CX P w) 5 f fd ["old", "new", "diff"] (spCheckD K CT CD) := by
  refine F.okX scCheckD (fun vs H Q E h => ?_) (fun cdv A outer s H vs Q E hr h => ?_)
  · obtain ⟨x1, x2, v, d1, d2, dv, rfl, _⟩ := h
    rfl
  · obtain ⟨x1, x2, v, d1, d2, dv, rfl, t1, t2, hv, lv, z, bad, zd⟩ := h
    refine ⟨_, pss_one (ps_if (pt_not (pt_val (pe_callS GI hr rfl mI FI.kp bI (fun σ => passAt (takes_of rfl rfl rfl rfl) σ) (pa_cons (pv 0) (pa_cons (pv 1) (pa_cons (pv 2) pa_nil))))))
      (pss_one (ps_raiseX rfl (takes_of rfl rfl rfl rfl) XD.mx XD.ne XD.kp (hr.mono (by decide)) hsup XD.bP XD.tP rfl XD.g (pa_cons (pv 2) pa_nil))) pss_nil), ?_⟩
    refine ⟨_, rfl, _, rfl, _, rfl, x1, x2, v, d1, d2, dv, rfl, t1, t2, hv, lv, fun e1 e2 H1 s1 => ⟨_, rfl, ?_⟩, bad⟩
    cases e3 : isDiffB (strsOf d1) (strsOf d2) dv with
    | true => exact iteF (z e1 e2 e3 H1 s1)
    | false =>
      refine iteT ⟨_, rfl, rfl, fun dd ndd => ?_⟩
      refine zd e1 e2 e3 _ dd (s1.trans (same_upd ndd)) ?_ upd_same
      cases q : H dd with
      | none => rfl
      | some o => rw [s1 _ _ q] at ndd; cases ndd
end
end K17
namespace XR
open PySem L2
/-- a text as a value -/
def TxV (K : PySem.W.Frag) (H : Hp) (x : V) (ss : List Str) : Prop := ∃ d, Dq K H x d ∧ isText d = true ∧ strsOf d = ss
theorem TxV.same {K : PySem.W.Frag} {H H' : Hp} {x : V} {ss : List Str} (s : Same H H') (h : TxV K H x ss) : TxV K H' x ss :=
  let ⟨d, a, b, c⟩ := h; ⟨d, a.same s, b, c⟩
theorem TxV.a {K : PySem.W.Frag} {H : Hp} {x : V} {ss : List Str} (h : TxV K H x ss) : TxA K H x ss := by
  obtain ⟨d, a, b, rfl⟩ := h
  exact text_is a b
theorem TxV.len {K : PySem.W.Frag} {H : Hp} {x : V} {ss : List Str} (h : TxV K H x ss) : ss.length ≤ 60 := by
  obtain ⟨d, a, b, rfl⟩ := h
  unfold isText at b
  rw [Bool.and_eq_true, Bool.and_eq_true] at b
  unfold strsOf
  rw [List.length_map]
  exact of_decide_eq_true b.2.1
theorem strs_back (ss : List Str) : (ss.map PyData.str).map strOf = ss := by
  rw [List.map_map]
  exact (List.map_congr_left fun s _ => rfl).trans (List.map_id _)
theorem lst_text {K : PySem.W.Frag} {H : Hp} {p : Addr} {ss : List Str} (h : SqL K H p (ss.map V.str)) (w : Wd ss) (l : ss.length ≤ 60) : TxV K H (.ref p) ss :=
  ⟨.list (ss.map .str), .lst h (dqStrs ss), text_ok rfl rfl w l, strs_back ss⟩
theorem tup_text {K : PySem.W.Frag} {H : Hp} {p : Addr} {ss : List Str} (h : SqT K H p (ss.map V.str)) (w : Wd ss) (l : ss.length ≤ 60) : TxV K H (.ref p) ss :=
  ⟨.tuple (ss.map .str), .tup h (dqStrs ss), text_ok rfl rfl w l, strs_back ss⟩
/-- where the pairs of a diff stand -/
theorem DfV.items {K : PySem.W.Frag} {H : Hp} {v : V} {ps : List (Nat × Nat)} (h : DfV K H v ps) : ∃ (t : Addr) (xs : List V), v = .ref t ∧ SqT K H t xs ∧ xs.length = ps.length ∧ ∀ (i : Nat) (x : V), xs[i]? = some x → ∃ (q : Nat × Nat) (r : Addr), ps[i]? = some q ∧ x = .ref r ∧ SqT K H r [.int (q.1 : Int), .int (q.2 : Int)] := by
  unfold DfV dfD at h
  cases h with
  | @tup a xs ds h1 h2 =>
    refine ⟨a, xs, rfl, h1, by rw [h2.length, List.length_map], fun i x hx => ?_⟩
    obtain ⟨d, hd, hq⟩ := h2.get hx
    rw [List.getElem?_map] at hd
    obtain ⟨q, e1, rfl⟩ := Option.map_eq_some_iff.mp hd
    unfold tupD at hq
    cases hq with
    | @tup r ys es k1 k2 =>
      obtain ⟨d1, d2, y1, y2, e3, rfl, m1, m2⟩ := k2.two rfl
      injection e3 with e3 e4
      injection e4 with e4 _
      subst e3 e4
      cases m1
      cases m2
      exact ⟨q, r, e1, rfl, k1⟩
/-- one more pair, made new and appended -/
theorem psStep {H : Hp} {D r : Addr} {rs : List Addr} {ps : List (Nat × Nat)} {q : Nat × Nat} (hD : H D = some (.lst (refs rs))) (h : PsAt H rs ps) (nr : H r = none) :
    upd H r (tupV q) D = some (.lst (refs rs)) ∧ PsAt (upd (upd H r (tupV q)) D (.lst (refs rs ++ [V.ref r]))) (rs ++ [r]) (ps ++ [q]) ∧ upd (upd H r (tupV q)) D (.lst (refs rs ++ [V.ref r])) D = some (.lst (refs (rs ++ [r]))) := by
  have s := same_upd (o := tupV q) nr
  have hD' := s _ _ hD
  refine ⟨hD', ((h.same s).snoc upd_same).updL hD', ?_⟩
  rw [upd_same]
  unfold refs
  rw [List.map_append]
  rfl
def swp (q : Nat × Nat) : Nat × Nat := (q.2, q.1)
/-- a diff turned about -/
def spAbout (K : PySem.W.Frag) : Sp := fun vs H Q _ => ∃ (x1 x2 v : V) (ss1 ss2 : List Str) (ps : List (Nat × Nat)), vs = [x1, x2, v] ∧ TxV K H x1 ss1 ∧ TxV K H x2 ss2 ∧ DfV K H v ps ∧ IsDf ss1 ss2 ps ∧
  ∀ t H', Same H H' → H t = none → DfAt H' t (ps.map swp) → Q (.ref t) H'
end XR
namespace K17
open PySem L2 XR
section
variable {P : Program} {w : World} {K : PySem.W.Frag} {mg : Str → Option Value} {base : Heap}
/-- check_diff, its facts -/
structure Chk (P : Program) (w : World) (K : PySem.W.Frag) (mg : Str → Option Value) (base : Heap) (fC CT CD : Addr) (fdC : FuncData) : Prop where
  F : Fun K "check_diff" "check_diff" sCheckD fC fdC
  G : FnOk P w K mg base (L2.CX P w) 5 fC fdC ["old", "new", "diff"] (spCheckD K CT CD)
  b : Binds K fdC ["old", "new", "diff"] []
  m : mg "check_diff" = some (.ref fC)
/-- the check of what is a diff raises nothing -/
theorem chk_ok {K : PySem.W.Frag} {CT CD : Addr} {H : Hp} {x1 x2 v : V} {ss1 ss2 : List Str} {ps : List (Nat × Nat)} {Q : VK} (t1 : TxV K H x1 ss1) (t2 : TxV K H x2 ss2) (hv : DfV K H v ps) (h : IsDf ss1 ss2 ps) (z : ∀ H', Same H H' → Q .non H') : spCheckD K CT CD [x1, x2, v] H Q E0 := by
  have l1 := t1.len
  obtain ⟨d1, a1, b1, rfl⟩ := t1
  obtain ⟨d2, a2, b2, rfl⟩ := t2
  have hl := df_len h
  refine ⟨x1, x2, v, d1, d2, dfD ps, rfl, a1, a2, hv, ?_, fun _ _ _ => z, BadT.none (by simp [b1, b2]), fun _ _ e => ?_⟩
  · show (ps.map tupD).length ≤ 1000
    rw [List.length_map]
    omega
  · rw [df_ok h] at e; cases e
end
end K17
namespace XR
open PySem L2
/-- the reading of a dict's comprehension -/
theorem dc_it {J : It} {n : Nat} {G : Hp → Prop} {Y : Nat → Hp → V → Hp → Prop} (w : Walk J n G Y) {g : TG} {tt : TT} {tk tv : TE} {vs : List Nat} {σ : St} {H1 : Hp} {D : Addr} {Qd : Hp → Prop} (Pv : Nat → Hp → Prop)
    (h0 : Pv 0 (upd H1 D (.dK []))) (hG : ∀ i H, i ≤ n → Pv i H → G H)
    (hs : ∀ i x H H', i < n → Pv i H → Y i H x H' → g x (wipe σ vs) H' fun σ2 H2 => wipe σ2 vs = wipe σ vs ∧ tt σ2 H2 fun b H3 => if b = true then tk σ2 H3 fun y H4 => tv σ2 H4 fun z H5 => ∃ kvs k, y = kV k ∧ H5 D = some (.dK kvs) ∧ kvs.length < sizeLine ∧ Pv (i + 1) (upd H5 D (.dK (putK kvs k z))) else Pv (i + 1) H3)
    (hd : ∀ H, Pv n H → Qd H) :
    ∃ W : Nat → Nat → Hp → Prop, (∃ m, W 0 m (upd H1 D (.dK []))) ∧ ∀ i m H, W i m H → (J.stop i H ∧ Qd H) ∨ (J.go i H ∧ ∃ Nx : Hp → Prop, (∀ H', Nx H' → ∃ m', m' < m ∧ W (i + 1) m' H') ∧ ∀ x H', J.yld i H x H' → g x (wipe σ vs) H' fun σ2 H2 => wipe σ2 vs = wipe σ vs ∧ tt σ2 H2 fun b H3 => if b = true then tk σ2 H3 fun y H4 => tv σ2 H4 fun z H5 => ∃ kvs k, y = kV k ∧ H5 D = some (.dK kvs) ∧ kvs.length < sizeLine ∧ Nx (upd H5 D (.dK (putK kvs k z))) else Nx H3) := by
  refine ⟨fun i m H => m = n - i ∧ i ≤ n ∧ Pv i H, ⟨n, rfl, Nat.zero_le _, h0⟩, ?_⟩
  rintro i m H ⟨rfl, hi, hp⟩
  by_cases e : i = n
  · subst e
    exact .inl ⟨w.stops H (hG _ _ (Nat.le_refl _) hp), hd H hp⟩
  · have hlt : i < n := by omega
    exact .inr ⟨w.goes i H hlt (hG _ _ hi hp), Pv (i + 1), fun H' h => ⟨n - (i + 1), by omega, rfl, by omega, h⟩, fun x H' hy => hs i x H H' hlt hp (w.yields i H x H' hlt (hG _ _ hi hp) hy)⟩
def mapK (qs : List (Nat × Nat)) : List (Key × V) := qs.map fun q => (Sum.inl (q.1 : Int), V.int (q.2 : Int))
def far (qs : List (Nat × Nat)) (j : Nat) : Option Nat := (qs.find? fun q => decide (q.1 = j)).map (·.2)
theorem valV_map : ∀ (qs : List (Nat × Nat)) (j : Nat), valV (mapK qs) (Sum.inl (j : Int)) = (far qs j).map fun k => V.int (k : Int)
  | [], j => rfl
  | q :: qs, j => by
    have ih := valV_map qs j
    unfold valV mapK far at ih ⊢
    rw [List.map_cons, List.find?_cons, List.find?_cons]
    by_cases e : q.1 = j
    · rw [e]; simp
    · have e2 : decide ((Sum.inl (q.1 : Int) : Key) = Sum.inl (j : Int)) = false := decide_eq_false fun h => e (by injection h with h; omega)
      rw [e2, decide_eq_false e]
      exact ih
theorem put_new {qs : List (Nat × Nat)} {q : Nat × Nat} (h : ∀ p, p ∈ qs → p.1 ≠ q.1) : putK (mapK qs) (Sum.inl (q.1 : Int)) (V.int (q.2 : Int)) = mapK (qs ++ [q]) := by
  have e : (mapK qs).any (fun kv => decide (kv.1 = Sum.inl (q.1 : Int))) = false := by
    rw [List.any_eq_false]
    intro kv hkv
    obtain ⟨p, hp, rfl⟩ := List.mem_map.mp hkv
    have := h p hp
    intro z
    have z2 := of_decide_eq_true z
    injection z2 with z2
    omega
  unfold putK
  rw [e]
  simp [mapK]
/-- two diffs joined -/
def joinD (ps qs : List (Nat × Nat)) : List (Nat × Nat) := ps.filterMap fun p => (far qs p.2).map fun k => (p.1, k)
theorem far_mem {qs : List (Nat × Nat)} {j k : Nat} (h : far qs j = some k) : (j, k) ∈ qs := by
  unfold far at h
  obtain ⟨q, h1, h2⟩ := Option.map_eq_some_iff.mp h
  have a := List.find?_some h1
  have b := List.mem_of_find?_eq_some h1
  have a2 : q.1 = j := of_decide_eq_true a
  have : q = (j, k) := by rw [← a2, ← h2]
  rw [← this]; exact b
theorem pair_lt {qs : List (Nat × Nat)} (h : qs.Pairwise fun x y => x.1 < y.1 ∧ x.2 < y.2) {p q : Nat × Nat} (hp : p ∈ qs) (hq : q ∈ qs) (lt : p.1 < q.1) : p.2 < q.2 := by
  induction qs with
  | nil => cases hp
  | cons a qs ih =>
    have h2 := List.pairwise_cons.mp h
    rcases List.mem_cons.mp hp with rfl | hp'
    · rcases List.mem_cons.mp hq with rfl | hq'
      · omega
      · exact (h2.1 q hq').2
    · rcases List.mem_cons.mp hq with rfl | hq'
      · have := (h2.1 p hp').1; omega
      · exact ih h2.2 hp' hq'
theorem join_mem {ps qs : List (Nat × Nat)} {x : Nat × Nat} (h : x ∈ joinD ps qs) : ∃ j, (x.1, j) ∈ ps ∧ (j, x.2) ∈ qs := by
  unfold joinD at h
  obtain ⟨p, hp, e⟩ := List.mem_filterMap.mp h
  obtain ⟨k, hk, rfl⟩ := Option.map_eq_some_iff.mp e
  exact ⟨p.2, hp, far_mem hk⟩
theorem join_df {ss1 ss2 ss3 : List Str} {ps qs : List (Nat × Nat)} (h1 : IsDf ss1 ss2 ps) (h2 : IsDf ss2 ss3 qs) : IsDf ss1 ss3 (joinD ps qs) := by
  refine ⟨fun x hx => ?_, ?_⟩
  · obtain ⟨j, hp, hq⟩ := join_mem hx
    obtain ⟨a1, a2, b1, b2, s, e1, e2⟩ := h1.1 _ hp
    obtain ⟨c1, c2, d1, d2, s', e3, e4⟩ := h2.1 _ hq
    have es : s = s' := Option.some.inj (e2.symm.trans e3)
    exact ⟨a1, a2, d1, d2, s, e1, by rw [es]; exact e4⟩
  · have key : ∀ (l : List (Nat × Nat)), l.Pairwise (fun x y => x.1 < y.1 ∧ x.2 < y.2) → (joinD l qs).Pairwise fun x y => x.1 < y.1 ∧ x.2 < y.2 := by
      intro l
      induction l with
      | nil => intro _; exact .nil
      | cons p l ih =>
        intro hl
        have hl2 := List.pairwise_cons.mp hl
        have i2 := ih hl2.2
        cases e : far qs p.2 with
        | none =>
          have e2 : joinD (p :: l) qs = joinD l qs := by unfold joinD; rw [List.filterMap_cons, e]; rfl
          rw [e2]; exact i2
        | some k =>
          have e2 : joinD (p :: l) qs = (p.1, k) :: joinD l qs := by unfold joinD; rw [List.filterMap_cons, e]; rfl
          rw [e2, List.pairwise_cons]
          refine ⟨fun y hy => ?_, i2⟩
          obtain ⟨j, hy1, hy2⟩ := join_mem hy
          have lt := hl2.1 _ hy1
          exact ⟨lt.1, pair_lt (p := (p.2, k)) (q := (j, y.2)) h2.2 (far_mem e) hy2 lt.2⟩
    exact key ps h1.2
end XR
namespace XR
open PySem L2
/-- the way out of a judge of diffs -/
def BadD (C : Addr) (v : V) (H : Hp) (E : XK) : Prop := ∀ H' dd, Same H H' → H dd = none → H' dd = some (.xd [("value", v)]) → E (.ref C) (some dd) H'
theorem BadD.same {C : Addr} {v : V} {H H1 : Hp} {E : XK} (s : Same H H1) (h : BadD C v H E) : BadD C v H1 E := fun H' dd s' n k => by
  refine h H' dd (s.trans s') ?_ k
  cases q : H dd with
  | none => rfl
  | some o => rw [s _ _ q] at n; cases n
def spJoined (K : PySem.W.Frag) (CT CD : Addr) : Sp := fun vs H Q E => ∃ (x1 x2 x3 v1 v2 : V), vs = [x1, x2, x3, v1, v2] ∧
  ((∃ (ss1 ss2 ss3 : List Str) (ps qs : List (Nat × Nat)), TxV K H x1 ss1 ∧ TxV K H x2 ss2 ∧ TxV K H x3 ss3 ∧ DfV K H v1 ps ∧ IsDf ss1 ss2 ps ∧ DfV K H v2 qs ∧ IsDf ss2 ss3 qs ∧ ∀ t H', Same H H' → H t = none → DfAt H' t (joinD ps qs) → Q (.ref t) H') ∨
   (∃ d1 d2 d3 : PyData, Dq K H x1 d1 ∧ Dq K H x2 d2 ∧ Dq K H x3 d3 ∧ ([d1, d2, d3] : List PyData).all isText = false ∧ BadT CT [x1, x2, x3] [d1, d2, d3] H E) ∨
   (∃ (ss1 ss2 ss3 : List Str) (dv : PyData), TxV K H x1 ss1 ∧ TxV K H x2 ss2 ∧ TxV K H x3 ss3 ∧ Dq K H v1 dv ∧ (itemsOf dv).length ≤ 1000 ∧ isDiffB ss1 ss2 dv = false ∧ BadD CD v1 H E) ∨
   (∃ (ss1 ss2 ss3 : List Str) (ps : List (Nat × Nat)) (dv : PyData), TxV K H x1 ss1 ∧ TxV K H x2 ss2 ∧ TxV K H x3 ss3 ∧ DfV K H v1 ps ∧ IsDf ss1 ss2 ps ∧ Dq K H v2 dv ∧ (itemsOf dv).length ≤ 1000 ∧ isDiffB ss2 ss3 dv = false ∧ BadD CD v2 H E))
theorem join_step {ps qs : List (Nat × Nat)} {i : Nat} {q : Nat × Nat} (hq : ps[i]? = some q) : joinD (ps.take (i + 1)) qs = joinD (ps.take i) qs ++ ((far qs q.2).map fun k => (q.1, k)).toList := by
  rw [List.take_add_one, hq]
  unfold joinD
  rw [List.filterMap_append]
  have e0 : List.filterMap (fun p : Nat × Nat => (far qs p.2).map fun k => (p.1, k)) (some q).toList = ((far qs q.2).map fun k => (q.1, k)).toList := by
    cases e : far qs q.2 with
    | none => simp [e]
    | some k => simp [e]
  rw [e0]
/-- the check of texts that are some -/
theorem chkT_ok {K : PySem.W.Frag} {CT : Addr} {H : Hp} {x1 x2 x3 : V} {ss1 ss2 ss3 : List Str} {Q : VK} {E : XK} (t1 : TxV K H x1 ss1) (t2 : TxV K H x2 ss2) (t3 : TxV K H x3 ss3) (z : ∀ H', Same H H' → Q .non H') : spCheck K CT [x1, x2, x3] H Q E := by
  obtain ⟨d1, a1, b1, _⟩ := t1
  obtain ⟨d2, a2, b2, _⟩ := t2
  obtain ⟨d3, a3, b3, _⟩ := t3
  exact ⟨[d1, d2, d3], .cons a1 (.cons a2 (.cons a3 .nil)), by show 3 ≤ 100; decide, fun _ => z, BadT.none (by simp [b1, b2, b3])⟩
theorem chkD_ok {K : PySem.W.Frag} {CT CD : Addr} {H : Hp} {x1 x2 v : V} {ss1 ss2 : List Str} {ps : List (Nat × Nat)} {Q : VK} {E : XK} (t1 : TxV K H x1 ss1) (t2 : TxV K H x2 ss2) (hv : DfV K H v ps) (h : IsDf ss1 ss2 ps) (z : ∀ H', Same H H' → Q .non H') : spCheckD K CT CD [x1, x2, v] H Q E := by
  have l1 := t1.len
  obtain ⟨d1, a1, b1, rfl⟩ := t1
  obtain ⟨d2, a2, b2, rfl⟩ := t2
  have hl := df_len h
  refine ⟨x1, x2, v, d1, d2, dfD ps, rfl, a1, a2, hv, ?_, fun _ _ _ => z, BadT.none (by simp [b1, b2]), fun _ _ e => ?_⟩
  · show (ps.map tupD).length ≤ 1000
    rw [List.length_map]
    omega
  · rw [df_ok h] at e; cases e
theorem chkD_bad {K : PySem.W.Frag} {CT CD : Addr} {H : Hp} {x1 x2 v : V} {ss1 ss2 : List Str} {dv : PyData} {Q : VK} {E : XK} (t1 : TxV K H x1 ss1) (t2 : TxV K H x2 ss2) (hv : Dq K H v dv) (hl : (itemsOf dv).length ≤ 1000) (e : isDiffB ss1 ss2 dv = false) (z : BadD CD v H E) : spCheckD K CT CD [x1, x2, v] H Q E := by
  obtain ⟨d1, a1, b1, rfl⟩ := t1
  obtain ⟨d2, a2, b2, rfl⟩ := t2
  refine ⟨x1, x2, v, d1, d2, dv, rfl, a1, a2, hv, hl, fun _ _ e2 => ?_, BadT.none (by simp [b1, b2]), fun _ _ _ => z⟩
  rw [e] at e2; cases e2
end XR
namespace K17
open PySem L2 XR
section
variable {P : Program} {w : World} {K : PySem.W.Frag} {mg : Str → Option Value} {base : Heap}
end
end K17
namespace XR
open PySem PySem.Spec L2 PyProof.Rows
/-- name = {k: v for ..}, the name a local of the def -/
theorem ps_setDc {X : Cx} {i : Nat} {y : Str} {py : Pos} {kx vx tg iter : Expr} {ifs : List Expr} {scope : Scope} {own : List (Str × Nat)} {pos spos : Pos} {wi : TI} {g : TG} {tt : TT} {tk tv : TE}
    (c0 : X.calm = true) (n0 : X.N.Nodup) (yi : X.N[i]? = some y) (yl : X.env.scope.names.lookup y = some .local)
    (sw : swapsWith (.DictComp kx vx [⟨tg, iter, ifs, 0⟩] scope pos) (some (.Name y py)) spos.line X.env = pure true) (wk : PI X tg iter wi) (bl : BlkOk X.N X.env.scope scope own)
    (pg : ∀ (t : Shared) (J : Hp) (B : Addr) (l : List (Str × Addr)) (f : List Addr), PG (X.blk t J scope (compEnvC scope l B X.env) f) tg g)
    (pt : ∀ (t : Shared) (J : Hp) (B : Addr) (l : List (Str × Addr)) (f : List Addr), PTs (X.blk t J scope (compEnvC scope l B X.env) f) ifs tt)
    (pk : ∀ (t : Shared) (J : Hp) (B : Addr) (l : List (Str × Addr)) (f : List Addr), PE (X.blk t J scope (compEnvC scope l B X.env) f) kx tk)
    (pw : ∀ (t : Shared) (J : Hp) (B : Addr) (l : List (Str × Addr)) (f : List Addr), PE (X.blk t J scope (compEnvC scope l B X.env) f) vx tv)
    (fs : ∀ u, foldedSetIterable iter X.env u = pure u := by intro _; rfl) :
    PS X (.Assign [.Name y py] (.DictComp kx vx [⟨tg, iter, ifs, 0⟩] scope pos) spos) (tAsg (tDc wi g tt tk tv (own.map (·.2))) (gName i)) := by
  constructor
  intro pins t σ J D I r
  rw [exec_Assign_Name_used _ _ _ _ sw]
  apply wpAny_bind
  apply wpAny_standAt
  apply wpAny_bind
  have r2 : tDc wi g tt tk tv (own.map (·.2)) σ J (fun x J1 => gName i x σ J1 D.nx) := r
  show wpAny _ X.A (comprehension (.DictComp kx vx [⟨tg, iter, ifs, 0⟩] scope pos) scope X.env (firstIterPos [⟨tg, iter, ifs, 0⟩] pos) newDict false (eval iter X.env) (some (assign (.Name y py) X.env)) >>= fun _ => pure ()) _ _ t
  apply wpAny_bind
  refine thn (dc_core (Qf := fun _ t2 => SP X pins D .next t2) c0 n0 I wk bl pg pt pk pw fs r2 ?_) fun _ t2 e => wpAny_pure (wpAny_pure e)
  intro L B t2 m J2 I2 q nb fp
  obtain ⟨w0, w1, w2, w3, w4, w5⟩ := fp
  show wpAny _ _ (assign (.Name y py) X.env (.ref L)) _ _ _
  refine wpAny_assign_Name (store_ok2 (v := V.ref L) I2 n0 yi (.inl yl) rfl ?_ (.inr yl))
  intro t3 I3 hh
  obtain ⟨b0, sb, hb⟩ := hh
  have ne : B ≠ b0 := by
    cases hb with
    | inl z => rw [z]; exact w1
    | inr z => intro e; exact w4 y b0 z e.symm
  refine ⟨m, nb.sameBut sb ne, fun h4 sb4 => ⟨_, J2, I3.turned (t' := t3.toks) (fun b o hbn e => (sb4.2 b hbn).trans e) w0 w1 w3 w4 w5, q⟩⟩
theorem sw_dc {kx vx : Expr} {gs : List Comprehension} {scope : Scope} {pos py : Pos} {y : Str} {l : Nat} {env : Env} (k0 : env.scope.kind = .function) (k1 : env.scope.names.lookup y = some .local) (k2 : (py.line == pos.line) = true)
    (k3 : (scope.names.any fun (n, k) => n == y && (k == .local || k == .cell)) = false) : swapsWith (.DictComp kx vx gs scope pos) (some (.Name y py)) l env = pure true := by
  have e1 : env.blockKind = .function := by unfold Env.blockKind; rw [k0]; rfl
  have e2 : env.kindOf y = some .local := k1
  unfold swapsWith
  simp only [e1, e2, k3, Expr.pos, k2]
  rfl
end XR
namespace XR
open PySem L2
def spWithin (K : PySem.W.Frag) : Sp := fun vs H Q _ => ∃ i lo hi : Int, vs = [.int i, .int lo, .int hi] ∧ ∀ H', Same H H' → Q (.bl (decide (lo ≤ i) && decide (i ≤ hi))) H'
def farV (ps : List (Nat × Nat)) (i : Nat) : V := match far ps i with
  | some k => .int (k : Int)
  | none => .non
def spPartner (K : PySem.W.Frag) : Sp := fun vs H Q _ => ∃ (x1 x2 v : V) (ss1 ss2 : List Str) (ps : List (Nat × Nat)) (i : Nat), vs = [x1, x2, v, .int (i : Int)] ∧ TxV K H x1 ss1 ∧ TxV K H x2 ss2 ∧ DfV K H v ps ∧ IsDf ss1 ss2 ps ∧ 1 ≤ i ∧ i ≤ ss1.length ∧
  ∀ H', Same H H' → Q (farV ps i) H'
/-- the keys of a diff are unlike -/
theorem df_dis {ss1 ss2 : List Str} {ps : List (Nat × Nat)} (h : IsDf ss1 ss2 ps) : ∀ (i : Nat) (q : Nat × Nat), ps[i]? = some q → ∀ p, p ∈ ps.take i → p.1 ≠ q.1 := fun i q hq p hp => by
  obtain ⟨k, hk⟩ := List.getElem?_of_mem hp
  rw [List.getElem?_take] at hk
  by_cases c : k < i
  · rw [if_pos c] at hk
    have l2 := (List.getElem?_eq_some_iff.mp hq).1
    have l1 := (List.getElem?_eq_some_iff.mp hk).1
    have e1 := (List.getElem?_eq_some_iff.mp hk).2
    have e2 := (List.getElem?_eq_some_iff.mp hq).2
    have := (List.pairwise_iff_getElem.mp h.2) k i l1 l2 c
    rw [e1, e2] at this
    omega
  · rw [if_neg c] at hk; cases hk
end XR
namespace K17
open PySem L2 XR
section
variable {P : Program} {w : World} {K : PySem.W.Frag} {mg : Str → Option Value} {base : Heap}
end
end K17
namespace XR
open PySem PySem.Spec PyProof.Rows HT
section
variable {prog : Program} {w : World} {A : Around} {E : Value → Shared → Prop} {s : Shared}
theorem fmCongr {α β : Type} {f g : α → Option β} : ∀ {l : List α}, (∀ x, x ∈ l → f x = g x) → l.filterMap f = l.filterMap g
  | [], _ => rfl
  | x :: l, h => by
    rw [List.filterMap_cons, List.filterMap_cons, h x (List.mem_cons_self ..), fmCongr fun y hy => h y (List.mem_cons_of_mem _ hy)]
theorem revPick (its : List Value) : ((List.range its.length).filterMap fun (m : Nat) => its.toArray[(((its.length : Int) - 1) + (m : Int) * (-1)).toNat]?).toArray = its.reverse.toArray := by
  congr 1
  have e : ∀ m, m ∈ List.range its.length → its.toArray[(((its.length : Int) - 1) + (m : Int) * (-1)).toNat]? = its.reverse[m]? := fun m hm => by
    have hm' := List.mem_range.mp hm
    rw [List.getElem?_reverse hm', show (((its.length : Int) - 1) + (m : Int) * (-1)).toNat = its.length - 1 - m by omega]
    simp
  rw [fmCongr e]
  have key : ∀ (l : List Value) (n : Nat), n ≤ l.length → (List.range n).filterMap (fun m => l[m]?) = l.take n := by
    intro l n
    induction n with
    | zero => intro _; simp
    | succ n ih =>
      intro hn
      rw [List.range_succ, List.filterMap_append, ih (by omega), List.take_add_one]
      simp [List.getElem?_eq_getElem (show n < l.length by omega)]
  rw [key its.reverse its.length (by simp), List.take_of_length_le (by simp)]
theorem getRevT {t sl : Addr} {its : List Value} {vl vu vs : Value} {Q : Value → Shared → Prop} (ht : IsTup s.heap t its.toArray) (hs : s.heap.IsSliceOf sl vl vu vs) (pl : IsPart vl none) (pu : IsPart vu none) (ps : IsPart vs (some (-1))) (hz : its.length ≤ sizeLine)
    (h : Q (.ref s.heap.objs.size) { s with heap := s.heap.push { cls := .type "tuple", data := .seq its.reverse.toArray } }) : wpAny (model prog w) A (getItem (.ref t) (.ref sl)) Q E s := by
  obtain ⟨os, a1, a2, a3⟩ := id hs
  have ty : s.TypeIs (.ref sl) "slice" := ⟨os, a1, a2⟩
  have fits : sizeOk (.seq its.reverse.toArray) := by
    show its.reverse.toArray.size ≤ sizeLine
    rw [List.size_toArray, List.length_reverse]; exact hz
  have cut : ∀ (A' : Around) (E' : Value → Shared → Prop), wpAny (model prog w) A' (Builtin.Slice.sliceApplied (.ref sl) (pure ((its.toArray.size : Nat) : Int))) (fun r s' => r = (((its.length : Int) - 1), -1, its.length) ∧ s' = s) E' s := by
    intro A' E'
    unfold Builtin.Slice.sliceApplied Builtin.Slice.sliceFields
    refine wpAny_bind (wpAny_bind (wpAny_field a1 a3 (x := vl) rfl (wpAny_bind (wpAny_field a1 a3 (x := vu) rfl (wpAny_bind (wpAny_field a1 a3 (x := vs) rfl (wpAny_pure ?_)))))))
    refine wpAny_bind (slicePart_ ps ?_)
    show wpAny _ _ (if ((-1 : Int) == 0) = true then _ else _) _ _ s
    rw [if_neg (by decide)]
    refine wpAny_bind (slicePart_ pl (wpAny_bind (slicePart_ pu (wpAny_bind (wpAny_pure (wpAny_pure ⟨?_, rfl⟩))))))
    have hp : Builtin.Slice.slicePlaces (((its.toArray.size : Nat) : Int) - 1) (-1) (-1) = its.length := by
      unfold Builtin.Slice.slicePlaces
      rw [if_neg (by decide), List.size_toArray]
      by_cases q : its.length = 0
      · rw [q]; decide
      · rw [if_pos (by omega)]
        have e1 : ((its.length : Int) - 1 - -1 - 1) / (- -1) = (its.length : Int) - 1 := by
          show ((its.length : Int) - 1 - -1 - 1) / 1 = _
          rw [Int.ediv_one]; omega
        rw [e1]; omega
    show ((((its.toArray.size : Nat) : Int) - 1), (-1 : Int), Builtin.Slice.slicePlaces (((its.toArray.size : Nat) : Int) - 1) (-1) (-1)) = _
    rw [hp, List.size_toArray]
  unfold getItem
  try with_reducible refine wpAny_holding ?_
  first | refine wpAny_bind (wpAny_pure ?_) | skip
  refine wpAny_bind (wpAny_sequenceKey ht.typeIs (by decide) ?_)
  refine wpAny_bind (wpAny_callSpecial?_slot (name := Str.ofString "__getitem__") ht.typeIs PyProof.Rows.slot_tuple_getitem (wpAny_call_entry PyProof.Rows.slot_tuple_getitem ht.typeIs entry_tuple_getitem ?_ (args_tuple_getitem _ _)))
  show wpAny _ _ (Builtin.Tuple.tupleItemsOf (.ref t) >>= _) _ _ s
  refine wpAny_bind (tupleItemsOf_ ht ?_)
  refine wpAny_bind (wpAny_typeOf ty ?_)
  rw [if_pos (by decide)]
  refine wpAny_bind (wpAny_mono (cut _ _) (fun r s' hr => ?_) fun _ _ e => e)
  obtain ⟨rfl, rfl⟩ := hr
  have no : ¬ ((((its.length : Int) - 1) == 0 && (-1 : Int) == 1 && its.length == its.toArray.size) = true) := by
    rw [show ((-1 : Int) == 1) = false from rfl, Bool.and_false, Bool.false_and]
    exact Bool.false_ne_true
  show wpAny _ _ (if (((its.length : Int) - 1) == 0 && (-1 : Int) == 1 && its.length == its.toArray.size) = true then _ else _) _ _ s'
  rw [if_neg no, revPick]
  first
    | exact wpAny_bind (m := Builtin.Tuple.tupleExact _) (wpAny_newObj_type (wpAny_pure ⟨_, rfl, wpAny_pure h⟩) fits)
    | exact wpAny_bind (m := Builtin.Tuple.tupleExact _) (wpAny_newObj_type (wpAny_bind (wpAny_pure (wpAny_pure ⟨_, rfl, wpAny_pure h⟩))) fits)
    | exact wpAny_bind (wpAny_bind (m := Builtin.Tuple.tupleExact _) (wpAny_newObj_type (wpAny_pure (wpAny_pure ⟨_, rfl, wpAny_pure h⟩)) fits))
    | exact wpAny_bind (wpAny_bind (m := Builtin.Tuple.tupleExact _) (wpAny_newObj_type (wpAny_pure ⟨_, rfl, wpAny_pure h⟩) fits))
end
/-- t[::-1], t a tuple -/
def tRevT (K : PySem.W.Frag) (te : L2.TE) : L2.TE := fun σ H Q => te σ H fun x H1 => ∃ a xs, x = .ref a ∧ L2.SqT K H1 a xs ∧ ∀ p, H1 p = none → Q (.ref p) (L2.upd H1 p (.tup xs.reverse))
open L2 in
theorem pe_revT {X : Cx} {e : Expr} {te : TE} {k : Nat} {p1 p2 p3 pos : Pos} (he : PE X e te) : PE X (.Subscript e (.Slice none none (some (.UnaryOp .USub (.Constant (.int 1) k p1) p2)) p3) pos) (tRevT X.K te) := by
  constructor
  intro pins s σ H Q I h
  refine Subscript_ (thn (he.run pins s σ H _ I h) fun v t1 hh => ?_)
  obtain ⟨x, J1, I1, r1, a, xs, rfl, hx, q⟩ := hh
  cases r1
  have back : PO X (some (.UnaryOp .USub (.Constant (.int 1) k p1) p2)) (tPart (tUn (rU fun i => .int (-i)) (tC (.int 1)))) := po_some (pe_un un_neg pe_int)
  refine wpAny_Slice (thn (po_none.run pins t1 σ J1 (fun o J => o = none ∧ J = J1) I1 ⟨rfl, rfl⟩) fun vl t2 g2 => ?_)
  obtain ⟨l, J2, I2, pl, rfl, rfl⟩ := g2
  refine thn (po_none.run pins t2 σ J2 (fun o J => o = none ∧ J = J2) I2 ⟨rfl, rfl⟩) fun vu t3 g3 => ?_
  obtain ⟨u, J3, I3, pu, rfl, rfl⟩ := g3
  refine thn (back.run pins t3 σ J3 (fun o J => o = some (-1) ∧ J = J3) I3 ⟨1, rfl, -1, rfl, rfl, rfl⟩) fun vs t4 g4 => ?_
  obtain ⟨o, J4, I4, ps, rfl, rfl⟩ := g4
  have I5 : Inv X pins σ J4 { t4 with heap := t4.heap.push { cls := .type "slice", data := .fields #[vl, vu, vs] } } := I4.kept (t' := t4.toks) fun b ob q => Heap.get?_push_of_some _ q
  obtain ⟨its, r, ht, hz⟩ := I5.tuple hx
  have hlen := r.length
  show wpAny (model X.prog X.w) X.A (subscriptTail e (.Slice none none (some (.UnaryOp .USub (.Constant (.int 1) k p1) p2)) p3) (.ref a) (.ref t4.heap.objs.size)) (EP X pins σ Q) X.xe { t4 with heap := t4.heap.push { cls := .type "slice", data := .fields #[vl, vu, vs] } }
  refine tail_any (ops := [.ref a, .ref t4.heap.objs.size]) ht.typeIs PyProof.Rows.slot_tuple_getitem.lookup ?_ (by with_unfolding_all rfl)
  refine getRevT ht (Heap.IsSliceOf.new _ vl vu vs) pl pu ps (by omega) ?_
  refine ⟨.ref _, _, I5.laid (t' := t4.toks) (o := .tup xs.reverse) (fun b ob q => Heap.get?_push_of_some _ q) (Nat.le_refl _) ?_, rfl, q _ (I5.hok.fresh (Nat.le_refl _))⟩
  exact ⟨by rw [List.length_reverse]; exact hz, _, r.reverse, IsTup.new _ _⟩
end XR
namespace XR
open PySem L2
def over (m n : Nat) (q : Nat × Nat) : Nat × Nat := (m + 1 - q.1, n + 1 - q.2)
def rLenS (K : PySem.W.Frag) : List V → Hp → VK → Prop := fun xs H Q => ∃ (p : Addr) (ys : List V), xs = [V.ref p] ∧ (SqL K H p ys ∨ SqT K H p ys) ∧ Q (V.int (ys.length : Nat)) H
/-- a diff turned over -/
def spOver (K : PySem.W.Frag) : Sp := fun vs H Q _ => ∃ (x1 x2 v : V) (ss1 ss2 : List Str) (ps : List (Nat × Nat)), vs = [x1, x2, v] ∧ TxV K H x1 ss1 ∧ TxV K H x2 ss2 ∧ DfV K H v ps ∧ IsDf ss1 ss2 ps ∧
  ∀ t H', Same H H' → H t = none → DfAt H' t (ps.reverse.map (over ss1.length ss2.length)) → Q (.ref t) H'
end XR
namespace K17
open PySem L2 XR
section
variable {P : Program} {w : World} {K : PySem.W.Frag} {mg : Str → Option Value} {base : Heap}
end
end K17
/-! Tuples whose own object is known (no instance dict), as dict(t) wants them. -/
namespace XR
open PySem PySem.Spec L2 PyProof.Rows
section
variable {X : Cx}
/-- tuple(xs) of a list, its object told -/
def rTupX (K : PySem.W.Frag) : List V → Hp → VK → Prop := fun xs H Q => ∃ (p : Addr) (ys : List V), xs = [.ref p] ∧ SqL K H p ys ∧ ∀ (l : Addr) (o : Obj), H l = none → o.cls = .type "tuple" → o.dict = none → Q (.ref l) (upd H l (.frz o (.tup ys)))
theorem call_tupleX : CallR X (.type "tuple") (rTupX X.K) := by
  intro pins s σ H xs us Q I r h
  obtain ⟨p, ys, rfl, hq, q⟩ := h
  obtain ⟨u, rfl, rx⟩ := vals1 r
  cases rx
  obtain ⟨its, r', pl, hz⟩ := I.list hq
  have hlen := r'.length
  refine call_tuple_list pl.isList (fun h' kp => ?_) (by simp only [List.size_toArray]; omega)
  have J : Inv X pins σ H { s with heap := h' } := I.kept (t' := s.toks) kp
  have atl : (h'.push { cls := .type "tuple", data := .seq its.toArray }).get? h'.objs.size = some { cls := .type "tuple", data := .seq its.toArray } := Heap.get?_push_size _ rfl
  have fin := J.laid (t' := s.toks) (h' := h'.push { cls := .type "tuple", data := .seq its.toArray }) (o := .frz { cls := .type "tuple", data := .seq its.toArray } (.tup ys)) (fun b o e => Heap.get?_push_of_some _ e) (Nat.le_refl _) ⟨atl, hz, its, r', IsTup.new _ _⟩
  exact ⟨.ref h'.objs.size, _, fin, rfl, q _ _ (J.hok.fresh (Nat.le_refl _)) rfl rfl⟩
/-- dict(t), t a tuple of pairs whose object is known -/
def rDictT (K : PySem.W.Frag) : List V → Hp → VK → Prop := fun xs H Q => ∃ (a : Addr) (o : Obj) (rs : List Addr) (kvs : List (Key × V)), xs = [.ref a] ∧ H a = some (.frz o (.tup (rs.map V.ref))) ∧ o.cls = .type "tuple" ∧ o.dict = none ∧ Paired (fun p kv => SqT K H p [kV kv.1, kv.2]) rs kvs ∧
  ∀ p, H p = none → Q (.ref p) (upd H p (.dK (mergeK [] kvs)))
theorem call_dictT (hc0 : X.calm = true) : CallR X (.type "dict") (rDictT X.K) := by
  intro pins s σ H xs us Q I r h
  obtain ⟨a, o, rs, kvs, rfl, hq, hcl, hdn, hp, q⟩ := h
  obtain ⟨u, rfl, rx⟩ := vals1 r
  cases rx
  obtain ⟨ho, hz, its, rv, o2, ho2, hc2, n2, hd2⟩ := (show ObjOk X.prog X.w H s.heap a (.frz o (.tup (rs.map V.ref))) from I.hok a _ hq)
  obtain rfl : o = o2 := Option.some.inj (ho.symm.trans ho2)
  have ei := refs_at rv
  subst ei
  rw [List.length_map] at hz
  obtain ⟨prs, rel, hl, hpr⟩ := pairs_of I hp
  -- the keys, as they stand
  have keys : ∃ ks : List Value, ks.length = prs.length ∧ ∀ (j : Nat) (p : Key × Value), prs[j]? = some p → ∃ (b : Addr) (kv : Value), ks[j]? = some kv ∧ rs[j]? = some b ∧ IsTup s.heap b #[kv, p.2] ∧ keyIs p.1 kv = true := by
    have gen : ∀ (l : List (Key × Value)) (m : Nat), (∀ (j : Nat) (p : Key × Value), l[j]? = some p → ∃ (b : Addr) (u : Value), rs[m + j]? = some b ∧ IsTup s.heap b #[u, p.2] ∧ keyIs p.1 u = true) →
        ∃ ks : List Value, ks.length = l.length ∧ ∀ (j : Nat) (p : Key × Value), l[j]? = some p → ∃ (b : Addr) (kv : Value), ks[j]? = some kv ∧ rs[m + j]? = some b ∧ IsTup s.heap b #[kv, p.2] ∧ keyIs p.1 kv = true := by
      intro l
      induction l with
      | nil => intro m _; exact ⟨[], rfl, fun j p e => by simp at e⟩
      | cons x l ih =>
        intro m hh
        obtain ⟨b, u, e1, e2, e3⟩ := hh 0 x rfl
        obtain ⟨ks, k1, k2⟩ := ih (m + 1) fun j p e => by
          obtain ⟨b, u, g1, g2, g3⟩ := hh (j + 1) p (by simpa using e)
          exact ⟨b, u, by rw [show m + 1 + j = m + (j + 1) by omega]; exact g1, g2, g3⟩
        refine ⟨u :: ks, by rw [List.length_cons, List.length_cons, k1], fun j p e => ?_⟩
        cases j with
        | zero =>
          obtain rfl : x = p := Option.some.inj e
          exact ⟨b, u, rfl, e1, e2, e3⟩
        | succ j =>
          obtain ⟨b', kv, g0, g1, g2, g3⟩ := k2 j p (by simpa using e)
          exact ⟨b', kv, by simpa using g0, by rw [show m + (j + 1) = m + 1 + j by omega]; exact g1, g2, g3⟩
    obtain ⟨ks, k1, k2⟩ := gen prs 0 fun j p e => by
      obtain ⟨b, u, g1, g2, g3⟩ := hpr j p e
      exact ⟨b, u, by rw [Nat.zero_add]; exact g1, g2, g3⟩
    exact ⟨ks, k1, fun j p e => by
      obtain ⟨b, kv, g0, g1, g2, g3⟩ := k2 j p e
      exact ⟨b, kv, g0, by rw [Nat.zero_add] at g1; exact g1, g2, g3⟩⟩
  obtain ⟨ks, hk1, hk2⟩ := keys
  have zl : (ks.zip (prs.map (·.2))).length = prs.length := by rw [List.length_zip, hk1, List.length_map, Nat.min_self]
  have zat : ∀ (j : Nat) (k v : Value), (ks.zip (prs.map (·.2)))[j]? = some (k, v) → ∃ (p : Key × Value) (b : Addr), prs[j]? = some p ∧ p.2 = v ∧ rs[j]? = some b ∧ IsTup s.heap b #[k, v] ∧ keyIs p.1 k = true := fun j k v e => by
    obtain ⟨e1, e2⟩ := List.getElem?_zip_eq_some.mp e
    rw [List.getElem?_map] at e2
    obtain ⟨p, ep, rfl⟩ := Option.map_eq_some_iff.mp e2
    obtain ⟨b, kv, g0, g1, g2, g3⟩ := hk2 j p ep
    obtain rfl : kv = k := Option.some.inj (g0.symm.trans e1)
    exact ⟨p, b, ep, rfl, g1, g2, g3⟩
  refine PySem.call_dict_pairs (knd := mixKind X.prog X.w) (kvs := prs) (PairArg.tuple a (rs.map Value.ref).toArray (fun j => rs.getD j 0) (ks.zip (prs.map (·.2)))) (I.ok.hd hc0)
    ⟨⟨o, n2, ho, hcl, hdn, hd2⟩, by rw [List.size_toArray, List.length_map, zl, hl], fun j k v e => ?_⟩ ⟨zl.symm, fun j k v e => ?_⟩ (by rw [zl, hl]; exact hz) fun h' tk hd' kp => ?_
  · obtain ⟨p, b, _, _, g1, g2, _⟩ := zat j k v e
    refine ⟨by simp [g1], .inl ?_⟩
    have eb : rs.getD j 0 = b := by rw [List.getD_eq_getElem?_getD, g1]; rfl
    show s.heap.IsTuple (rs.getD j 0) #[k, v]
    rw [eb]
    exact g2
  · obtain ⟨p, b, g0, rfl, _, _, g3⟩ := zat j k v e
    exact ⟨p.1, g0, g3⟩
  · have hm : (s.heap.objs.size == sysModules) = false := beq_eq_false_iff_ne.mpr (Nat.ne_of_gt I.big)
    have hlen : (mergeK [] kvs).length ≤ sizeLine := by
      have := length_mergeK kvs []
      rw [List.length_nil, Nat.zero_add, rel.length, hl] at this
      exact Nat.le_trans this hz
    have fin := I.laid (t' := tk) (h' := h') (o := .dK (mergeK [] kvs)) (fun b ob e => kp b ob (by simp) e) (Nat.le_refl _) ⟨hlen, hm, merged [] prs, KV.merge rel .nil, hd'⟩
    exact ⟨.ref s.heap.objs.size, _, fin, rfl, q _ (I.hok.fresh (Nat.le_refl _))⟩
end
/-- the diff at t, its object known -/
def DfX (H : Hp) (t : Addr) (ps : List (Nat × Nat)) : Prop := ∃ (o : Obj) (rs : List Addr), H t = some (.frz o (.tup (refs rs))) ∧ o.cls = .type "tuple" ∧ o.dict = none ∧ PsAt H rs ps
theorem DfX.same {H H' : Hp} {t : Addr} {ps : List (Nat × Nat)} (s : Same H H') (h : DfX H t ps) : DfX H' t ps :=
  let ⟨o, rs, h1, h2, h3, h4⟩ := h; ⟨o, rs, s _ _ h1, h2, h3, h4.same s⟩
end XR
namespace XR
open PySem L2
/-- a drawn diff, new, its object known -/
def spDiffX : Sp := fun vs H Q _ => ∃ (a p1 p2 : Addr) (ss1 ss2 : List Str), vs = [.ref a, .ref p1, .ref p2] ∧ PotAt H a ∧ H p1 = some (.lst (ss1.map V.str)) ∧ H p2 = some (.lst (ss2.map V.str)) ∧ ss1.length ≤ 60 ∧ ss2.length ≤ 60 ∧
  ∀ (t : Addr) (ps : List (Nat × Nat)) H', PotAt H' a → But a H H' → H t = none → DfX H' t ps → IsDf ss1 ss2 ps → Q (.ref t) H'
theorem DfX.v {K : PySem.W.Frag} {H : Hp} {t : Addr} {ps : List (Nat × Nat)} (h : DfX H t ps) : DfV K H (.ref t) ps := by
  obtain ⟨o, rs, h1, _, _, h2, h3⟩ := h
  have key : ∀ (rs : List Addr) (ps : List (Nat × Nat)), rs.length = ps.length → (∀ (i : Nat) (q : Nat × Nat), ps[i]? = some q → ∃ r : Addr, rs[i]? = some r ∧ H r = some (tupV q)) → DqAll K H (refs rs) (ps.map tupD) := by
    intro rs
    induction rs with
    | nil =>
      intro ps hl _
      cases ps with
      | nil => exact .nil
      | cons p ps => simp at hl
    | cons r rs ih =>
      intro ps hl hq
      cases ps with
      | nil => simp at hl
      | cons p ps =>
        obtain ⟨r', e1, e2⟩ := hq 0 p rfl
        obtain rfl : r = r' := Option.some.inj e1
        exact .cons (.tup (.inl (.inl e2)) (.cons (.int _) (.cons (.int _) .nil))) (ih ps (by simpa using hl) fun i q h => hq (i + 1) q h)
  exact .tup (.inl (.inr ⟨o, h1⟩)) (key rs ps h2 h3)
end XR
namespace K17
open PySem L2 XR
section
variable {P : Program} {w : World} {K : PySem.W.Frag} {mg : Str → Option Value} {base : Heap}
theorem ok_diffX {f fD fP : Addr} {fd fdD fdP : FuncData} (F : Fun K "_law_diff" "_law_diff" sDiff f fd) (T : Blt mg) (D : Draws P w K mg base fD fP fdD fdP) : FnOk P w K mg base CX0 3 f fd ["_law_pot_here", "_law_elder", "_law_newer"] spDiffX := by
  refine F.ok scDiff (fun vs H Q E h => ?_) (fun cdv A outer s H vs Q E hr h => ?_)
  · obtain ⟨a, p1, p2, ss1, ss2, rfl, _⟩ := h
    rfl
  · obtain ⟨a, p1, p2, ss1, ss2, rfl, hpot, hl1, hl2, l1, l2, z⟩ := h
    refine ⟨_, pss_cons (ps_par3 (i := 3) (j := 4) (l := 5) rfl scDiff.nd rfl rfl rfl (by decide) (by decide) (by decide) rfl rfl rfl (pa_cons (pe_lst pa_nil) (pa_cons pe_int (pa_cons (pe_call D.GP hr rfl D.mP D.FP.kp D.bP .nil pass0 (pa_cons (pv 0) (pa_cons (pe_lst (pa_cons pe_int (pa_cons pe_int (pa_cons pe_int pa_nil)))) pa_nil))) pa_nil))) rfl)
      (pss_cons (ps_for PassesOwn.never rfl (pi_enum (by rfl) T.enum (pa_cons (pv 1) pa_nil)) (pg_tup rfl (pgs_cons (pg_name (i := 6) scDiff.nd rfl (.inl rfl)) (pgs_cons (pg_name (i := 7) scDiff.nd rfl (.inr rfl)) pgs_nil)))
        (pss_cons (ps_set (i := 8) scDiff.nd rfl (.inl rfl) (pe_slice sl_list (pe_lc (own := [("_law_j", 9)]) (g := gName 9) (tt := tTest (tOp rEq (tOp (rIxL K) (tVar 2) (tOp (rI0 fun i j => V.int (i - j)) (tVar 9) (tC (V.int 1)))) (tVar 7))) (te := tVar 9) rfl scDiff.nd
            (pi_range2 rfl T.range (pa_cons (pe_op op_add (pv 4) pe_int) (pa_cons (pe_op op_add (pe_callB call_len_seq (by rfl) T.len PySem.boot_len (pa_cons (pv 2) pa_nil)) pe_int) pa_nil)))
            (blkOk_by (own := [("_law_j", 9)]) (N := ["_law_pot_here", "_law_elder", "_law_newer", "_law_found", "_law_last", "_law_far", "_law_k", "_law_line", "_law_some", "_law_j"]) (sc := defScope sDiff) (by decide +kernel))
            (fun _ _ _ _ _ => pg_name (i := 9) scDiff.nd rfl (Or.inl rfl)) (fun _ _ _ _ _ => pts_one (pt_cmpR op_eq (pe_ix ix_list (pv 2) (pe_op op_sub (pv 9) pe_int) (fun _ _ => rfl)) (pv 7) (nomark _))) (fun _ _ _ _ _ => pv 9)) po_none (po_some (pv 5))))
        (pss_one (ps_if (PW.pt (pw_and (pt_cmpR (op_neD hr.units) (pv 8) (pe_lst pa_nil) (nomark _)) (pw_and1 (pt_cmpR op_gt (pe_call D.GD (hr.mono (by decide)) rfl D.mD D.FD.kp D.bD .nil pass0 (pa_cons (pv 0) (pa_cons pe_int pa_nil))) pe_int (nomark _)))))
          (pss_cons (ps_set (i := 4) scDiff.nd rfl (.inl rfl) (pe_call D.GP hr rfl D.mP D.FP.kp D.bP .nil pass0 (pa_cons (pv 0) (pa_cons (pv 8) pa_nil))))
          (pss_one (ps_expr (pe_bm PySem.F.plainAttrs_list PySem.F.slot_list_append PySem.F.type_list_append mt_append (pv 3) (pa_cons (pe_tup (pa_cons (pe_op op_add (pv 6) pe_int) (pa_cons (pv 4) pa_nil))) pa_nil)))))
          pss_nil))))
      (pss_one (ps_ret (pe_callTy call_tupleX (by rfl) (T.all "tuple" (by decide)) (by decide +kernel) (pa_cons (pv 3) pa_nil))))), ?_⟩
    refine ⟨ll20 (by decide), fun pf nf => ⟨_, rfl, ll20 (by show 3 ≤ 20; decide), fun q k => ?_⟩⟩
    have s0 := same_upd (o := .lst []) nf
    have s1 := same_upd (o := .lst [V.int 1, V.int 2, V.int 60]) k
    have af := hpot.ne nf
    have aq := (hpot.same s0).ne k
    have hpf := s1 _ _ (upd_same (H := H) (a := pf) (o := .lst []))
    have hq := upd_same (H := upd H pf (.lst [])) (a := q) (o := .lst [V.int 1, V.int 2, V.int 60])
    have sm := s0.trans s1
    refine ⟨a, q, [V.int 1, V.int 2, V.int 60], rfl, hpot.same sm, hq, aq, by show 0 < 3; decide, by show 3 ≤ 1000; decide, fun x G hx hp0 b0 => ?_⟩
    generalize upd (upd H pf (.lst [])) q (.lst [V.int 1, V.int 2, V.int 60]) = G0 at sm hpf hq b0
    obtain ⟨fr, rfl, fr1⟩ : ∃ fr : Int, x = .int fr ∧ 0 ≤ fr := by
      simp only [List.mem_cons, List.not_mem_nil, or_false] at hx
      rcases hx with rfl | rfl | rfl
      · exact ⟨1, rfl, by decide⟩
      · exact ⟨2, rfl, by decide⟩
      · exact ⟨60, rfl, by decide⟩
    have bG : But a H G := fun b o h n => b0 _ _ (sm _ _ h) n
    have hpfG := b0 _ _ hpf af.symm
    clear s0 s1 k hq
    refine ⟨_, _, _, rfl, ?_⟩
    refine ⟨_, rfl, p1, _, rfl, SqL.of (bG _ _ hl1 (lst_ne hpot hl1).symm), ?_⟩
    refine for_it walk_enum (fun i σ H' => PotAt H' a ∧ But a H H' ∧ ∃ (rs : List Addr) (ps : List (Nat × Nat)) (last : Nat) (x6 x7 x8 x9 : Option V), σ = [some (V.ref a), some (V.ref p1), some (V.ref p2), some (V.ref pf), some (V.int (last : Int)), some (V.int fr), x6, x7, x8, x9] ∧
      H' pf = some (.lst (refs rs)) ∧ PsAt H' rs ps ∧ IsDf ss1 ss2 ps ∧ (∀ q, q ∈ ps → q.1 ≤ i ∧ q.2 ≤ last) ∧ last ≤ 60 ∧ ps.length ≤ i)
      ⟨hp0, bG, [], [], 0, _, _, _, _, rfl, hpfG, .nil, .nil, (fun q h => nomatch h), by decide, Nat.le_refl _⟩
      (fun i σ H' hi ⟨_, hb, _⟩ => SqL.of (hb _ _ hl1 (lst_ne hpot hl1).symm)) ?_ ?_
    · rintro i x σ Ha Hb hi ⟨hp, hb, rs, ps, last, x6, x7, x8, x9, rfl, hf, hps, hdf, hlast, last60, psl⟩ ⟨t, y1, y2, rfl, nt, rfl, hy1, hy2⟩
      cases hy1
      obtain ⟨ln, rfl, hln⟩ := str_of_map hy2
      rw [List.length_map] at hi
      have st := same_upd (o := .tup [V.int (i : Nat), V.str ln]) nt
      have hp1 := hp.same st
      have hb1 := hb.same st
      have hf1 := st _ _ hf
      have hps1 := hps.same st
      refine ⟨t, _, rfl, .inl (.inl upd_same), rfl, ?_⟩
      generalize upd Ha t (.tup [V.int (i : Nat), V.str ln]) = Hb at st hp1 hb1 hf1 hps1 ⊢
      have hl2b := hb1 _ _ hl2 (lst_ne hpot hl2).symm
      refine ⟨_, _, rfl, _, _, rfl, rfl, ?_⟩
      refine ⟨_, rfl, _, _, rfl, rfl, _, rfl, p2, _, rfl, .inl (SqL.of hl2b), _, _, rfl, rfl, ?_⟩
      rw [List.length_map]
      refine ⟨_, _, rfl, ⟨by omega, by omega, by omega, by omega⟩, fun c nc => ?_⟩
      have sc0 := same_upd (o := .lst []) nc
      refine lc_range (lo := (last : Int) + 1) (n := (((ss2.length : Nat) : Int) + 1 - ((last : Int) + 1)).toNat) (fun j H' => PotAt H' a ∧ Same Hb H' ∧ ∃ js : List Int, H' c = some (.lst (js.map V.int)) ∧ (∀ x, x ∈ js → (last : Int) < x ∧ ss2[(x - 1).toNat]? = some ln) ∧ js.length ≤ j)
        ⟨hp1.same sc0, sc0, [], upd_same, (fun x h => nomatch h), Nat.le_refl _⟩ ?_ ?_
      · rintro j H' hj ⟨hp', sm', js, hc, hjs, ljs⟩
        have hl2' := sm' _ _ hl2b
        have hlt : last + j < ss2.length := by omega
        have ei : (last : Int) + 1 + (j : Int) - 1 = ((last + j : Nat) : Int) := by omega
        refine ⟨rfl, ?_⟩
        refine ⟨_, rfl, _, rfl, _, _, rfl, rfl, p2, _, _, V.str ss2[last + j], rfl, rfl, SqL.of hl2', ?_, _, rfl, rfl, _, rfl, ?_⟩
        · rw [ei]
          exact atI_nat (by rw [List.getElem?_map, List.getElem?_eq_getElem hlt]; rfl)
        · have nc' : ∀ b o, Hb b = some o → b ≠ c := fun b o h => ne_of_none h nc
          refine ite2 (fun h1 => ?_) (fun h1 => ?_)
          · have h2 : ss2[last + j] = ln := by
              have := of_decide_eq_true h1
              injection this
            refine ⟨_, rfl, _, hc, ?_, hp'.upd (fun e => ?_), fun b o h => ?_, js ++ [(last : Int) + 1 + (j : Int)], ?_, ?_, ?_⟩
            · rw [List.length_map]
              exact Nat.lt_of_le_of_lt ljs (Nat.lt_of_lt_of_le (show j < 61 by omega) (by decide))
            · obtain ⟨x, y, e2, _⟩ := hp1
              rw [e, nc] at e2; cases e2
            · rw [upd_ne (nc' b o h)]; exact sm' _ _ h
            · rw [upd_same, List.map_append]; rfl
            · intro x hx
              rcases List.mem_append.mp hx with hx | hx
              · exact hjs x hx
              · rw [List.mem_singleton.mp hx]
                refine ⟨by omega, ?_⟩
                rw [show ((last : Int) + 1 + (j : Int) - 1).toNat = last + j by omega, List.getElem?_eq_getElem hlt, h2]
            · rw [List.length_append]; simp; omega
          · exact ⟨hp', sm', js, hc, hjs, by omega⟩
      · rintro Hd ⟨hp', sm', js, hc, hjs, ljs⟩
        refine ⟨_, rfl, fr, rfl, c, _, rfl, SqL.of hc, fun u nu => ?_⟩
        rw [cut_ints js fr1]
        have hjt : ∀ x, x ∈ js.take fr.toNat → (last : Int) < x ∧ ss2[(x - 1).toNat]? = some ln := fun x hx => hjs x (List.mem_of_mem_take hx)
        have ljt : (js.take fr.toNat).length ≤ 61 := by rw [List.length_take]; omega
        have hu := upd_same (H := Hd) (a := u) (o := .lst ((js.take fr.toNat).map V.int))
        have su := same_upd (o := .lst ((js.take fr.toNat).map V.int)) nu
        have sall := sm'.trans su
        have hpu := hp'.same su
        have au : a ≠ u := hp'.ne nu
        generalize js.take fr.toNat = jt at hjt ljt hu su sall hpu ⊢
        generalize upd Hd u (.lst (jt.map V.int)) = He at hu su sall hpu ⊢
        clear su hc nu
        refine ⟨_, rfl, ll20 (by decide), fun e1 ne1 => ?_⟩
        have se := same_upd (o := .lst []) ne1
        refine ⟨.list (jt.map .int), .list [], .lst (SqL.of (se _ _ hu)) (dpInts _), .lst (SqL.of upd_same) .nil, int_lay _, int_lay [], _, rfl, ?_⟩
        have sf := sall.trans se
        have hpf' := hpu.same se
        have huf := se _ _ hu
        generalize upd He e1 (.lst []) = Hf at sf hpf' huf ⊢
        clear se ne1 hu
        have bf := hb1.same sf
        have stay : ∀ (Hz : Hp), PotAt Hz a → But a Hf Hz → (Hz pf = some (.lst (refs rs)) ∧ PsAt Hz rs ps ∧ IsDf ss1 ss2 ps ∧ (∀ q, q ∈ ps → q.1 ≤ i + 1 ∧ q.2 ≤ last) ∧ last ≤ 60 ∧ ps.length ≤ i + 1) := fun Hz hz bz =>
          ⟨bz _ _ (sf _ _ hf1) af.symm, (hps1.same sf).but bz hpf', hdf, fun q hq => ⟨Nat.le_succ_of_le (hlast q hq).1, (hlast q hq).2⟩, last60, by omega⟩
        cases jt with
        | nil =>
          rw [show PyData.eqv (.list ([].map PyData.int)) (.list []) = true from eqv_nil0]
          exact iteF (iteF ⟨hpf', bf, rs, ps, last, _, _, _, _, rfl, stay Hf hpf' (But.refl a Hf)⟩)
        | cons j0 jt =>
          rw [show PyData.eqv (.list ((j0 :: jt).map PyData.int)) (.list []) = false from eqv_nil _ _]
          refine iteT ⟨_, rfl, a, 4, rfl, hpf', by decide, by decide, fun r Hg r0 r1 hpg bg => ⟨_, _, rfl, rfl, _, rfl, ?_⟩⟩
          have hug := bg _ _ huf au.symm
          refine ite2 (fun _ => ?_) (fun _ => ?_)
          · refine ⟨_, rfl, _, rfl, a, u, _, rfl, hpg, hug, au, by simp, by rw [List.length_map]; exact Nat.le_trans ljt (by decide), fun x Hh hx hph bh => ?_⟩
            obtain ⟨jv, hjv, rfl⟩ := List.mem_map.mp hx
            obtain ⟨jl, jm⟩ := hjt jv hjv
            obtain ⟨jn, rfl⟩ : ∃ jn : Nat, jv = (jn : Int) := ⟨jv.toNat, by omega⟩
            have bgh := bg.trans bh
            obtain ⟨st1, st2, st3, st4, st5, st6⟩ := stay Hh hph bgh
            refine ⟨_, rfl, .inl ⟨rfl, _, SqL.of st1⟩, ?_⟩
            refine ⟨_, rfl, _, _, rfl, rfl, _, rfl, ll20 (by show 2 ≤ 20; decide), fun v nv => ?_⟩
            have sv := same_upd (o := .tup [V.int ((i : Int) + 1), V.int (jn : Int)]) nv
            have hfv := sv _ _ st1
            have jlen : jn ≤ ss2.length := by
              have := (List.getElem?_eq_some_iff.mp jm).1
              omega
            refine ⟨pf, _, _, rfl, rfl, hfv, ?_, ?_⟩
            · unfold refs
              rw [List.length_map, st2.1]
              exact Nat.lt_of_le_of_lt st6 (Nat.lt_of_lt_of_le (show i + 1 < 62 by omega) (by decide))
            · have hv : upd Hh v (.tup [V.int ((i : Int) + 1), V.int (jn : Int)]) v = some (tupV (i + 1, jn)) := by
                rw [upd_same]; rfl
              have ps2 := ((st2.same sv).snoc hv).updL (ys := refs rs ++ [V.ref v]) hfv
              refine ⟨(hph.same sv).upd af, fun b o h n => ?_, rs ++ [v], ps ++ [(i + 1, jn)], jn, _, _, _, _, rfl, ?_, ps2, st3.snoc hln (by omega) ?_ (fun q hq => ⟨?_, ?_⟩), fun q hq => ?_, by omega, ?_⟩
              · have e := sv _ _ ((bf.trans bgh) b o h n)
                rw [upd_ne (fun e2 => by rw [e2, nf] at h; cases h)]
                exact e
              · rw [upd_same]
                unfold refs
                rw [List.map_append]
                rfl
              · rw [show ((jn : Int) - 1).toNat = jn - 1 by omega] at jm
                exact jm
              · have := (hlast q hq).1; omega
              · have := (hlast q hq).2; omega
              · rcases List.mem_append.mp hq with hq | hq
                · have := hlast q hq
                  exact ⟨by omega, by omega⟩
                · rw [List.mem_singleton.mp hq]
                  exact ⟨Nat.le_refl _, Nat.le_refl _⟩
              · rw [List.length_append]; simp; omega
          · exact ⟨hpg, bf.trans bg, rs, ps, last, _, _, _, _, rfl, stay Hg hpg bg⟩
    · rintro σ G' ⟨hp, hb, rs, ps, last, x6, x7, x8, x9, rfl, hf, hps, hdf, hlast, last60, psl⟩
      refine ⟨_, rfl, pf, _, rfl, SqL.of hf, fun u ob nu hcl hdn => ?_⟩
      have su := same_upd (o := .frz ob (.tup (refs rs))) nu
      exact z u ps _ (hp.same su) (hb.same su) (hb.fresh hp nu) ⟨ob, rs, upd_same, hcl, hdn, hps.same su⟩ hdf
end
end K17
namespace XR
open PySem L2
/-- lines kept, gone, come -/
def keptL (ps : List (Nat × Nat)) : List Nat := ps.map (·.1)
def outL (m : Nat) (ks : List Nat) : List Nat := ((List.range m).map (· + 1)).filter fun i => !decide (i ∈ ks)
def goneL (m : Nat) (ps : List (Nat × Nat)) : List Nat := outL m (ps.map (·.1))
def comeL (n : Nat) (ps : List (Nat × Nat)) : List Nat := outL n (ps.map (·.2))
def intsV (l : List Nat) : List V := l.map fun i : Nat => V.int (i : Int)
theorem outL_succ (k : Nat) (ks : List Nat) : outL (k + 1) ks = if k + 1 ∈ ks then outL k ks else outL k ks ++ [k + 1] := by
  unfold outL
  rw [List.range_succ, List.map_append, List.filter_append]
  by_cases h : k + 1 ∈ ks <;> simp [List.filter_cons, h]
theorem outL_len (m : Nat) (ks : List Nat) : (outL m ks).length ≤ m := by
  unfold outL
  have := List.length_filter_le (fun i => !decide (i ∈ ks)) ((List.range m).map (· + 1))
  rw [List.length_map, List.length_range] at this
  exact this
theorem intsV_flat (l : List Nat) : (intsV l).all flatV = true := List.all_eq_true.mpr fun x hx => by
  obtain ⟨i, _, rfl⟩ := List.mem_map.mp hx
  rfl
theorem inV_ints {l : List Nat} {i : Nat} : inV (.int (i : Int)) (intsV l) = decide (i ∈ l) := by
  unfold inV intsV
  rw [List.any_map]
  induction l with
  | nil => rfl
  | cons a l ih =>
    rw [List.any_cons, ih]
    have e : (eqV (V.int (a : Int)) (V.int (i : Int))) = decide (i = a) := by
      show ((a : Int) == (i : Int)) = decide (i = a)
      by_cases h : i = a
      · subst h; simp
      · rw [decide_eq_false h]; exact beq_eq_false_iff_ne.mpr (by omega)
    show (eqV (V.int (a : Int)) (V.int (i : Int)) || decide (i ∈ l)) = _
    rw [e]
    by_cases h : i = a
    · simp [h]
    · simp [h]
/-- what is told of two texts and a diff as a new list of numbers -/
def spNums (K : PySem.W.Frag) (f : Nat → Nat → List (Nat × Nat) → List Nat) : Sp := fun vs H Q _ => ∃ (x1 x2 v : V) (ss1 ss2 : List Str) (ps : List (Nat × Nat)), vs = [x1, x2, v] ∧ TxV K H x1 ss1 ∧ TxV K H x2 ss2 ∧ DfV K H v ps ∧ IsDf ss1 ss2 ps ∧
  ∀ l H', Same H H' → H l = none → H' l = some (.lst (intsV (f ss1.length ss2.length ps))) → Q (.ref l) H'
theorem none_before {H H1 : Hp} {d : Addr} (s : Same H H1) (n : H1 d = none) : H d = none := by
  cases q : H d with
  | none => rfl
  | some o => rw [s _ _ q] at n; cases n
end XR
namespace K17
open PySem L2 XR
section
variable {P : Program} {w : World} {K : PySem.W.Frag} {mg : Str → Option Value} {base : Heap}
end
end K17
namespace XR
open PySem L2
/-- the gaps: ahead of the first pair, between pairs, behind the last one -/
def gapsFrom (m n : Nat) : Nat × Nat → List (Nat × Nat) → List (Nat × Nat × Nat × Nat)
  | (a, c), [] => [(a, m, c, n)]
  | (a, c), (i, j) :: ps => (a, i - 1, c, j - 1) :: gapsFrom m n (i, j) ps
def gapsL (m n : Nat) (ps : List (Nat × Nat)) : List (Nat × Nat × Nat × Nat) := gapsFrom m n (0, 0) ps
def blocksL (m n : Nat) (ps : List (Nat × Nat)) : List (Nat × Nat × Nat × Nat) := (gapsL m n ps).filter fun b => decide (b.1 < b.2.1) || decide (b.2.2.1 < b.2.2.2)
theorem gaps_len (m n : Nat) : ∀ (ps : List (Nat × Nat)) (s : Nat × Nat), (gapsFrom m n s ps).length = ps.length + 1
  | [], _ => rfl
  | (i, j) :: ps, (a, c) => by
    show (gapsFrom m n (i, j) ps).length + 1 = _
    rw [gaps_len m n ps]; rfl
theorem gaps_at (m n : Nat) : ∀ (ps : List (Nat × Nat)) (s : Nat × Nat) (k : Nat) (b e : Nat × Nat), (s :: ps)[k]? = some b → (ps ++ [(m + 1, n + 1)])[k]? = some e → (gapsFrom m n s ps)[k]? = some (b.1, e.1 - 1, b.2, e.2 - 1)
  | [], s, 0, b, e, h1, h2 => by
    cases Option.some.inj h1
    cases Option.some.inj h2
    rfl
  | [], s, k + 1, b, e, h1, h2 => by simp at h1
  | (i, j) :: ps, s, 0, b, e, h1, h2 => by
    cases Option.some.inj h1
    cases Option.some.inj h2
    rfl
  | (i, j) :: ps, s, k + 1, b, e, h1, h2 => gaps_at m n ps (i, j) k b e h1 h2
def fourD (b : Nat × Nat × Nat × Nat) : PyData := .tuple [.int (b.1 : Int), .int (b.2.1 : Int), .int (b.2.2.1 : Int), .int (b.2.2.2 : Int)]
def fourV (b : Nat × Nat × Nat × Nat) : HO := .tup [.int (b.1 : Int), .int (b.2.1 : Int), .int (b.2.2.1 : Int), .int (b.2.2.2 : Int)]
/-- where blocks stand -/
def BsAt (H : Hp) (rs : List Addr) (bs : List (Nat × Nat × Nat × Nat)) : Prop := rs.length = bs.length ∧ ∀ (i : Nat) (b : Nat × Nat × Nat × Nat), bs[i]? = some b → ∃ r : Addr, rs[i]? = some r ∧ H r = some (fourV b)
end XR
namespace K17
open PySem L2 XR
abbrev sGaps : Stmt := top 20
section
variable {P : Program} {w : World} {K : PySem.W.Frag} {mg : Str → Option Value} {base : Heap}
end
end K17
/-! Scripts: what they say of texts and diffs. -/
namespace XR
open PySem L2
abbrev Ent := Str × Str
def kpW : Str := "keep"
def goW : Str := "go"
def coW : Str := "come"
theorem w_ne : kpW ≠ goW ∧ kpW ≠ coW ∧ goW ≠ coW := by decide
def oldL (es : List Ent) : List Str := (es.filter fun e => decide (e.1 ≠ coW)).map (·.2)
def newL (es : List Ent) : List Str := (es.filter fun e => decide (e.1 ≠ goW)).map (·.2)
/-- the pairs of what is kept, counted from i and j -/
def pairsFrom : Nat → Nat → List Ent → List (Nat × Nat)
  | _, _, [] => []
  | i, j, e :: es => if e.1 = kpW then (i + 1, j + 1) :: pairsFrom (i + 1) (j + 1) es else if e.1 = goW then pairsFrom (i + 1) j es else pairsFrom i (j + 1) es
/-- every word is one of the three -/
def Wds (es : List Ent) : Prop := ∀ e ∈ es, e.1 = kpW ∨ e.1 = goW ∨ e.1 = coW
theorem Wds.tail {e : Ent} {es : List Ent} (h : Wds (e :: es)) : Wds es := fun x hx => h x (List.mem_cons_of_mem _ hx)
theorem old_keep (s : Str) (es : List Ent) : oldL ((kpW, s) :: es) = s :: oldL es := rfl
theorem old_go (s : Str) (es : List Ent) : oldL ((goW, s) :: es) = s :: oldL es := rfl
theorem old_come (s : Str) (es : List Ent) : oldL ((coW, s) :: es) = oldL es := rfl
theorem new_keep (s : Str) (es : List Ent) : newL ((kpW, s) :: es) = s :: newL es := rfl
theorem new_go (s : Str) (es : List Ent) : newL ((goW, s) :: es) = newL es := rfl
theorem new_come (s : Str) (es : List Ent) : newL ((coW, s) :: es) = s :: newL es := rfl
theorem pr_keep (i j : Nat) (s : Str) (es : List Ent) : pairsFrom i j ((kpW, s) :: es) = (i + 1, j + 1) :: pairsFrom (i + 1) (j + 1) es := by
  rw [pairsFrom, if_pos rfl]
theorem pr_go (i j : Nat) (s : Str) (es : List Ent) : pairsFrom i j ((goW, s) :: es) = pairsFrom (i + 1) j es := by
  rw [pairsFrom, if_neg (show ¬ goW = kpW by decide), if_pos rfl]
theorem pr_come (i j : Nat) (s : Str) (es : List Ent) : pairsFrom i j ((coW, s) :: es) = pairsFrom i (j + 1) es := by
  rw [pairsFrom, if_neg (show ¬ coW = kpW by decide), if_neg (show ¬ coW = goW by decide)]
/-- a run of goings, of comings -/
def gos (ss : List Str) : List Ent := ss.map fun s => (goW, s)
def comes (ss : List Str) : List Ent := ss.map fun s => (coW, s)
def seg (ss : List Str) (a b : Nat) : List Str := (ss.drop a).take (b - a)
def scrFrom (ss1 ss2 : List Str) : Nat → Nat → List (Nat × Nat) → List Ent
  | a, c, [] => gos (seg ss1 a ss1.length) ++ comes (seg ss2 c ss2.length)
  | a, c, (i, j) :: ps => gos (seg ss1 a (i - 1)) ++ comes (seg ss2 c (j - 1)) ++ (kpW, ss1.getD (i - 1) "") :: scrFrom ss1 ss2 i j ps
def scriptL (ss1 ss2 : List Str) (ps : List (Nat × Nat)) : List Ent := scrFrom ss1 ss2 0 0 ps
/-- a diff of what is behind a and c -/
def DfFrom (ss1 ss2 : List Str) : Nat → Nat → List (Nat × Nat) → Prop
  | a, c, [] => a ≤ ss1.length ∧ c ≤ ss2.length
  | a, c, (i, j) :: ps => a < i ∧ c < j ∧ i ≤ ss1.length ∧ j ≤ ss2.length ∧ ss1[i - 1]? = ss2[j - 1]? ∧ DfFrom ss1 ss2 i j ps
theorem oldL_append (xs ys : List Ent) : oldL (xs ++ ys) = oldL xs ++ oldL ys := by unfold oldL; rw [List.filter_append, List.map_append]
theorem newL_append (xs ys : List Ent) : newL (xs ++ ys) = newL xs ++ newL ys := by unfold newL; rw [List.filter_append, List.map_append]
theorem old_gos : ∀ ss, oldL (gos ss) = ss
  | [] => rfl
  | s :: ss => by show oldL ((goW, s) :: gos ss) = _; rw [old_go, old_gos ss]
theorem old_comes : ∀ ss, oldL (comes ss) = []
  | [] => rfl
  | s :: ss => by show oldL ((coW, s) :: comes ss) = _; rw [old_come, old_comes ss]
theorem new_gos : ∀ ss, newL (gos ss) = []
  | [] => rfl
  | s :: ss => by show newL ((goW, s) :: gos ss) = _; rw [new_go, new_gos ss]
theorem new_comes : ∀ ss, newL (comes ss) = ss
  | [] => rfl
  | s :: ss => by show newL ((coW, s) :: comes ss) = _; rw [new_come, new_comes ss]
theorem seg_all (ss : List Str) (a : Nat) : seg ss a ss.length = ss.drop a := by
  unfold seg
  exact List.take_of_length_le (by rw [List.length_drop]; exact Nat.le_refl _)
theorem seg_then (ss : List Str) {a i : Nat} (h1 : a < i) (h2 : i ≤ ss.length) : seg ss a (i - 1) ++ (ss.getD (i - 1) "" :: ss.drop i) = ss.drop a := by
  unfold seg
  have e : ss.drop a = (ss.drop a).take (i - 1 - a) ++ (ss.drop a).drop (i - 1 - a) := (List.take_append_drop _ _).symm
  rw [List.drop_drop, show a + (i - 1 - a) = i - 1 by omega] at e
  have e2 : ss.drop (i - 1) = ss.getD (i - 1) "" :: ss.drop i := by
    have hlt : i - 1 < ss.length := by omega
    rw [List.drop_eq_getElem_cons hlt, show i - 1 + 1 = i by omega]
    congr 1
    simp [List.getD, hlt]
  rw [e2] at e
  exact e.symm
theorem scr_old (ss1 ss2 : List Str) : ∀ (ps : List (Nat × Nat)) (a c : Nat), DfFrom ss1 ss2 a c ps → oldL (scrFrom ss1 ss2 a c ps) = ss1.drop a
  | [], a, c, _ => by
    rw [scrFrom, oldL_append, old_gos, old_comes, List.append_nil, seg_all]
  | (i, j) :: ps, a, c, h => by
    obtain ⟨h1, h2, h3, h4, h5, h6⟩ := h
    rw [scrFrom, oldL_append, oldL_append, old_gos, old_comes, List.append_nil, old_keep, scr_old ss1 ss2 ps i j h6, seg_then ss1 h1 h3]
theorem scr_new (ss1 ss2 : List Str) : ∀ (ps : List (Nat × Nat)) (a c : Nat), DfFrom ss1 ss2 a c ps → newL (scrFrom ss1 ss2 a c ps) = ss2.drop c
  | [], a, c, _ => by
    rw [scrFrom, newL_append, new_gos, new_comes, List.nil_append, seg_all]
  | (i, j) :: ps, a, c, h => by
    obtain ⟨h1, h2, h3, h4, h5, h6⟩ := h
    rw [scrFrom, newL_append, newL_append, new_gos, new_comes, List.nil_append, new_keep, scr_new ss1 ss2 ps i j h6]
    have e : ss1.getD (i - 1) "" = ss2.getD (j - 1) "" := by rw [List.getD, List.getD, h5]
    rw [e, seg_then ss2 h2 h4]
theorem pr_gos (es : List Ent) : ∀ (ss : List Str) (i j : Nat), pairsFrom i j (gos ss ++ es) = pairsFrom (i + ss.length) j es
  | [], _, _ => rfl
  | s :: ss, i, j => by
    show pairsFrom i j ((goW, s) :: (gos ss ++ es)) = _
    rw [pr_go, pr_gos es ss, List.length_cons]
    congr 1
    omega
theorem pr_comes (es : List Ent) : ∀ (ss : List Str) (i j : Nat), pairsFrom i j (comes ss ++ es) = pairsFrom i (j + ss.length) es
  | [], _, _ => rfl
  | s :: ss, i, j => by
    show pairsFrom i j ((coW, s) :: (comes ss ++ es)) = _
    rw [pr_come, pr_comes es ss, List.length_cons]
    congr 1
    omega
theorem seg_len {ss : List Str} {a b : Nat} (h : b ≤ ss.length) : (seg ss a b).length = b - a := by
  unfold seg
  rw [List.length_take, List.length_drop]
  omega
theorem scr_pairs (ss1 ss2 : List Str) : ∀ (ps : List (Nat × Nat)) (a c : Nat), DfFrom ss1 ss2 a c ps → pairsFrom a c (scrFrom ss1 ss2 a c ps) = ps
  | [], a, c, _ => by
    rw [scrFrom, pr_gos, ← List.append_nil (comes _), pr_comes]
    rfl
  | (i, j) :: ps, a, c, h => by
    obtain ⟨h1, h2, h3, h4, h5, h6⟩ := h
    rw [scrFrom, List.append_assoc, pr_gos, pr_comes, pr_keep, seg_len (by omega), seg_len (by omega), show a + (i - 1 - a) + 1 = i by omega, show c + (j - 1 - c) + 1 = j by omega, scr_pairs ss1 ss2 ps i j h6]
end XR
namespace XR
open PySem L2
theorem drop_cons {ss : List Str} {a : Nat} {s : Str} {t : List Str} (h : ss.drop a = s :: t) : a < ss.length ∧ ss[a]? = some s ∧ ss.drop (a + 1) = t := by
  have hlt : a < ss.length := by
    rcases Nat.lt_or_ge a ss.length with c | c
    · exact c
    · rw [List.drop_of_length_le c] at h; cases h
  rw [List.drop_eq_getElem_cons hlt] at h
  injection h with h1 h2
  exact ⟨hlt, by rw [List.getElem?_eq_getElem hlt, h1], h2⟩
theorem DfFrom.mono {ss1 ss2 : List Str} {a c a' c' : Nat} {ps : List (Nat × Nat)} (h : DfFrom ss1 ss2 a' c' ps) (ha : a ≤ a') (hc : c ≤ c') : DfFrom ss1 ss2 a c ps := by
  cases ps with
  | nil => exact ⟨Nat.le_trans ha h.1, Nat.le_trans hc h.2⟩
  | cons q ps =>
    obtain ⟨i, j⟩ := q
    obtain ⟨h1, h2, h3⟩ := h
    exact ⟨Nat.lt_of_le_of_lt ha h1, Nat.lt_of_le_of_lt hc h2, h3⟩
theorem DfFrom.le {ss1 ss2 : List Str} {a c : Nat} : ∀ {ps : List (Nat × Nat)}, DfFrom ss1 ss2 a c ps → a ≤ ss1.length ∧ c ≤ ss2.length
  | [], h => h
  | (i, j) :: ps, h => ⟨by have := h.1; have := h.2.2.1; omega, by have := h.2.1; have := h.2.2.2.1; omega⟩
theorem df_pairs (ss1 ss2 : List Str) : ∀ (es : List Ent) (a c : Nat), Wds es → ss1.drop a = oldL es → ss2.drop c = newL es → a ≤ ss1.length → c ≤ ss2.length → DfFrom ss1 ss2 a c (pairsFrom a c es)
  | [], a, c, _, _, _, ha, hc => ⟨ha, hc⟩
  | (w, s) :: es, a, c, hw, h1, h2, ha, hc => by
    rcases hw (w, s) (List.mem_cons_self ..) with e | e | e
    · obtain rfl : w = kpW := e
      rw [old_keep] at h1
      rw [new_keep] at h2
      obtain ⟨q1, q2, q3⟩ := drop_cons h1
      obtain ⟨r1, r2, r3⟩ := drop_cons h2
      rw [pr_keep]
      exact ⟨Nat.lt_succ_self _, Nat.lt_succ_self _, q1, r1, by rw [Nat.add_sub_cancel, Nat.add_sub_cancel, q2, r2], df_pairs ss1 ss2 es _ _ hw.tail q3 r3 q1 r1⟩
    · obtain rfl : w = goW := e
      rw [old_go] at h1
      rw [new_go] at h2
      obtain ⟨q1, q2, q3⟩ := drop_cons h1
      rw [pr_go]
      exact (df_pairs ss1 ss2 es _ _ hw.tail q3 h2 q1 hc).mono (Nat.le_succ _) (Nat.le_refl _)
    · obtain rfl : w = coW := e
      rw [old_come] at h1
      rw [new_come] at h2
      obtain ⟨r1, r2, r3⟩ := drop_cons h2
      rw [pr_come]
      exact (df_pairs ss1 ss2 es _ _ hw.tail h1 r3 ha r1).mono (Nat.le_refl _) (Nat.le_succ _)
theorem seg_cons {ss : List Str} {a b : Nat} (h : a < b) (l : b ≤ ss.length) : seg ss a b = ss.getD a "" :: seg ss (a + 1) b := by
  unfold seg
  have hlt : a < ss.length := by omega
  rw [List.drop_eq_getElem_cons hlt, show b - a = (b - (a + 1)) + 1 by omega, List.take_succ_cons]
  congr 1
  simp [List.getD, hlt]
theorem seg_nil {ss : List Str} {a b : Nat} (h : b ≤ a) : seg ss a b = [] := by
  unfold seg
  rw [show b - a = 0 by omega, List.take_zero]
theorem scr_go {ss1 ss2 : List Str} {a c : Nat} {ps : List (Nat × Nat)} (ha : a < ss1.length) (h : DfFrom ss1 ss2 (a + 1) c ps) : scrFrom ss1 ss2 a c ps = (goW, ss1.getD a "") :: scrFrom ss1 ss2 (a + 1) c ps := by
  cases ps with
  | nil =>
    rw [scrFrom, scrFrom, seg_cons ha (Nat.le_refl _)]
    rfl
  | cons q ps =>
    obtain ⟨i, j⟩ := q
    obtain ⟨h1, h2, h3, _⟩ := h
    rw [scrFrom, scrFrom, seg_cons (show a < i - 1 by omega) (by omega)]
    rfl
/-- no going ahead of the first pair -/
def NoGo (ss1 : List Str) (a : Nat) : List (Nat × Nat) → Prop
  | [] => ss1.length ≤ a
  | (i, _) :: _ => i - 1 ≤ a
theorem scr_come {ss1 ss2 : List Str} {a c : Nat} {ps : List (Nat × Nat)} (n : NoGo ss1 a ps) (hc : c < ss2.length) (h : DfFrom ss1 ss2 a (c + 1) ps) : scrFrom ss1 ss2 a c ps = (coW, ss2.getD c "") :: scrFrom ss1 ss2 a (c + 1) ps := by
  cases ps with
  | nil =>
    rw [scrFrom, scrFrom, seg_nil n, seg_cons hc (Nat.le_refl _)]
    rfl
  | cons q ps =>
    obtain ⟨i, j⟩ := q
    obtain ⟨h1, h2, h3, h4, _⟩ := h
    rw [scrFrom, scrFrom, seg_nil n, seg_cons (show c < j - 1 by omega) (by omega)]
    rfl
theorem nogo_of {ss1 ss2 : List Str} {a c : Nat} {ps : List (Nat × Nat)} (h : DfFrom ss1 ss2 a c ps) (n : ∀ s t, scrFrom ss1 ss2 a c ps ≠ (goW, s) :: t) : NoGo ss1 a ps := by
  cases ps with
  | nil =>
    rcases Nat.lt_or_ge a ss1.length with l | l
    · refine absurd ?_ (n (ss1.getD a "") (gos (seg ss1 (a + 1) ss1.length) ++ comes (seg ss2 c ss2.length)))
      rw [scrFrom, seg_cons l (Nat.le_refl _)]
      rfl
    · exact l
  | cons q ps =>
    obtain ⟨i, j⟩ := q
    obtain ⟨h1, h2, h3, _⟩ := h
    rcases Nat.lt_or_ge a (i - 1) with l | l
    · refine absurd ?_ (n (ss1.getD a "") (gos (seg ss1 (a + 1) (i - 1)) ++ comes (seg ss2 c (j - 1)) ++ (kpW, ss1.getD (i - 1) "") :: scrFrom ss1 ss2 i j ps))
      rw [scrFrom, seg_cons l (by omega)]
      rfl
    · exact l
/-- no coming directly ahead of a going -/
def plainB : List Ent → Bool
  | [] => true
  | [_] => true
  | e :: f :: r => !(decide (e.1 = coW) && decide (f.1 = goW)) && plainB (f :: r)
theorem plain_tail {e : Ent} {es : List Ent} (h : plainB (e :: es) = true) : plainB es = true := by
  cases es with
  | nil => rfl
  | cons f r =>
    rw [plainB, Bool.and_eq_true] at h
    exact h.2
theorem plain_head {s t : Str} {es : List Ent} (h : plainB ((coW, s) :: (goW, t) :: es) = true) : False := by
  rw [plainB, Bool.and_eq_true] at h
  have h1 := h.1
  rw [decide_eq_true rfl, decide_eq_true rfl] at h1
  cases h1
theorem getD_of {ss : List Str} {a : Nat} {s : Str} (h : ss[a]? = some s) : ss.getD a "" = s := by rw [List.getD, h]; rfl
theorem scr_canon (ss1 ss2 : List Str) : ∀ (es : List Ent) (a c : Nat), Wds es → plainB es = true → ss1.drop a = oldL es → ss2.drop c = newL es → a ≤ ss1.length → c ≤ ss2.length → scrFrom ss1 ss2 a c (pairsFrom a c es) = es
  | [], a, c, _, _, h1, h2, ha, hc => by
    have e1 : ss1.length ≤ a := List.drop_eq_nil_iff.mp h1
    have e2 : ss2.length ≤ c := List.drop_eq_nil_iff.mp h2
    rw [pairsFrom, scrFrom, seg_nil e1, seg_nil e2]
    rfl
  | (w, s) :: es, a, c, hw, hp, h1, h2, ha, hc => by
    have hp' := plain_tail hp
    rcases hw (w, s) (List.mem_cons_self ..) with e | e | e
    · obtain rfl : w = kpW := e
      rw [old_keep] at h1
      rw [new_keep] at h2
      obtain ⟨q1, q2, q3⟩ := drop_cons h1
      obtain ⟨r1, r2, r3⟩ := drop_cons h2
      rw [pr_keep, scrFrom, seg_nil (by omega), seg_nil (by omega), Nat.add_sub_cancel, getD_of q2, scr_canon ss1 ss2 es _ _ hw.tail hp' q3 r3 q1 r1]
      rfl
    · obtain rfl : w = goW := e
      rw [old_go] at h1
      rw [new_go] at h2
      obtain ⟨q1, q2, q3⟩ := drop_cons h1
      rw [pr_go, scr_go q1 (df_pairs ss1 ss2 es _ _ hw.tail q3 h2 q1 hc), getD_of q2, scr_canon ss1 ss2 es _ _ hw.tail hp' q3 h2 q1 hc]
    · obtain rfl : w = coW := e
      rw [old_come] at h1
      rw [new_come] at h2
      obtain ⟨r1, r2, r3⟩ := drop_cons h2
      have ih := scr_canon ss1 ss2 es _ _ hw.tail hp' h1 r3 ha r1
      have df := df_pairs ss1 ss2 es _ _ hw.tail h1 r3 ha r1
      have ng := nogo_of df fun s' t' e => by
        rw [ih] at e
        rw [e] at hp
        exact plain_head hp
      rw [pr_come, scr_come ng r1 df, getD_of r2, ih]
theorem plain_gos (t : List Ent) : ∀ ss, plainB (gos ss ++ t) = plainB t
  | [] => rfl
  | s :: ss => by
    show plainB ((goW, s) :: (gos ss ++ t)) = _
    rw [← plain_gos t ss]
    cases gos ss ++ t with
    | nil => rfl
    | cons f r => rw [plainB, decide_eq_false (show ¬ goW = coW by decide)]; rfl
theorem plain_keep (s : Str) (t : List Ent) : plainB ((kpW, s) :: t) = plainB t := by
  cases t with
  | nil => rfl
  | cons f r => rw [plainB, decide_eq_false (show ¬ kpW = coW by decide)]; rfl
theorem plain_comes {t : List Ent} (h : ∀ s r, t ≠ (goW, s) :: r) : ∀ ss, plainB (comes ss ++ t) = plainB t
  | [] => rfl
  | s :: ss => by
    show plainB ((coW, s) :: (comes ss ++ t)) = _
    rw [← plain_comes h ss]
    cases ss with
    | nil =>
      cases t with
      | nil => rfl
      | cons f r =>
        show plainB ((coW, s) :: f :: r) = plainB (f :: r)
        have hf : ¬ f.1 = goW := fun e => h f.2 r (by rw [← e])
        rw [plainB, decide_eq_false hf, Bool.and_false]
        rfl
    | cons s' ss =>
      show plainB ((coW, s) :: (coW, s') :: (comes ss ++ t)) = plainB ((coW, s') :: (comes ss ++ t))
      rw [plainB, decide_eq_false (show ¬ coW = goW by decide), Bool.and_false]
      rfl
theorem scr_plain (ss1 ss2 : List Str) : ∀ (ps : List (Nat × Nat)) (a c : Nat), plainB (scrFrom ss1 ss2 a c ps) = true
  | [], a, c => by
    rw [scrFrom, plain_gos, ← List.append_nil (comes _), plain_comes (fun s r e => by cases e)]
    rfl
  | (i, j) :: ps, a, c => by
    rw [scrFrom, List.append_assoc, plain_gos, plain_comes (fun s r e => by injection e with e1 _; injection e1 with e2 _; exact absurd e2 (by decide)), plain_keep]
    exact scr_plain ss1 ss2 ps i j
/-- plain just where it is the script of its diff -/
theorem plain_iff {es : List Ent} (hw : Wds es) : plainB es = decide (es = scriptL (oldL es) (newL es) (pairsFrom 0 0 es)) := by
  by_cases h : plainB es = true
  · rw [h, decide_eq_true]
    exact (scr_canon _ _ es 0 0 hw h rfl rfl (Nat.zero_le _) (Nat.zero_le _)).symm
  · rw [decide_eq_false]
    · cases e : plainB es with
      | true => exact absurd e h
      | false => rfl
    · intro e
      rw [e] at h
      exact h (scr_plain _ _ _ _ _)
/-- the program's way: by the gaps -/
def gapE (ss1 ss2 : List Str) (b : Nat × Nat × Nat × Nat) : List Ent := gos (seg ss1 b.1 b.2.1) ++ comes (seg ss2 b.2.2.1 b.2.2.2) ++ (if b.2.1 < ss1.length then [(kpW, ss1.getD b.2.1 "")] else [])
theorem gaps_scr (ss1 ss2 : List Str) : ∀ (ps : List (Nat × Nat)) (a c : Nat), DfFrom ss1 ss2 a c ps → (gapsFrom ss1.length ss2.length (a, c) ps).flatMap (gapE ss1 ss2) = scrFrom ss1 ss2 a c ps
  | [], a, c, _ => by
    rw [gapsFrom, scrFrom]
    simp [gapE]
  | (i, j) :: ps, a, c, h => by
    obtain ⟨h1, h2, h3, h4, h5, h6⟩ := h
    rw [gapsFrom, scrFrom, List.flatMap_cons, gaps_scr ss1 ss2 ps i j h6]
    unfold gapE
    rw [if_pos (show i - 1 < ss1.length by omega)]
    simp
end XR
/-! enumerate(x, start=1) of a list or a tuple. -/
namespace PySem
open Sem (wp)
theorem meets_enum1 {v : Value} {o : Obj} {H : Heap → Prop} (B : Begins v o H) :
    Meets (Builtin.«enumerate.__new__» ⟨[.type "enumerate", v], []⟩) (fun _ R s => H s.heap ∧
      R (.ok (.ret (.ref (s.heap.push o).objs.size))) { s with heap := (s.heap.push o).push { cls := .type "enumerate", data := .fields #[.none, .bool false, .ref s.heap.objs.size, rawInt 0, .none, .none] } }) :=
  .of_wp fun prog w A R s h => by
    obtain ⟨hp, g, d, tk, os⟩ := s; obtain ⟨h1, h⟩ := h
    have hsub := sub_enumerate
    have q1 : ∀ {A' : Around} {E : Value → Shared → Prop} {Q : Value → Shared → Prop}, Q (.ref hp.objs.size) ⟨hp.push o, g, d, tk, os⟩ → wpAny (model prog w) A' (pyIter v) Q E ⟨hp, g, d, tk, os⟩ :=
      fun q => B.iter prog w _ _ ⟨hp, g, d, tk, os⟩ _ h1 q
    wp_walk using q1
    refine wpAny_stack_any fun st => wpAny_pure ?_
    split
    · rename_i c _ _ _ _ _
      cases (c == Value.type "enumerate")
      · wp_walk using q1
        exact ⟨_, rfl, h⟩
      · wp_walk using q1
        exact ⟨_, rfl, h⟩
    · wp_walk using q1
      exact ⟨_, rfl, h⟩
section
variable {prog : Program} {w : World} {A : Around} {E : Value → Shared → Prop} {s : Shared}
theorem call_enum1 {v : Value} {o : Obj} {H : Heap → Prop} {Q : Value → Shared → Prop} (B : Begins v o H) (h1 : H s.heap)
    (h : ∀ h', IsEnum h' (s.heap.objs.size + 1) s.heap.objs.size 0 .none → h'.get? s.heap.objs.size = some o → h'.objs.size = s.heap.objs.size + 2 →
      (∀ b o, s.heap.get? b = some o → h'.get? b = some o) → Q (.ref (s.heap.objs.size + 1)) { s with heap := h' }) :
    wpAny (model prog w) A (call (.type "enumerate") [v]) Q E s := by
  refine callType_new F.called_enumerate (by decide) (F.typeCall_enumerate_1 _) (F.newCall_enumerate_1 _) (fun obj => F.args_object_init_2 obj _) F.entry_enumerate_new
    (meets_enum1 B) ⟨h1, ?_⟩
  have hz : (s.heap.push o).objs.size = s.heap.objs.size + 1 := Heap.size_push ..
  show _ ∧ _
  rw [hz]
  have he : IsEnum ((s.heap.push o).push { cls := .type "enumerate", data := .fields #[.none, .bool false, .ref s.heap.objs.size, rawInt 0, .none, .none] }) (s.heap.objs.size + 1) s.heap.objs.size 0 .none := by
    have := Heap.get?_push_size (s.heap.push o) (o := { cls := .type "enumerate", data := .fields #[.none, .bool false, .ref s.heap.objs.size, rawInt 0, .none, .none] }) rfl
    rw [hz] at this; exact this
  refine ⟨⟨_, he, rfl⟩, h _ he (Heap.get?_push_of_some _ (Heap.get?_push_size _ B.free)) (by rw [Heap.size_push, hz]) fun b o x => Heap.get?_push_of_some _ (Heap.get?_push_of_some _ x)⟩
end
end PySem
namespace XR
open PyProof.Rows hiding St
open PySem L2
section
variable {M : Model} {A : Around} {E : Value → Shared → Prop} {s : Shared} {env : Env}
theorem callWith_typeKw {pos : Pos} {T : String} {first : List Value} {args : List (Bool × Sem Value)} {keywords : List (Option Str × Sem Value)} {Q : Value → Shared → Prop}
    (hplain : args.any (·.1) = false) (hkw : keywords.any (·.1.isNone) = false)
    (h : wpAny M A (evalArgs (.type T) true args keywords) (fun a s₁ => wpAny M A (call (.type T) (first ++ a.pos) a.kw) Q E s₁) E s) :
    wpAny M A (callWith pos (.type T) first args keywords) Q E s := by
  unfold callWith
  refine wpAny_bind (wpAny_holding (wpAny_mono h (fun a s₁ h₁ => wpAny_bind (wpAny_standAt ?_)) fun _ _ x => x))
  simp only [hplain, hkw, Bool.or_false]
  refine wpAny_bind (wpAny_pure ?_)
  exact wpAny_bind (wpAny_mono h₁ (fun r s₂ hr => wpAny_bind (wpAny_holding (wpAny_point (wpAny_pure hr)))) fun _ _ x => x)
theorem callWith_tkw {pos : Pos} {T : String} {e : Expr} {rest : List Expr} {kws : List Keyword} {Q : Value → Shared → Prop}
    (h : wpAny M A (spliced (backTo pos (starEach (e :: rest) env))) (fun vs s₁ => wpAny M A (evalAll ((backToKw pos (keywordEach kws env)).map (·.2)))
      (fun kvs s₂ => wpAny M A (call (.type T) vs (((backToKw pos (keywordEach kws env)).filterMap (·.1)).zip kvs)) Q E s₂) E s₁) E s)
    (he : backTo pos (starEach (e :: rest) env) = (false, eval e env) :: backTo pos (starEach rest env) := by rfl)
    (hplain : (backTo pos (starEach (e :: rest) env)).any (·.1) = false := by rfl)
    (hall : (backToKw pos (keywordEach kws env)).all (·.1.isSome) = true := by rfl)
    (hkw : (backToKw pos (keywordEach kws env)).any (·.1.isNone) = false := by rfl) :
    wpAny M A (callWith pos (.type T) [] (backTo pos (starEach (e :: rest) env)) (backToKw pos (keywordEach kws env))) Q E s := by
  refine callWith_typeKw hplain hkw ?_
  rw [he] at h ⊢
  exact evalArgs_kwB hall h
end
/-- a list (true) or a tuple (false) -/
def SqW (K : PySem.W.Frag) : Bool → Hp → Addr → List V → Prop
  | true => fun H a xs => SqL K H a xs
  | false => fun H a xs => SqT K H a xs
def IteW (K : PySem.W.Frag) (a : Addr) (b : Bool) (n0 : Nat) : It :=
  ⟨fun i H => ∃ (xs : List V) (x : V), SqW K b H a xs ∧ xs[i]? = some x, fun i H v H' => ∃ T x, v = .ref T ∧ H T = none ∧ H' = L2.upd H T (.tup [.int ((i + n0 : Nat) : Int), x]) ∧ ∀ xs, SqW K b H a xs → xs[i]? = some x, fun i H => ∃ xs : List V, SqW K b H a xs ∧ xs.length ≤ i⟩
section
variable {prog : Program} {w : World} {A : Around} {E : Value → Shared → Prop} {s : Shared}
theorem enum_tuple_end {e it t : Addr} {i : Int} {j : Nat} {items : Array Value} {old : Value} {Q : Option Value → Shared → Prop} (hh : A.handled = none)
    (he : IsEnum s.heap e it i old) (hit : s.heap.IsTupleIter it t j) (ht : s.heap.IsTuple t items) (hx : items[j]? = none)
    (hQ : ∀ h', Heap.ExtBut it s.heap h' → Q none { s with heap := h' }) : wpAny (model prog w) A (pyNext (.ref e)) Q E s := by
  have hT : s.TypeIs (.ref e) "enumerate" := ⟨_, he, rfl⟩
  unfold pyNext
  refine wpAny_bind (wpAny_attempt (wpAny_callSpecial?_slot (name := Str.ofString "__next__") hT F.slot_enumerate_next
    (wpAny_call_entry F.slot_enumerate_next hT F.entry_enumerate_next ?_ (F.args_enumerate_next_1 _))))
  show wpAny _ _ (field (.ref e) 2 >>= _) _ _ _
  refine wpAny_bind (wpAny_field he rfl (x := .ref it) rfl ?_)
  refine wpAny_bind (wpAny_nextOf_tuple_end hh hit ht hx fun h' x he' hx' => ?_)
  obtain ⟨o, ho, hc⟩ := hx'
  refine wpAny_bind (wpAny_isInstance (T := "StopIteration") (b := true) ⟨o, ho, hc⟩ isSubtype_stop ?_)
  exact wpAny_pure (hQ _ he')
end
section
variable {prog : Program} {w : World} {A : Around} {E : Value → Shared → Prop} {s : Shared}
theorem enum_list_end {e it t : Addr} {i : Int} {j : Nat} {items : Array Value} {old : Value} {Q : Option Value → Shared → Prop} (hh : A.handled = none)
    (he : IsEnum s.heap e it i old) (hit : s.heap.IsListIter it t j) (ht : s.heap.IsList t items) (hx : items[j]? = none)
    (hQ : ∀ h', Heap.ExtBut it s.heap h' → Q none { s with heap := h' }) : wpAny (model prog w) A (pyNext (.ref e)) Q E s := by
  have hT : s.TypeIs (.ref e) "enumerate" := ⟨_, he, rfl⟩
  unfold pyNext
  refine wpAny_bind (wpAny_attempt (wpAny_callSpecial?_slot (name := Str.ofString "__next__") hT F.slot_enumerate_next
    (wpAny_call_entry F.slot_enumerate_next hT F.entry_enumerate_next ?_ (F.args_enumerate_next_1 _))))
  show wpAny _ _ (field (.ref e) 2 >>= _) _ _ _
  refine wpAny_bind (wpAny_field he rfl (x := .ref it) rfl ?_)
  refine wpAny_bind (wpAny_nextOf_list_end hh hit ht hx fun h' x he' hx' => ?_)
  obtain ⟨o, ho, hc⟩ := hx'
  refine wpAny_bind (wpAny_isInstance (T := "StopIteration") (b := true) ⟨o, ho, hc⟩ isSubtype_stop ?_)
  exact wpAny_pure (hQ _ he')
end
theorem turn_enumL1 {P : Program} {w : World} {K : PySem.W.Frag} {elts : List Expr} {kk : Nat} {tpos : Pos} {n0 : Nat} (a e it : Addr) :
    Turn P w K (.Tuple elts kk tpos) (IteW K a true n0) [e, it] e (fun i h => (∃ old, IsEnum h e it ((i + n0 : Nat) : Int) old) ∧ h.IsListIter it a i ∧ e ≠ it ∧ e ≠ a ∧ a ≠ it) where
  mem := by simp
  obj := fun i h st b hb => by
    obtain ⟨⟨old, he⟩, ⟨o, ho, hc, hd⟩, _⟩ := st
    have e' : b = e ∨ b = it := by simpa using hb
    rcases e' with z | z
    · rw [z]; exact ⟨_, he, fun v q => nomatch q⟩
    · rw [z]; exact ⟨o, ho, fun v q => by rw [hd] at q; cases q⟩
  keep := fun i h h' st k => let ⟨⟨old, he⟩, hi, hne⟩ := st; ⟨⟨old, k e (by simp) _ he⟩, hi.at fun o q => k it (by simp) o q, hne⟩
  item := by
    intro X hP hw hK hc i pins s σ H E I hf st hg
    subst hP hw hK
    obtain ⟨⟨old, he⟩, hit, hne, hea, hai⟩ := st
    obtain ⟨xs, x, hq, hx⟩ := hg
    have hq : SqL X.K H a xs := hq
    obtain ⟨its, rv, p, hz⟩ := I.list hq
    have p' : s.heap.IsList a its.toArray := p.isList
    obtain ⟨u, hu, ru⟩ := rv.get hx
    have hel : e < s.heap.objs.size := Heap.lt_size he
    have hil : it < s.heap.objs.size := by obtain ⟨_, q, _⟩ := hit; exact Heap.lt_size q
    have hlt : i < its.toArray.size := by
      have := (List.getElem?_eq_some_iff.mp hu).1
      simpa using this
    refine wpAny_pyNext_enum_itemC (Draws.list (A := X.A.in1) (I.ok.hd hc) it a hai its.toArray) he ⟨hit, p'⟩ hlt hne (by simp [hne, hea]) fun u' h' tk hu' ho hst' hT hsz hk => ?_
    obtain ⟨hit', _⟩ := hst'
    have eu : u' = u := by
      have h1 : its[i]? = some u' := by simpa using hu'
      rw [hu] at h1
      exact (Option.some.inj h1).symm
    subst eu
    refine ⟨_, rfl, wpAny_letOwnedTupleGo_enum (s := { s with heap := h', toks := tk + 1 }) ho fun h'' he' sb => ?_⟩
    have hT2 : h''.get? s.heap.objs.size = some { cls := .type "tuple", data := .seq #[.int ((i + n0 : Nat) : Int) tk, u'] } := (sb.2 _ (Nat.ne_of_gt hel)).trans hT
    have new : ObjOk X.prog X.w (L2.upd H s.heap.objs.size (.tup [.int ((i + n0 : Nat) : Int), x])) h'' s.heap.objs.size (.tup [.int ((i + n0 : Nat) : Int), x]) :=
      ⟨by show 2 ≤ sizeLine; decide, [.int ((i + n0 : Nat) : Int) tk, u'], .cons ⟨_, rfl⟩ (.cons ru .nil), ⟨_, hT2, rfl, _, rfl⟩⟩
    have I1 : Inv X pins σ (L2.upd H s.heap.objs.size (.tup [.int ((i + n0 : Nat) : Int), x])) { s with heap := h'', toks := tk + 1 } :=
      I.turnedNew (ch := [e, it]) (fun b ob hb q => (sb.2 b (fun z => hb (by simp [z]))).trans (hk b ob (fun z => hb (by simp [z])) (fun z => hb (by simp [z])) q)) hf (Nat.le_refl _) new
    refine ⟨.ref s.heap.objs.size, _, I1, rfl, ⟨_, x, rfl, I.hok.fresh (Nat.le_refl _), rfl, fun ys hy => by rw [I.list_inj hy hq]; exact hx⟩, ⟨⟨u', ?_⟩, hit'.at fun o q => (sb.2 it (Ne.symm hne)).trans q, hne, hea, hai⟩, fun b hb => ?_⟩
    · have e1 : ((i + 1 + n0 : Nat) : Int) = ((i + n0 : Nat) : Int) + 1 := by omega
      rw [e1]; exact he'
    · have hb' : b < s.heap.objs.size := by
        have e' : b = e ∨ b = it := by simpa using hb
        rcases e' with z | z
        · rw [z]; exact hel
        · rw [z]; exact hil
      rw [upd_ne (Nat.ne_of_lt hb')]
      exact (hf b hb).1
  done := by
    intro X hP hw hK hc i pins s σ H E I hf st hg
    subst hP hw hK
    obtain ⟨⟨old, he⟩, hit, hne⟩ := st
    obtain ⟨xs, hq, hx⟩ := hg
    have hq : SqL X.K H a xs := hq
    obtain ⟨its, rv, p, hz⟩ := I.list hq
    obtain ⟨f0, f1, f2, f3, f4, f5⟩ := hf it (by simp)
    have hl := rv.length
    exact enum_list_end (I.ok.hd hc) he hit p.isList (by simp; omega) fun h' eb => ⟨rfl, I.turned (t' := s.toks) (fun b o hb q => eb b o hb q) f0 f1 f3 f4 f5⟩
  self := fun A i s Q E st h => let ⟨⟨_, he⟩, _⟩ := st; wpAny_pyIter_enum he h
theorem turn_enumT1 {P : Program} {w : World} {K : PySem.W.Frag} {elts : List Expr} {kk : Nat} {tpos : Pos} {n0 : Nat} (a e it : Addr) :
    Turn P w K (.Tuple elts kk tpos) (IteW K a false n0) [e, it] e (fun i h => (∃ old, IsEnum h e it ((i + n0 : Nat) : Int) old) ∧ h.IsTupleIter it a i ∧ e ≠ it ∧ e ≠ a ∧ a ≠ it) where
  mem := by simp
  obj := fun i h st b hb => by
    obtain ⟨⟨old, he⟩, ⟨o, ho, hc, hd⟩, _⟩ := st
    have e' : b = e ∨ b = it := by simpa using hb
    rcases e' with z | z
    · rw [z]; exact ⟨_, he, fun v q => nomatch q⟩
    · rw [z]; exact ⟨o, ho, fun v q => by rw [hd] at q; cases q⟩
  keep := fun i h h' st k => let ⟨⟨old, he⟩, hi, hne⟩ := st; ⟨⟨old, k e (by simp) _ he⟩, hi.at fun o q => k it (by simp) o q, hne⟩
  item := by
    intro X hP hw hK hc i pins s σ H E I hf st hg
    subst hP hw hK
    obtain ⟨⟨old, he⟩, hit, hne, hea, hai⟩ := st
    obtain ⟨xs, x, hq, hx⟩ := hg
    have hq : SqT X.K H a xs := hq
    obtain ⟨its, rv, p, hz⟩ := I.tuple hq
    have p' : s.heap.IsTuple a its.toArray := p
    obtain ⟨u, hu, ru⟩ := rv.get hx
    have hel : e < s.heap.objs.size := Heap.lt_size he
    have hil : it < s.heap.objs.size := by obtain ⟨_, q, _⟩ := hit; exact Heap.lt_size q
    have hlt : i < its.toArray.size := by
      have := (List.getElem?_eq_some_iff.mp hu).1
      simpa using this
    refine wpAny_pyNext_enum_itemC (Draws.tuple (A := X.A.in1) (I.ok.hd hc) it a hai its.toArray) he ⟨hit, p'⟩ hlt hne (by simp [hne, hea]) fun u' h' tk hu' ho hst' hT hsz hk => ?_
    obtain ⟨hit', _⟩ := hst'
    have eu : u' = u := by
      have h1 : its[i]? = some u' := by simpa using hu'
      rw [hu] at h1
      exact (Option.some.inj h1).symm
    subst eu
    refine ⟨_, rfl, wpAny_letOwnedTupleGo_enum (s := { s with heap := h', toks := tk + 1 }) ho fun h'' he' sb => ?_⟩
    have hT2 : h''.get? s.heap.objs.size = some { cls := .type "tuple", data := .seq #[.int ((i + n0 : Nat) : Int) tk, u'] } := (sb.2 _ (Nat.ne_of_gt hel)).trans hT
    have new : ObjOk X.prog X.w (L2.upd H s.heap.objs.size (.tup [.int ((i + n0 : Nat) : Int), x])) h'' s.heap.objs.size (.tup [.int ((i + n0 : Nat) : Int), x]) :=
      ⟨by show 2 ≤ sizeLine; decide, [.int ((i + n0 : Nat) : Int) tk, u'], .cons ⟨_, rfl⟩ (.cons ru .nil), ⟨_, hT2, rfl, _, rfl⟩⟩
    have I1 : Inv X pins σ (L2.upd H s.heap.objs.size (.tup [.int ((i + n0 : Nat) : Int), x])) { s with heap := h'', toks := tk + 1 } :=
      I.turnedNew (ch := [e, it]) (fun b ob hb q => (sb.2 b (fun z => hb (by simp [z]))).trans (hk b ob (fun z => hb (by simp [z])) (fun z => hb (by simp [z])) q)) hf (Nat.le_refl _) new
    refine ⟨.ref s.heap.objs.size, _, I1, rfl, ⟨_, x, rfl, I.hok.fresh (Nat.le_refl _), rfl, fun ys hy => by rw [I.tuple_inj hy hq]; exact hx⟩, ⟨⟨u', ?_⟩, hit'.at fun o q => (sb.2 it (Ne.symm hne)).trans q, hne, hea, hai⟩, fun b hb => ?_⟩
    · have e1 : ((i + 1 + n0 : Nat) : Int) = ((i + n0 : Nat) : Int) + 1 := by omega
      rw [e1]; exact he'
    · have hb' : b < s.heap.objs.size := by
        have e' : b = e ∨ b = it := by simpa using hb
        rcases e' with z | z
        · rw [z]; exact hel
        · rw [z]; exact hil
      rw [upd_ne (Nat.ne_of_lt hb')]
      exact (hf b hb).1
  done := by
    intro X hP hw hK hc i pins s σ H E I hf st hg
    subst hP hw hK
    obtain ⟨⟨old, he⟩, hit, hne⟩ := st
    obtain ⟨xs, hq, hx⟩ := hg
    have hq : SqT X.K H a xs := hq
    obtain ⟨its, rv, p, hz⟩ := I.tuple hq
    obtain ⟨f0, f1, f2, f3, f4, f5⟩ := hf it (by simp)
    have hl := rv.length
    exact enum_tuple_end (I.ok.hd hc) he hit (show s.heap.IsTuple a its.toArray from p) (by simp; omega) fun h' eb => ⟨rfl, I.turned (t' := s.toks) (fun b o hb q => eb b o hb q) f0 f1 f3 f4 f5⟩
  self := fun A i s Q E st h => let ⟨⟨_, he⟩, _⟩ := st; wpAny_pyIter_enum he h
def iEnumW (K : PySem.W.Frag) (ta : TA) : TI := fun σ H R => ta σ H fun vs H1 => ∃ a xs b, vs = [.ref a] ∧ SqW K b H1 a xs ∧ R (IteW K a b 1) H1
theorem pi_enumW {X : Cx} {e ev : Expr} {ta : TA} {p pos tpos kp : Pos} {elts : List Expr} {kk : Nat} (hg : Gl X "enumerate") (hm : X.mg "enumerate" = none) (ha : PA X [e] ta) (hv : PE X ev (tC (V.int 1))) (hs : starEach [e] X.env = [(false, eval e X.env)] := by rfl) :
    PI X (.Tuple elts kk tpos) (.Call (.Name "enumerate" p) [e] [⟨some "start", ev, kp⟩] pos) (iEnumW X.K ta) := by
  refine ⟨fun pins s σ H R I h => ?_⟩
  refine wpAny_Call_Name_kw (ld_blt I hg hm boot_enumerate ?_)
  refine callWith_tkw (thn (ha.run pos pins s σ H _ I h) fun us s1 ⟨vs, H1, I1, r1, q1⟩ => ?_) (by rw [hs]; rfl) (by rw [hs]; rfl)
  obtain ⟨a, xs, b, ex, hq, q⟩ := q1
  subst ex
  cases r1 with
  | cons r rr =>
    cases rr
    cases r
    refine kws_cons (thn (hv.run pins s1 σ H1 (fun x Hx => x = V.int 1 ∧ Hx = H1) I1 ⟨rfl, rfl⟩) fun u s2 ⟨x, H2, I2, ru, ex, eH⟩ => ?_)
    subst ex eH
    obtain ⟨tt, rfl⟩ : ∃ tt, u = .int 1 tt := ru
    refine kws_nil ?_
    show wpAny _ _ (call (.type "enumerate") [.ref a] [(Str.ofString "start", .int 1 tt)]) _ _ s2
    have fp : ∀ {h' : Heap}, (∀ b o, s2.heap.get? b = some o → h'.get? b = some o) → Inv X pins σ H2 { s2 with heap := h' } → ∀ b, b ∈ [s2.heap.objs.size + 1, s2.heap.objs.size] → FpOk X pins H2 b := fun {h'} hk I3 b hb => by
      have e' : b = s2.heap.objs.size + 1 ∨ b = s2.heap.objs.size := by simpa using hb
      have hle : s2.heap.objs.size ≤ b := by
        rcases e' with z | z
        · rw [z]; exact Nat.le_add_right _ _
        · rw [z]; exact Nat.le_refl _
      exact I2.fpOk hle (I2.hok.fresh hle)
    cases b with
    | true =>
      have hq' : SqL X.K H2 a xs := hq
      obtain ⟨its, rv, p', hz⟩ := I2.list hq'
      have hal : a < s2.heap.objs.size := by obtain ⟨_, q, _⟩ := p'.isList; exact Heap.lt_size q
      refine enum_begins_start (begins_list a its.toArray) p'.isList (by decide) (by decide) fun h' he hit hsz hk => wpAny_pyIter_enum he ?_
      have I3 : Inv X pins σ H2 { s2 with heap := h' } := I2.kept (t' := s2.toks) hk
      exact ⟨s2.heap.objs.size + 1, [s2.heap.objs.size + 1, s2.heap.objs.size], _, _, H2, rfl, I3, turn_enumL1 (n0 := 1) a (s2.heap.objs.size + 1) s2.heap.objs.size, ⟨⟨.none, he⟩, ⟨_, hit, rfl, rfl⟩, Nat.succ_ne_self _, Nat.ne_of_gt (Nat.lt_succ_of_lt hal), Nat.ne_of_lt hal⟩, fp hk I3, q⟩
    | false =>
      have hq' : SqT X.K H2 a xs := hq
      obtain ⟨its, rv, p', hz⟩ := I2.tuple hq'
      have p'' : s2.heap.IsTuple a its.toArray := p'
      have hal : a < s2.heap.objs.size := by obtain ⟨_, q, _⟩ := p''; exact Heap.lt_size q
      refine enum_begins_start (begins_tuple a its.toArray) p'' (by decide) (by decide) fun h' he hit hsz hk => wpAny_pyIter_enum he ?_
      have I3 : Inv X pins σ H2 { s2 with heap := h' } := I2.kept (t' := s2.toks) hk
      exact ⟨s2.heap.objs.size + 1, [s2.heap.objs.size + 1, s2.heap.objs.size], _, _, H2, rfl, I3, turn_enumT1 (n0 := 1) a (s2.heap.objs.size + 1) s2.heap.objs.size, ⟨⟨.none, he⟩, ⟨_, hit, rfl, rfl⟩, Nat.succ_ne_self _, Nat.ne_of_gt (Nat.lt_succ_of_lt hal), Nat.ne_of_lt hal⟩, fp hk I3, q⟩
def iEnumW0 (K : PySem.W.Frag) (ta : TA) : TI := fun σ H R => ta σ H fun vs H1 => ∃ a xs b, vs = [.ref a] ∧ SqW K b H1 a xs ∧ R (IteW K a b 0) H1
theorem pi_enumW0 {X : Cx} {e : Expr} {ta : TA} {p pos tpos : Pos} {elts : List Expr} {kk : Nat} (hg : Gl X "enumerate") (hm : X.mg "enumerate" = none) (ha : PA X [e] ta) (hs : starEach [e] X.env = [(false, eval e X.env)] := by rfl) :
    PI X (.Tuple elts kk tpos) (.Call (.Name "enumerate" p) [e] [] pos) (iEnumW0 X.K ta) := by
  refine ⟨fun pins s σ H R I h => ?_⟩
  refine Call_ (ld_blt I hg hm boot_enumerate (PyProof.Rows.callWith_type1 (thn (ha.run pos pins s σ H _ I h) fun us s2 ⟨vs, H2, I2, r1, q1⟩ => ?_) hs rfl))
  obtain ⟨a, xs, b, ex, hq, q⟩ := q1
  subst ex
  cases r1 with
  | cons r rr =>
    cases rr
    cases r
    have fp : ∀ {h' : Heap}, (∀ b o, s2.heap.get? b = some o → h'.get? b = some o) → Inv X pins σ H2 { s2 with heap := h' } → ∀ b, b ∈ [s2.heap.objs.size + 1, s2.heap.objs.size] → FpOk X pins H2 b := fun {h'} hk I3 b hb => by
      have e' : b = s2.heap.objs.size + 1 ∨ b = s2.heap.objs.size := by simpa using hb
      have hle : s2.heap.objs.size ≤ b := by
        rcases e' with z | z
        · rw [z]; exact Nat.le_add_right _ _
        · rw [z]; exact Nat.le_refl _
      exact I2.fpOk hle (I2.hok.fresh hle)
    cases b with
    | true =>
      have hq' : SqL X.K H2 a xs := hq
      obtain ⟨its, rv, p', hz⟩ := I2.list hq'
      have hal : a < s2.heap.objs.size := by obtain ⟨_, q, _⟩ := p'.isList; exact Heap.lt_size q
      refine call_enum1 (begins_list a its.toArray) p'.isList fun h' he hit hsz hk => wpAny_pyIter_enum he ?_
      have I3 : Inv X pins σ H2 { s2 with heap := h' } := I2.kept (t' := s2.toks) hk
      exact ⟨s2.heap.objs.size + 1, [s2.heap.objs.size + 1, s2.heap.objs.size], _, _, H2, rfl, I3, turn_enumL1 (n0 := 0) a (s2.heap.objs.size + 1) s2.heap.objs.size, ⟨⟨.none, he⟩, ⟨_, hit, rfl, rfl⟩, Nat.succ_ne_self _, Nat.ne_of_gt (Nat.lt_succ_of_lt hal), Nat.ne_of_lt hal⟩, fp hk I3, q⟩
    | false =>
      have hq' : SqT X.K H2 a xs := hq
      obtain ⟨its, rv, p', hz⟩ := I2.tuple hq'
      have p'' : s2.heap.IsTuple a its.toArray := p'
      have hal : a < s2.heap.objs.size := by obtain ⟨_, q, _⟩ := p''; exact Heap.lt_size q
      refine call_enum1 (begins_tuple a its.toArray) p'' fun h' he hit hsz hk => wpAny_pyIter_enum he ?_
      have I3 : Inv X pins σ H2 { s2 with heap := h' } := I2.kept (t' := s2.toks) hk
      exact ⟨s2.heap.objs.size + 1, [s2.heap.objs.size + 1, s2.heap.objs.size], _, _, H2, rfl, I3, turn_enumT1 (n0 := 0) a (s2.heap.objs.size + 1) s2.heap.objs.size, ⟨⟨.none, he⟩, ⟨_, hit, rfl, rfl⟩, Nat.succ_ne_self _, Nat.ne_of_gt (Nat.lt_succ_of_lt hal), Nat.ne_of_lt hal⟩, fp hk I3, q⟩
theorem walk_enumW {K : PySem.W.Frag} {a : Addr} {b : Bool} {n0 : Nat} {xs : List V} : Walk (IteW K a b n0) xs.length (fun H => SqW K b H a xs) (YPair (fun i => some (.int ((i + n0 : Nat) : Int))) (fun i => xs[i]?)) := by
  refine ⟨fun i _ hi q => ⟨xs, xs[i], q, by simp [hi]⟩, fun _ q => ⟨xs, q, Nat.le_refl _⟩, fun i H v H' _ q y => ?_⟩
  obtain ⟨T, x, h1, h2, h3, h4⟩ := y
  exact ⟨T, .int ((i + n0 : Nat) : Int), x, h1, h2, h3, rfl, h4 xs q⟩
theorem SqW.same {K : PySem.W.Frag} {b : Bool} {H H' : Hp} {a : Addr} {xs : List V} (s : Same H H') (h : SqW K b H a xs) : SqW K b H' a xs := by
  cases b with
  | true => exact L2.Same.seq s h
  | false => exact XR.Same.tup s h
end XR
/-! Diffs turned about and over are diffs (taken from k16_L3, k16_L4). -/
namespace XR
open PySem L2
abbrev Ris (ps : List (Nat × Nat)) : Prop := ps.Pairwise fun x y => x.1 < y.1 ∧ x.2 < y.2
theorem swp_ris {ps : List (Nat × Nat)} (h : Ris ps) : Ris (ps.map swp) := List.pairwise_map.mpr (List.Pairwise.imp (fun {a b} hab => ⟨hab.2, hab.1⟩) h)
theorem swp_df {ss1 ss2 : List Str} {ps : List (Nat × Nat)} (h : IsDf ss1 ss2 ps) : IsDf ss2 ss1 (ps.map swp) := by
  refine ⟨fun q hq => ?_, swp_ris h.2⟩
  obtain ⟨p, hp, rfl⟩ := List.mem_map.mp hq
  obtain ⟨a, b, c, d, s, e1, e2⟩ := h.1 p hp
  exact ⟨c, d, a, b, s, e2, e1⟩
def Bd (m n : Nat) (ps : List (Nat × Nat)) : Prop := ∀ q, q ∈ ps → 1 ≤ q.1 ∧ q.1 ≤ m ∧ 1 ≤ q.2 ∧ q.2 ≤ n
theorem IsDf.bd {ss1 ss2 : List Str} {ps : List (Nat × Nat)} (h : IsDf ss1 ss2 ps) : Bd ss1.length ss2.length ps := fun q hq => ⟨(h.1 q hq).1, (h.1 q hq).2.1, (h.1 q hq).2.2.1, (h.1 q hq).2.2.2.1⟩
theorem over_ris {m n : Nat} {ps : List (Nat × Nat)} (h : Ris ps) (b : Bd m n ps) : Ris (ps.reverse.map (over m n)) := by
  refine List.pairwise_map.mpr (List.pairwise_reverse.mpr ?_)
  induction ps with
  | nil => exact .nil
  | cons p ps ih =>
    have h2 := List.pairwise_cons.mp h
    refine List.pairwise_cons.mpr ⟨fun q hq => ?_, ih h2.2 fun q hq => b q (List.mem_cons_of_mem _ hq)⟩
    have l := h2.1 q hq
    have b1 := b p (List.mem_cons_self ..)
    have b2 := b q (List.mem_cons_of_mem _ hq)
    exact ⟨by show m + 1 - q.1 < m + 1 - p.1; omega, by show n + 1 - q.2 < n + 1 - p.2; omega⟩
theorem over_df {ss1 ss2 : List Str} {ps : List (Nat × Nat)} (h : IsDf ss1 ss2 ps) : IsDf ss1.reverse ss2.reverse (ps.reverse.map (over ss1.length ss2.length)) := by
  refine ⟨fun q hq => ?_, over_ris h.2 h.bd⟩
  obtain ⟨p, hp, rfl⟩ := List.mem_map.mp hq
  obtain ⟨a, b, c, d, s, e1, e2⟩ := h.1 p (List.mem_reverse.mp hp)
  unfold over
  dsimp only
  rw [List.length_reverse, List.length_reverse]
  refine ⟨by omega, by omega, by omega, by omega, s, ?_, ?_⟩
  · rw [List.getElem?_reverse (by omega), show ss1.length - 1 - (ss1.length + 1 - p.1 - 1) = p.1 - 1 by omega]; exact e1
  · rw [List.getElem?_reverse (by omega), show ss2.length - 1 - (ss2.length + 1 - p.2 - 1) = p.2 - 1 by omega]; exact e2
end XR
namespace XR
open PySem L2
theorem tup_lay : ∀ ps : List (Nat × Nat), PyData.canLayAll0 (ps.map tupD) = true ∧ PyData.depthAll (ps.map tupD) ≤ 3
  | [] => ⟨by simp [PyData.canLayAll0], by simp [PyData.depthAll]⟩
  | p :: ps => by
    obtain ⟨h1, h2⟩ := tup_lay ps
    refine ⟨by simp [PyData.canLayAll0, PyData.canLay0, tupD, h1], ?_⟩
    simp [PyData.depthAll, PyData.depth, tupD]
    omega
theorem df_lay (ps : List (Nat × Nat)) : (dfD ps).canLay0 = true ∧ SeqAt.shaped (dfD ps) = true := by
  obtain ⟨h1, h2⟩ := tup_lay ps
  have a : (dfD ps).canLay0 = true := by unfold dfD; simp only [PyData.canLay0, h1]
  refine ⟨a, ?_⟩
  unfold SeqAt.shaped
  rw [a, Bool.true_and, decide_eq_true_eq]
  have e : (dfD ps).depth = PyData.depthAll (ps.map tupD) + 1 := by unfold dfD; simp only [PyData.depth]
  omega
theorem DfV.dp {K : PySem.W.Frag} {H : Hp} {v : V} {ps : List (Nat × Nat)} (h : DfV K H v ps) : Dp K H v (dfD ps) := by
  have key : ∀ (xs : List V) (l : List (Nat × Nat)), DqAll K H xs (l.map tupD) → DpAll K H xs (l.map tupD) := by
    intro xs l
    induction l generalizing xs with
    | nil =>
      intro h
      cases h
      exact .nil
    | cons p l ih =>
      intro h
      cases h with
      | cons a b =>
        refine .cons ?_ (ih _ b)
        unfold tupD at a ⊢
        cases a with
        | tup k1 k2 =>
          obtain ⟨d1, d2, y1, y2, e3, rfl, m1, m2⟩ := k2.two rfl
          injection e3 with e3 e4
          injection e4 with e4 _
          subst e3 e4
          cases m1
          cases m2
          exact .tup k1 (.cons (.int _) (.cons (.int _) .nil))
  unfold DfV dfD at h
  cases h with
  | tup h1 h2 => exact .tup h1 (key _ _ h2)
/-- a list of words that stands -/
def LsAt (H : Hp) (x : V) (ss : List Str) : Prop := ∃ a, x = .ref a ∧ H a = some (.lst (ss.map V.str)) ∧ Wd ss ∧ ss.length ≤ 60
theorem LsAt.same {H H' : Hp} {x : V} {ss : List Str} (s : Same H H') (h : LsAt H x ss) : LsAt H' x ss := let ⟨a, e, h1, h2⟩ := h; ⟨a, e, s _ _ h1, h2⟩
theorem LsAt.t {K : PySem.W.Frag} {H : Hp} {x : V} {ss : List Str} (h : LsAt H x ss) : TxV K H x ss := by
  obtain ⟨a, rfl, h1, h2, h3⟩ := h
  exact lst_text (SqL.of h1) h2 h3
def spTR (K : PySem.W.Frag) : Sp := fun vs H Q _ => ∃ (x1 x2 x3 v1 v2 : V) (ss1 ss2 ss3 : List Str) (ps qs : List (Nat × Nat)), vs = [x1, x2, x3, v1, v2] ∧ LsAt H x1 ss1 ∧ LsAt H x2 ss2 ∧ LsAt H x3 ss3 ∧ DfV K H v1 ps ∧ IsDf ss1 ss2 ps ∧ DfV K H v2 qs ∧ IsDf ss2 ss3 qs ∧
  ∀ H', Same H H' → Q (.bl true) H'
end XR
/-! How long the repr of texts and diffs is. -/
namespace XR
open PySem L2
theorem sepFrom_le (B : Nat) : ∀ (ts : List Str) (k : Nat) (acc : Str), (∀ t ∈ ts, t.length ≤ B) → (textFrom k acc ts).length ≤ acc.length + ts.length * (B + 2)
  | [], k, acc, _ => by
    show acc.length ≤ acc.length + 0 * (B + 2)
    omega
  | t :: r, k, acc, h => by
    have ih := sepFrom_le B r (k + 1) (acc ++ (if k > 0 then ", " else "" : String) ++ t) fun x hx => h x (List.mem_cons_of_mem _ hx)
    have e : (acc ++ (if k > 0 then ", " else "" : String) ++ t).length ≤ acc.length + 2 + t.length := by
      rw [strLen_append, strLen_append]
      have q : (Str.ofString (if k > 0 then ", " else "")).length ≤ 2 := by
        by_cases hk : k > 0
        · rw [if_pos hk]; decide
        · rw [if_neg hk]; decide
      omega
    have ht := h t (List.mem_cons_self ..)
    show (textFrom (k + 1) _ r).length ≤ _
    rw [List.length_cons, Nat.succ_mul]
    omega
theorem shownAll_in {ds : List PyData} {t : Str} (h : t ∈ PyData.shownAll ds) : ∃ d ∈ ds, t = d.shown := by
  induction ds with
  | nil => simp [PyData.shownAll] at h
  | cons d ds ih =>
    simp only [PyData.shownAll, List.mem_cons] at h
    rcases h with rfl | h
    · exact ⟨d, List.mem_cons_self .., rfl⟩
    · obtain ⟨e, h1, h2⟩ := ih h
      exact ⟨e, List.mem_cons_of_mem _ h1, h2⟩
theorem shownAll_len : ∀ ds : List PyData, (PyData.shownAll ds).length = ds.length
  | [] => by simp [PyData.shownAll]
  | d :: ds => by simp [PyData.shownAll, shownAll_len ds]
theorem joined_le (B : Nat) : ∀ (ts : List Str), (∀ t ∈ ts, t.length ≤ B) → (Str.join ", " ts).length ≤ ts.length * (B + 2)
  | [], _ => by
    show (0 : Nat) ≤ _
    exact Nat.zero_le _
  | [x], h => by
    have := h x (List.mem_cons_self ..)
    show x.length ≤ _
    rw [List.length_cons, List.length_nil]
    omega
  | x :: y :: r, h => by
    have ih := joined_le B (y :: r) fun t ht => h t (List.mem_cons_of_mem _ ht)
    have hx := h x (List.mem_cons_self ..)
    have e2 : (Str.ofString ", ").length = 2 := by decide
    show (x ++ Str.ofString ", " ++ Str.join ", " (y :: r)).length ≤ _
    rw [strLen_append, strLen_append, e2]
    rw [List.length_cons, Nat.succ_mul]
    omega
/-- what can be shown, in at most n signs and k levels -/
structure Shw (n k : Nat) (d : PyData) : Prop where
  ok : d.showable = true
  len : d.shown.length ≤ n
  dep : d.depth ≤ k
theorem showAll_of : ∀ {ds : List PyData}, (∀ d ∈ ds, d.showable = true) → PyData.showableAll ds = true
  | [], _ => by simp [PyData.showableAll]
  | d :: ds, h => by
    simp only [PyData.showableAll, Bool.and_eq_true]
    exact ⟨h d (List.mem_cons_self ..), showAll_of fun x hx => h x (List.mem_cons_of_mem _ hx)⟩
theorem depAll_of {k : Nat} : ∀ {ds : List PyData}, (∀ d ∈ ds, d.depth ≤ k) → PyData.depthAll ds ≤ k
  | [], _ => by simp [PyData.depthAll]
  | d :: ds, h => by
    simp only [PyData.depthAll]
    exact Nat.max_le.mpr ⟨h d (List.mem_cons_self ..), depAll_of fun x hx => h x (List.mem_cons_of_mem _ hx)⟩
theorem Shw.list {n k m : Nat} {ds : List PyData} (h : ∀ d ∈ ds, Shw n k d) (l : ds.length ≤ m) : Shw (2 + m * (n + 2)) (k + 1) (.list ds) := by
  refine ⟨?_, ?_, ?_⟩
  · simp only [PyData.showable]
    exact showAll_of fun d hd => (h d hd).ok
  · simp only [PyData.shown]
    have e := sepFrom_le n (PyData.shownAll ds) 0 "[" fun t ht => by
      obtain ⟨d, hd, rfl⟩ := shownAll_in ht
      exact (h d hd).len
    have q : (listText (PyData.shownAll ds)).length = (textFrom 0 "[" (PyData.shownAll ds)).length + 1 := by
      show (textFrom 0 "[" (PyData.shownAll ds) ++ "]").length = _
      rw [strLen_append]; rfl
    have q2 : (Str.ofString "[").length = 1 := by decide
    rw [shownAll_len] at e
    have := Nat.mul_le_mul_right (n + 2) l
    omega
  · simp only [PyData.depth]
    have := depAll_of fun d hd => (h d hd).dep
    omega
theorem Shw.tuple {n k m : Nat} {ds : List PyData} (h : ∀ d ∈ ds, Shw n k d) (l : ds.length ≤ m) : Shw (3 + m * (n + 2)) (k + 1) (.tuple ds) := by
  refine ⟨?_, ?_, ?_⟩
  · simp only [PyData.showable]
    exact showAll_of fun d hd => (h d hd).ok
  · simp only [PyData.shown]
    have e := joined_le n (PyData.shownAll ds) fun t ht => by
      obtain ⟨d, hd, rfl⟩ := shownAll_in ht
      exact (h d hd).len
    have q1 : (Str.ofString "(").length = 1 := by decide
    have q2 : (Str.ofString (if (PyData.shownAll ds).length == 1 then ",)" else ")")).length ≤ 2 := by
      by_cases hk : ((PyData.shownAll ds).length == 1) = true
      · rw [if_pos hk]; decide
      · rw [if_neg hk]; decide
    unfold tupleText
    rw [strLen_append, strLen_append, q1]
    rw [shownAll_len] at e
    have := Nat.mul_le_mul_right (n + 2) l
    omega
  · simp only [PyData.depth]
    have := depAll_of fun d hd => (h d hd).dep
    omega
theorem Shw.le {n k n' k' : Nat} {d : PyData} (h : Shw n k d) (a : n ≤ n') (b : k ≤ k') : Shw n' k' d := ⟨h.ok, Nat.le_trans h.len a, Nat.le_trans h.dep b⟩
theorem shw_words : ∀ s ∈ words, (PyData.str s).showable = true ∧ (PyData.str s).shown.length ≤ 8 ∧ (PyData.str s).depth ≤ 1 := by decide +kernel
theorem shw_nums : ∀ i : Fin 61, (PyData.int ((i : Nat) : Int)).showable = true ∧ (PyData.int ((i : Nat) : Int)).shown.length ≤ 2 ∧ (PyData.int ((i : Nat) : Int)).depth ≤ 1 := by decide +kernel
theorem shw_num {i : Nat} (h : i ≤ 60) : Shw 2 1 (.int (i : Int)) := let ⟨a, b, c⟩ := shw_nums ⟨i, by omega⟩; ⟨a, b, c⟩
def lsD (ss : List Str) : PyData := .list (ss.map .str)
theorem shw_ls {ss : List Str} (w : Wd ss) (l : ss.length ≤ 60) : Shw 602 2 (lsD ss) := by
  refine Shw.list (n := 8) (k := 1) (m := 60) (fun d hd => ?_) (by rw [List.length_map]; exact l)
  obtain ⟨s, hs, rfl⟩ := List.mem_map.mp hd
  obtain ⟨a, b, c⟩ := shw_words s (w s hs)
  exact ⟨a, b, c⟩
theorem shw_tup {q : Nat × Nat} (h1 : q.1 ≤ 60) (h2 : q.2 ≤ 60) : Shw 11 2 (tupD q) := by
  refine Shw.tuple (n := 2) (k := 1) (m := 2) (fun d hd => ?_) (Nat.le_refl 2)
  simp only [List.mem_cons, List.not_mem_nil, or_false] at hd
  rcases hd with rfl | rfl
  · exact shw_num h1
  · exact shw_num h2
theorem shw_df {ss1 ss2 : List Str} {ps : List (Nat × Nat)} (h : IsDf ss1 ss2 ps) (l1 : ss1.length ≤ 60) (l2 : ss2.length ≤ 60) : Shw 783 3 (dfD ps) := by
  refine Shw.tuple (n := 11) (k := 2) (m := 60) (fun d hd => ?_) (by rw [List.length_map]; have := df_len h; omega)
  obtain ⟨q, hq, rfl⟩ := List.mem_map.mp hd
  obtain ⟨a, b, c, d, _⟩ := h.1 q hq
  exact shw_tup (by omega) (by omega)
theorem line_ge : 8000 ≤ sizeLine := by decide
end XR
/-! Calls by names alone; try with several clauses 'except C as n' of one name. -/
namespace XR
open PySem PySem.Spec L2
section
variable {X : Cx} {CX : CXT} {k : Nat} {f : Addr} {fd : FuncData} {ps ks : List Str} {sp : Sp} {E : St → XK} {x : Str} {p pos : Pos} {kws : List Keyword} {tk : TA} {g : List Value → List Value → List Value} {gV : List V → List V → List V}
/-- f(k = v, ..), nothing by its place -/
theorem pe_callKw (F : FnOk X.prog X.w X.K X.mg X.base CX k f fd ps sp) (hr : Room k X.A) (hgl : Gl X x) (hm : X.mg x = some (.ref f)) (hk : PySem.W.keepIn X.K (.ref f) = true) (kb : KBinds X.K fd ps ks g gV) (hx : ∀ σ, PassesAt CX X σ (E σ)) (hkw : PK X kws tk)
    (ok1 : (backToKw pos (keywordEach kws X.env)).all (·.1.isSome) = true := by rfl) (ok2 : (backToKw pos (keywordEach kws X.env)).filterMap (·.1) = ks := by rfl) (ok3 : (x == ("__debug__" : Str)) = false := by decide)
    (ok4 : ((backTo pos (starEach [] X.env)).any (·.1) || (backToKw pos (keywordEach kws X.env)).any (·.1.isNone)) = false := by rfl) :
    PE X (.Call (.Name x p) [] kws pos) (fun σ H Q => tk σ H fun zs H1 => sp (gV [] zs) H1 Q (E σ)) := by
  refine ⟨fun pins s σ H Q I h => wpAny_Call_Name_kw (ld_glob I hgl hm ?_ ok3)⟩
  refine PySem.W.callWith_KW0 (h₀ := X.base) I.ok.mod.kin hk ok1 (thn (hkw.run pos pins s σ H _ I h) fun ws t ⟨zs, H2, J, rz, q⟩ => ⟨J.kIn, ?_⟩) ok4
  rw [ok2]
  have r2 : Vals (gV [] zs) (g [] ws) := kb.rel .nil rz
  have hl : (g [] ws).length = ps.length := r2.length.symm.trans (F.len _ _ _ _ q)
  refine wpAny_call (codeAny_mono (F.run X.A X.stack t H2 ⟨[], ks.zip ws⟩ (g [] ws) (gV [] zs) Q (E σ) hr J.env0 (kb.to t [] ws J.kIn hl) r2 q) fun r t' hq => ?_)
  match r, hq with
  | .error e, hq => exact hx σ pins H2 t e t' J hq
  | .ok (.ret u), hq => exact J.after hq
  | .ok .next, hq => exact hq.elim
  | .ok .brk, hq => exact hq.elim
  | .ok .cont, hq => exact hq.elim
end
def turn4 {α : Type} : List α → List α → List α
  | [], [a, b, c, d] => [d, c, b, a]
  | _, _ => []
def turn5 {α : Type} : List α → List α → List α
  | [], [a, b, c, d, e] => [e, d, c, b, a]
  | _, _ => []
theorem turn4_rel {vs : List V} {us : List Value} {zs : List V} {ws : List Value} (r : Vals vs us) (t : Vals zs ws) : Vals (turn4 vs zs) (turn4 us ws) := by
  cases r with
  | cons _ _ => exact .nil
  | nil =>
    cases t with
    | nil => exact .nil
    | cons a t => cases t with
      | nil => exact .nil
      | cons b t => cases t with
        | nil => exact .nil
        | cons c t => cases t with
          | nil => exact .nil
          | cons d t => cases t with
            | nil => exact .cons d (.cons c (.cons b (.cons a .nil)))
            | cons e t => exact .nil
theorem turn5_rel {vs : List V} {us : List Value} {zs : List V} {ws : List Value} (r : Vals vs us) (t : Vals zs ws) : Vals (turn5 vs zs) (turn5 us ws) := by
  cases r with
  | cons _ _ => exact .nil
  | nil =>
    cases t with
    | nil => exact .nil
    | cons a t => cases t with
      | nil => exact .nil
      | cons b t => cases t with
        | nil => exact .nil
        | cons c t => cases t with
          | nil => exact .nil
          | cons d t => cases t with
            | nil => exact .nil
            | cons e t => cases t with
              | nil => exact .cons e (.cons d (.cons c (.cons b (.cons a .nil))))
              | cons f t => exact .nil
theorem turn4_len {us ws : List Value} (h : (turn4 us ws).length = 4) : ∃ a b c d, us = [] ∧ ws = [a, b, c, d] := by
  unfold turn4 at h
  split at h
  · exact ⟨_, _, _, _, rfl, rfl⟩
  · cases h
theorem turn5_len {us ws : List Value} (h : (turn5 us ws).length = 5) : ∃ a b c d e, us = [] ∧ ws = [a, b, c, d, e] := by
  unfold turn5 at h
  split at h
  · exact ⟨_, _, _, _, _, rfl, rfl⟩
  · cases h
section
variable {K : PySem.W.Frag} {x qual : Str} {st : Stmt} {f : Addr} {fd : FuncData} {p1 p2 p3 p4 p5 : Str}
theorem kb4 (F : Fun K x qual st f fd) (h : ∀ (kV doc pm : Value) (an : Option Addr) (cdv ct a b c d : Value), bindArgs (PySem.W.fnOf x qual (defArgs st) (defBody st) (defScope st) .none kV doc pm an cdv ct) ⟨[], [(p4, a), (p3, b), (p2, c), (p1, d)]⟩ = pure [(p1, d), (p2, c), (p3, b), (p4, a)]) :
    KBinds K fd [p1, p2, p3, p4] [p4, p3, p2, p1] turn4 turn4 := by
  obtain ⟨oc, od, kV, doc, pm, an, cdv, ct, osl, rfl, lk, hcd⟩ := F.ex
  refine ⟨fun s us ws _ hl => ?_, turn4_rel⟩
  obtain ⟨a, b, c, d, rfl, rfl⟩ := turn4_len hl
  exact .of_eq (h kV doc pm an cdv ct a b c d)
theorem kb5 (F : Fun K x qual st f fd) (h : ∀ (kV doc pm : Value) (an : Option Addr) (cdv ct a b c d e : Value), bindArgs (PySem.W.fnOf x qual (defArgs st) (defBody st) (defScope st) .none kV doc pm an cdv ct) ⟨[], [(p5, a), (p4, b), (p3, c), (p2, d), (p1, e)]⟩ = pure [(p1, e), (p2, d), (p3, c), (p4, b), (p5, a)]) :
    KBinds K fd [p1, p2, p3, p4, p5] [p5, p4, p3, p2, p1] turn5 turn5 := by
  obtain ⟨oc, od, kV, doc, pm, an, cdv, ct, osl, rfl, lk, hcd⟩ := F.ex
  refine ⟨fun s us ws _ hl => ?_, turn5_rel⟩
  obtain ⟨a, b, c, d, e, rfl, rfl⟩ := turn5_len hl
  exact .of_eq (h kV doc pm an cdv ct a b c d e)
end
/-- behind the suite of 'except C as n' the slot of n is empty -/
def freed (i : Nat) (D : Ends) : Ends := { nx := fun τ G => D.nx (τ.set i none) G, rt := D.rt, bk := fun τ G => D.bk (τ.set i none) G, ct := fun τ G => D.ct (τ.set i none) G }
abbrev Clauses := List (Value × (Addr → Value → Option Addr → TS))
/-- what the clauses, from the first one on, wish of an exception -/
def wishA (K : PySem.W.Frag) (i : Nat) (Wout : WX) (D : Ends) : Clauses → WX
  | [] => Wout
  | (c, ts) :: r => fun cls d σ H => ∃ b, PySem.W.exmOne K cls c = some b ∧ (b = true → ∀ a, H a = none → ts a cls d (freed i D) (σ.set i (some (.ref a))) H) ∧ (b = false → wishA K i Wout D r cls d σ H)
inductive ClausesOk (X : Cx) (n : Str) : List ExceptHandler → Clauses → Prop
  | nil : ClausesOk X n [] []
  | cons {x : Str} {c : Value} {ts : Addr → Value → Option Addr → TS} {st : Stmt} {sts : List Stmt} {np q : Pos} {hl : List ExceptHandler} {l : Clauses} (hc : Names X x c)
      (su : ∀ (a : Addr) (o : Obj) (cls : Value) (d : Option Addr) (pn : List (Addr × Obj)), Zc cls d o → (∃ vs, o.data = .fields vs) → PSs (X.suite a ((a, o) :: pn)) (st :: sts) (ts a cls d)) (r : ClausesOk X n hl l) :
      ClausesOk X n (.ExceptHandler (some (.Name x np)) (some n) (st :: sts) q :: hl) ((c, ts) :: l)
/-- what becomes of an exception that the clauses look at -/
def looked (X : Cx) (hl : List ExceptHandler) (Q : Flow → Shared → Prop) : Value → Shared → Prop := fun e t1 =>
  wpAny (model X.prog X.w) X.A (noteFrame e X.env) (fun _ t2 => wpAny (model X.prog X.w) X.A (setFlight e none) (fun _ t3 => wpAny (model X.prog X.w) X.A (handleBy e X.env hl) Q X.xe t3) X.xe t2) X.xe t1
section
variable {X : Cx} {body : List Stmt} {c₀ : ExceptHandler} {cl : List ExceptHandler} {l : Clauses} {pos : Pos} {tb : WX → TS} {Wout : WX} {i : Nat} {n : Str}
theorem ps_try_asMany (hs : X.stack = X.env :: X.outer) (hf : X.env.frame = some X.env.locals) (hN : X.N.Nodup) (hi : X.N[i]? = some n) (hln : X.env.kindOf n = some .local) (tk : Takes X Wout)
    (hb : ∀ (W : WX) (pn : List (Addr × Obj)) (xe : Value → Shared → Prop), Takes (X.tr pn xe) W → PySem.PassesOwn (model X.prog X.w) X.A X.env xe → PSs (X.tr pn xe) body (tb W)) (hc : ClausesOk X n (c₀ :: cl) l) :
    PS X (.Try body (c₀ :: cl) [] [] pos) (fun D σ H => tb (wishA X.K i Wout D l) D σ H) := by
  refine ⟨fun pins s σ H D I h => ?_⟩
  have ok := I.ok
  have hfr : X.A.frames = some (X.env :: X.outer) := ok.frames.trans (congrArg some hs)
  have hloc : Loc X.env.scope n := .inl hln
  refine wpAny_Try_except (wpAny_mono ((hb (wishA X.K i Wout D l) (X.pn ++ pins) (looked X (c₀ :: cl) (SP X pins D)) (fun u t xx => ?_) PySem.PassesOwn.looking).run [] s σ H D (I.toTry _) h) (fun fl t q => ?_) fun e t he => he)
  · obtain ⟨a, B, sI, pins', σ', H', cls, d, rfl, J', nb, up, sk, na, os, ag, w⟩ := xx
    have J : Inv X pins σ' H' sI := J'.ofTry ok
    rw [show (X.tr (X.pn ++ pins) (looked X (c₀ :: cl) (SP X pins D))).stack = X.env :: X.outer from hs] at sk
    show wpAny (model X.prog X.w) X.A (noteFrame (.ref a) X.env) _ _ _
    refine Sky.land Zc.steady hfr hf sk fun g3 fl3 up3 => ?_
    have J3 : Inv X pins σ' H' { t with heap := g3 } := J.landed nb fl3.1 (up.trans up3) os ag
    obtain ⟨o3, vs3, e3, z3, d3⟩ := fl3.there
    have nofr : a ∉ frs (X.env :: X.outer) := fun hm => by
      obtain ⟨_, o', e', hnf⟩ := fl3.2.2.1.mem hm
      rw [e3] at e'
      cases e'
      exact hnf _ d3
    have nL : a ≠ X.env.locals := fun z => nofr (List.mem_filterMap.mpr ⟨X.env, List.mem_cons_self, hf.trans (congrArg some z.symm)⟩)
    have nF : a ∉ X.fs := fun hm => let ⟨e, he, q⟩ := List.mem_filterMap.mp hm; nofr (List.mem_filterMap.mpr ⟨e, List.mem_cons_of_mem _ he, q⟩)
    have S3 := J3.suite e3 d3 na nL nF
    have go : ∀ {hl : List ExceptHandler} {k : Clauses}, ClausesOk X n hl k → wishA X.K i Wout D k cls d σ' H' →
        wpAny (model X.prog X.w) X.A (handleBy (.ref a) X.env hl) (SP X pins D) X.xe { t with heap := g3 } := by
      intro hl k hk
      induction hk with
      | nil =>
        intro w
        refine wpAny_handleBy_nil ?_
        obtain ⟨k1, k2, k3, oe, vs, T, oT, ts', he, hz, hd, h1, hr⟩ := id fl3
        unfold PySem.passOn
        refine wpAny_bind (wpAny_field he hd h1 ?_)
        rw [if_neg (by simp : ¬ ((Value.ref T == Value.none) = true))]
        have out : wpAny (model X.prog X.w) X.A (setFlight (.ref a) X.env.frame) (fun _ t4 => wpAny (model X.prog X.w) X.A (throw (.ref a) : Sem Flow) (SP X pins D) X.xe t4) X.xe { t with heap := g3 } := by
          rw [hf]
          exact HandSPX.setFlight_upZ fl3 fun g4 hh4 up4 => wpAny_throw (tk _ _ ⟨a, B, sI, pins, σ', H', cls, d, rfl, J, nb, (up.trans up3).trans up4, .inr (.inr (by rw [hs]; exact hh4)), na, os, ag, w⟩)
        first
          | exact wpAny_bind (wpAny_pure (wpAny_bind out))
          | exact wpAny_bind out
      | @cons x c ts st sts np q hl2 l2 hc su r ih =>
        intro w
        obtain ⟨b, hb1, yes, no⟩ := w
        refine wpAny_handleBy_cons (codeAny_handlers_test ?_) (fun q => nomatch q)
        have LT : PySem.W.Looks (model X.prog X.w) g3 (typeOf (.ref a)) cls := fun A Q E t k q => wpAny_typeOf_ref (k _ _ e3) (by rw [z3.1]; exact q)
        have test : ∀ {Q : Value → Shared → Prop} {E : Value → Shared → Prop}, Q c { t with heap := g3 } → wpAny (model X.prog X.w) (X.A.mark (some (.ref a))) (eval (.Name x np) X.env) Q E { t with heap := g3 } := fun {Q E} q => by
          obtain ⟨hg, hdb, hm | ⟨hm, hv, hnn⟩⟩ := hc
          · exact ld_glob (X := X.suite a ((a, o3) :: (X.pn ++ pins))) S3 hg hm q hdb
          · exact ld_blt (X := X.suite a ((a, o3) :: (X.pn ++ pins))) S3 hg hm hv q hnn hdb
        refine test ((PySem.W.exm_one (M := model X.prog X.w) J3.kIn LT hb1).here ?_)
        cases b with
        | false => exact ih (no rfl)
        | true =>
          refine codeAny_handlers_suite_as (HandSPX.lands_againZ fl3 fun g4 fl4 up4 => ?_)
          have J4 : Inv X pins σ' H' { t with heap := g4 } := J.landed nb fl4.1 ((up.trans up3).trans up4) os ag
          obtain ⟨o4, vs4, e4, z4, d4⟩ := fl4.there
          refine store_ok (X := X.suite a ((a, o4) :: (X.pn ++ pins))) (v := .ref a) (J4.suite e4 d4 na nL nF) hN hi hloc rfl (fun t5 S5 => ?_) (.inr hln)
          refine wpAny_mono ((su a o4 cls d (X.pn ++ pins) z4 ⟨_, d4⟩).run [] t5 _ H' _ S5 (yes rfl a na)) (fun fl t6 hsp => ?_) (fun _ _ z => z.elim)
          have gone : ∀ {σ6 : St} {H6 : Hp} {Q : Shared → Prop}, Inv (X.suite a ((a, o4) :: (X.pn ++ pins))) [] σ6 H6 t6 → (∀ t7, Inv X pins (σ6.set i none) H6 t7 → Q t7) →
              wpAny (model X.prog X.w) X.A (do bindName X.env n .none; unbindBehindTheSuite X.env n q) (fun _ t7 => Q t7) X.xe t6 := fun {σ6 H6 Q} S6 hq => gone_ok (S6.unsuite ok) hN hi hln hq
          cases fl with
          | ret u =>
            obtain ⟨v6, σ6, H6, S6, r6, q6⟩ := hsp
            exact gone S6 fun t7 J7 => ⟨_, _, _, J7, r6, q6⟩
          | next =>
            obtain ⟨σ6, H6, S6, q6⟩ := hsp
            exact gone S6 fun t7 J7 => ⟨_, _, J7, q6⟩
          | brk =>
            obtain ⟨σ6, H6, S6, q6⟩ := hsp
            exact gone S6 fun t7 J7 => ⟨_, _, J7, q6⟩
          | cont =>
            obtain ⟨σ6, H6, S6, q6⟩ := hsp
            exact gone S6 fun t7 J7 => ⟨_, _, J7, q6⟩
    exact go hc w
  · cases fl with
    | ret u =>
      obtain ⟨v, τ, G, J', r, z⟩ := q
      exact ⟨v, τ, G, J'.ofTry ok, r, z⟩
    | next =>
      obtain ⟨τ, G, J', z⟩ := q
      exact wpAny_execs_nil ⟨τ, G, J'.ofTry ok, z⟩
    | brk =>
      obtain ⟨τ, G, J', z⟩ := q
      exact ⟨τ, G, J'.ofTry ok, z⟩
    | cont =>
      obtain ⟨τ, G, J', z⟩ := q
      exact ⟨τ, G, J'.ofTry ok, z⟩
end
end XR
namespace XR
open PySem L2
theorem passP {X : Cx} (σ : St) : PassesAt CX0 X σ E0 := fun _ _ _ _ _ _ h => h.elim
theorem LsAt.at {H : Hp} {a : Addr} {ss : List Str} (h : LsAt H (.ref a) ss) : H a = some (.lst (ss.map V.str)) := by
  obtain ⟨b, e, h1, _⟩ := h
  cases e
  exact h1
theorem LsAt.dq {K : PySem.W.Frag} {H : Hp} {a : Addr} {ss : List Str} (h : LsAt H (.ref a) ss) : Dq K H (.ref a) (lsD ss) := .lst (SqL.of h.at) (dqStrs ss)
theorem LsAt.wd {H : Hp} {x : V} {ss : List Str} (h : LsAt H x ss) : Wd ss := let ⟨_, _, _, w, _⟩ := h; w
theorem LsAt.le {H : Hp} {x : V} {ss : List Str} (h : LsAt H x ss) : ss.length ≤ 60 := let ⟨_, _, _, _, l⟩ := h; l
theorem DfAt.updL {H : Hp} {t p : Addr} {ps : List (Nat × Nat)} {xs ys : List V} (h : DfAt H t ps) (k : H p = some (.lst xs)) : DfAt (upd H p (.lst ys)) t ps := by
  obtain ⟨rs, h1, h2⟩ := h
  refine ⟨rs, ?_, h2.updL k⟩
  rw [upd_ne (ne_of h1 k (by intro z; cases z))]
  exact h1
theorem same_new {H H1 : Hp} {p : Addr} {o o' : HO} (n : H p = none) (s : Same (upd H p o) H1) : Same H (upd H1 p o') := fun b u e => by
  rw [upd_ne (ne_of_none e n)]
  exact s _ _ (same_upd n _ _ e)
theorem isdiff_ok {K : PySem.W.Frag} {CT : Addr} {H : Hp} {x1 x2 v : V} {ss1 ss2 : List Str} {ps : List (Nat × Nat)} {Q : VK} {E : XK} (t1 : TxV K H x1 ss1) (t2 : TxV K H x2 ss2) (hv : DfV K H v ps) (h : IsDf ss1 ss2 ps) (z : ∀ H', Same H H' → Q (.bl true) H') : spIsDiff K CT [x1, x2, v] H Q E := by
  have l1 := t1.len
  obtain ⟨d1, a1, b1, rfl⟩ := t1
  obtain ⟨d2, a2, b2, rfl⟩ := t2
  have hl := df_len h
  refine ⟨x1, x2, v, d1, d2, dfD ps, rfl, a1, a2, hv, ?_, fun _ _ => ?_, BadT.none (by simp [b1, b2])⟩
  · show (ps.map tupD).length ≤ 1000
    rw [List.length_map]
    omega
  · rw [df_ok h]
    exact z
theorem Shw.line {n k : Nat} {d : PyData} (h : Shw n k d) (hn : n ≤ 8000) : d.shown.length ≤ sizeLine := Nat.le_trans h.len (Nat.le_trans hn line_ge)
theorem Shw.low {n k : Nat} {d : PyData} (h : Shw n k d) (hk : k ≤ 60) : d.depth ≤ 60 := Nat.le_trans h.dep hk
def twice (ps : List (Nat × Nat)) : PyData := .list [dfD ps, dfD ps]
theorem shw_twice {ss1 ss2 : List Str} {ps : List (Nat × Nat)} (h : IsDf ss1 ss2 ps) (l1 : ss1.length ≤ 60) (l2 : ss2.length ≤ 60) : Shw 1572 4 (twice ps) := by
  refine Shw.list (n := 783) (k := 3) (m := 2) (fun d hd => ?_) (Nat.le_refl 2)
  simp only [List.mem_cons, List.not_mem_nil, or_false] at hd
  rcases hd with rfl | rfl <;> exact shw_df h l1 l2
theorem dq_twice {K : PySem.W.Frag} {H : Hp} {p : Addr} {x y : V} {ps : List (Nat × Nat)} (h : H p = some (.lst [x, y])) (k1 : DfV K H x ps) (k2 : DfV K H y ps) : Dq K H (.ref p) (twice ps) := .lst (SqL.of h) (.cons k1 (.cons k2 .nil))
theorem LsAt.but {p : Addr} {H H' : Hp} {x : V} {ss : List Str} (b : But p H H') (hp : PotAt H p) (h : LsAt H x ss) : LsAt H' x ss := let ⟨a, e, h1, h2⟩ := h; ⟨a, e, b _ _ h1 (lst_ne hp h1).symm, h2⟩
theorem DfX.but {a t : Addr} {H H' : Hp} {ps : List (Nat × Nat)} (b : But a H H') (hp : PotAt H a) (h : DfX H t ps) : DfX H' t ps := by
  obtain ⟨o, rs, h1, h2, h3, h4⟩ := h
  refine ⟨o, rs, b _ _ h1 (fun e => ?_), h2, h3, h4.but b hp⟩
  obtain ⟨p, q, h, _⟩ := hp
  rw [e, h] at h1
  cases h1
def turn3 {α : Type} : List α → List α → List α
  | [], [a, b, c] => [c, b, a]
  | _, _ => []
theorem turn3_rel {vs : List V} {us : List Value} {zs : List V} {ws : List Value} (r : Vals vs us) (t : Vals zs ws) : Vals (turn3 vs zs) (turn3 us ws) := by
  cases r with
  | cons _ _ => exact .nil
  | nil =>
    cases t with
    | nil => exact .nil
    | cons a t => cases t with
      | nil => exact .nil
      | cons b t => cases t with
        | nil => exact .nil
        | cons c t => cases t with
          | nil => exact .cons c (.cons b (.cons a .nil))
          | cons d t => exact .nil
theorem turn3_len {us ws : List Value} (h : (turn3 us ws).length = 3) : ∃ a b c, us = [] ∧ ws = [a, b, c] := by
  unfold turn3 at h
  split at h
  · exact ⟨_, _, _, rfl, rfl⟩
  · cases h
section
variable {K : PySem.W.Frag} {x qual : Str} {st : Stmt} {f : Addr} {fd : FuncData} {p1 p2 p3 : Str}
theorem kb3 (F : Fun K x qual st f fd) (h : ∀ (kV doc pm : Value) (an : Option Addr) (cdv ct a b c : Value), bindArgs (PySem.W.fnOf x qual (defArgs st) (defBody st) (defScope st) .none kV doc pm an cdv ct) ⟨[], [(p3, a), (p2, b), (p1, c)]⟩ = pure [(p1, c), (p2, b), (p3, a)]) :
    KBinds K fd [p1, p2, p3] [p3, p2, p1] turn3 turn3 := by
  obtain ⟨oc, od, kV, doc, pm, an, cdv, ct, osl, rfl, lk, hcd⟩ := F.ex
  refine ⟨fun s us ws _ hl => ?_, turn3_rel⟩
  obtain ⟨a, b, c, rfl, rfl⟩ := turn3_len hl
  exact .of_eq (h kV doc pm an cdv ct a b c)
end
end XR
namespace XR
open PySem L2
theorem dfFrom_of' (ss1 ss2 : List Str) : ∀ (ps : List (Nat × Nat)) (a c : Nat), (∀ q, q ∈ ps → a < q.1 ∧ c < q.2 ∧ q.1 ≤ ss1.length ∧ q.2 ≤ ss2.length ∧ ss1[q.1 - 1]? = ss2[q.2 - 1]?) → ps.Pairwise (fun x y => x.1 < y.1 ∧ x.2 < y.2) → a ≤ ss1.length → c ≤ ss2.length → DfFrom ss1 ss2 a c ps
  | [], a, c, _, _, ha, hc => ⟨ha, hc⟩
  | (i, j) :: ps, a, c, h, hp, ha, hc => by
    obtain ⟨h1, h2, h3, h4, h5⟩ := h (i, j) (List.mem_cons_self ..)
    have hp2 := List.pairwise_cons.mp hp
    exact ⟨h1, h2, h3, h4, h5, dfFrom_of' ss1 ss2 ps i j (fun q hq => ⟨(hp2.1 q hq).1, (hp2.1 q hq).2, (h q (List.mem_cons_of_mem _ hq)).2.2⟩) hp2.2 h3 h4⟩
theorem dfFrom_of {ss1 ss2 : List Str} {ps : List (Nat × Nat)} (h : IsDf ss1 ss2 ps) : DfFrom ss1 ss2 0 0 ps :=
  dfFrom_of' ss1 ss2 ps 0 0 (fun q hq => by
    obtain ⟨a1, a2, b1, b2, s, e1, e2⟩ := h.1 q hq
    exact ⟨a1, b1, a2, b2, by rw [e1, e2]⟩) h.2 (Nat.zero_le _) (Nat.zero_le _)
theorem isDf_from {ss1 ss2 : List Str} : ∀ {ps : List (Nat × Nat)} {a c : Nat}, DfFrom ss1 ss2 a c ps → IsDf ss1 ss2 ps ∧ ∀ q, q ∈ ps → a < q.1 ∧ c < q.2
  | [], _, _, _ => ⟨⟨fun q h => (by cases h), List.Pairwise.nil⟩, fun q h => (by cases h)⟩
  | (i, j) :: ps, a, c, h => by
    obtain ⟨h1, h2, h3, h4, h5, h6⟩ := h
    obtain ⟨⟨d1, d2⟩, d3⟩ := isDf_from h6
    refine ⟨⟨fun q hq => ?_, List.pairwise_cons.mpr ⟨d3, d2⟩⟩, fun q hq => ?_⟩
    · rcases List.mem_cons.mp hq with rfl | hq
      · have hlt : i - 1 < ss1.length := by omega
        exact ⟨by show 1 ≤ i; omega, h3, by show 1 ≤ j; omega, h4, ss1[i - 1], List.getElem?_eq_getElem hlt, by rw [← h5]; exact List.getElem?_eq_getElem hlt⟩
      · exact d1 q hq
    · rcases List.mem_cons.mp hq with rfl | hq
      · exact ⟨h1, h2⟩
      · have := d3 q hq
        omega
def turnW (w : Str) : Str := if w = goW then coW else if w = coW then goW else w
def turnE (e : Ent) : Ent := (turnW e.1, e.2)
theorem turn_kp : turnW kpW = kpW := by decide
theorem turn_go : turnW goW = coW := by decide
theorem turn_co : turnW coW = goW := by decide
theorem turn_wds {es : List Ent} (h : Wds es) : Wds (es.map turnE) := fun e he => by
  obtain ⟨f, hf, rfl⟩ := List.mem_map.mp he
  rcases h f hf with e | e | e
  · exact .inl (by show turnW f.1 = _; rw [e]; rfl)
  · exact .inr (.inr (by show turnW f.1 = _; rw [e]; rfl))
  · exact .inr (.inl (by show turnW f.1 = _; rw [e]; rfl))
theorem turn_old : ∀ {es : List Ent}, Wds es → oldL (es.map turnE) = newL es
  | [], _ => rfl
  | (w, s) :: es, h => by
    have ih := turn_old h.tail
    rcases h (w, s) (List.mem_cons_self ..) with e | e | e
    · obtain rfl : w = kpW := e
      rw [List.map_cons, show turnE (kpW, s) = (kpW, s) from rfl, old_keep, new_keep, ih]
    · obtain rfl : w = goW := e
      rw [List.map_cons, show turnE (goW, s) = (coW, s) from rfl, old_come, new_go, ih]
    · obtain rfl : w = coW := e
      rw [List.map_cons, show turnE (coW, s) = (goW, s) from rfl, old_go, new_come, ih]
theorem turn_new : ∀ {es : List Ent}, Wds es → newL (es.map turnE) = oldL es
  | [], _ => rfl
  | (w, s) :: es, h => by
    have ih := turn_new h.tail
    rcases h (w, s) (List.mem_cons_self ..) with e | e | e
    · obtain rfl : w = kpW := e
      rw [List.map_cons, show turnE (kpW, s) = (kpW, s) from rfl, old_keep, new_keep, ih]
    · obtain rfl : w = goW := e
      rw [List.map_cons, show turnE (goW, s) = (coW, s) from rfl, new_come, old_go, ih]
    · obtain rfl : w = coW := e
      rw [List.map_cons, show turnE (coW, s) = (goW, s) from rfl, new_go, old_come, ih]
theorem turn_twice : ∀ {es : List Ent}, Wds es → (es.map turnE).map turnE = es
  | [], _ => rfl
  | (w, s) :: es, h => by
    rw [List.map_cons, List.map_cons, turn_twice h.tail]
    rcases h (w, s) (List.mem_cons_self ..) with e | e | e
    · obtain rfl : w = kpW := e; rfl
    · obtain rfl : w = goW := e; rfl
    · obtain rfl : w = coW := e; rfl
/-- a script: its words, its lines, at most sixty lines of each text -/
structure IsScr (es : List Ent) : Prop where
  wd : Wds es
  ln : ∀ e ∈ es, isLine (.str e.2) = true
  o : (oldL es).length ≤ 60
  n : (newL es).length ≤ 60
theorem scr_len : ∀ {es : List Ent}, Wds es → es.length ≤ (oldL es).length + (newL es).length
  | [], _ => Nat.zero_le _
  | (w, s) :: es, h => by
    have ih := scr_len h.tail
    rcases h (w, s) (List.mem_cons_self ..) with e | e | e
    · obtain rfl : w = kpW := e
      rw [old_keep, new_keep, List.length_cons, List.length_cons, List.length_cons]; omega
    · obtain rfl : w = goW := e
      rw [old_go, new_go, List.length_cons, List.length_cons]; omega
    · obtain rfl : w = coW := e
      rw [old_come, new_come, List.length_cons, List.length_cons]; omega
theorem IsScr.len {es : List Ent} (h : IsScr es) : es.length ≤ 120 := by
  have := scr_len h.wd
  have := h.o
  have := h.n
  omega
theorem IsScr.turn {es : List Ent} (h : IsScr es) : IsScr (es.map turnE) :=
  ⟨turn_wds h.wd, fun e he => by
    obtain ⟨f, hf, rfl⟩ := List.mem_map.mp he
    exact h.ln f hf, by rw [turn_old h.wd]; exact h.n, by rw [turn_new h.wd]; exact h.o⟩
theorem old_take_le (es : List Ent) (i : Nat) : (oldL (es.take i)).length ≤ (oldL es).length := by
  conv => rhs; rw [← List.take_append_drop i es, oldL_append, List.length_append]
  exact Nat.le_add_right _ _
theorem new_take_le (es : List Ent) (i : Nat) : (newL (es.take i)).length ≤ (newL es).length := by
  conv => rhs; rw [← List.take_append_drop i es, newL_append, List.length_append]
  exact Nat.le_add_right _ _
theorem take_snoc {es : List Ent} {i : Nat} {e : Ent} (h : es[i]? = some e) : es.take (i + 1) = es.take i ++ [e] := by rw [List.take_add_one, h]; rfl
theorem old_one (e : Ent) : oldL [e] = if e.1 ≠ coW then [e.2] else [] := by
  unfold oldL
  rw [List.filter_cons]
  by_cases h : e.1 ≠ coW
  · rw [if_pos (decide_eq_true h), if_pos h]; rfl
  · rw [if_neg (by rw [decide_eq_false h]; decide), if_neg h]; rfl
theorem new_one (e : Ent) : newL [e] = if e.1 ≠ goW then [e.2] else [] := by
  unfold newL
  rw [List.filter_cons]
  by_cases h : e.1 ≠ goW
  · rw [if_pos (decide_eq_true h), if_pos h]; rfl
  · rw [if_neg (by rw [decide_eq_false h]; decide), if_neg h]; rfl
/-! ### scripts as values -/
def entD (e : Ent) : PyData := .tuple [.str e.1, .str e.2]
def enD : Bool → List Ent → PyData
  | true => fun es => .list (es.map entD)
  | false => fun es => .tuple (es.map entD)
def entO (e : Ent) : HO := .tup [.str e.1, .str e.2]
/-- rs: where the entries stand -/
def EsAt (H : Hp) (rs : List Addr) (es : List Ent) : Prop := rs.length = es.length ∧ ∀ (i : Nat) (e : Ent), es[i]? = some e → ∃ r : Addr, rs[i]? = some r ∧ H r = some (entO e)
theorem EsAt.same {H H' : Hp} {rs : List Addr} {es : List Ent} (s : Same H H') (h : EsAt H rs es) : EsAt H' rs es :=
  ⟨h.1, fun i e he => let ⟨r, h1, h2⟩ := h.2 i e he; ⟨r, h1, s _ _ h2⟩⟩
theorem EsAt.nil {H : Hp} : EsAt H [] [] := ⟨rfl, fun i e h => by simp at h⟩
theorem EsAt.append {H : Hp} {rs rs' : List Addr} {es es' : List Ent} (h : EsAt H rs es) (k : EsAt H rs' es') : EsAt H (rs ++ rs') (es ++ es') := by
  refine ⟨by rw [List.length_append, List.length_append, h.1, k.1], fun i q hq => ?_⟩
  by_cases hi : i < es.length
  · rw [List.getElem?_append_left hi] at hq
    rw [List.getElem?_append_left (by rw [h.1]; exact hi)]
    exact h.2 i q hq
  · rw [List.getElem?_append_right (by omega)] at hq
    rw [List.getElem?_append_right (by rw [h.1]; omega), h.1]
    exact k.2 _ q hq
theorem EsAt.one {H : Hp} {r : Addr} {e : Ent} (h : H r = some (entO e)) : EsAt H [r] [e] := ⟨rfl, fun i q hq => by
  rcases i with _ | i
  · cases hq; exact ⟨r, rfl, h⟩
  · simp at hq⟩
theorem EsAt.updL {H : Hp} {rs : List Addr} {es : List Ent} {p : Addr} {xs ys : List V} (h : EsAt H rs es) (k : H p = some (.lst xs)) : EsAt (upd H p (.lst ys)) rs es :=
  ⟨h.1, fun i q hq => let ⟨r, h1, h2⟩ := h.2 i q hq; ⟨r, h1, by rw [upd_ne (fun e => by rw [e, k] at h2; cases h2)]; exact h2⟩⟩
theorem EsAt.dq {K : PySem.W.Frag} {H : Hp} : ∀ {rs : List Addr} {es : List Ent}, EsAt H rs es → DqAll K H (refs rs) (es.map entD)
  | [], [], _ => .nil
  | [], p :: ps, h => absurd h.1 (by simp)
  | r :: rs, [], h => absurd h.1 (by simp)
  | r :: rs, p :: ps, h => by
    obtain ⟨r', e1, e2⟩ := h.2 0 p rfl
    obtain rfl : r = r' := Option.some.inj e1
    exact .cons (.tup (.inl (.inl e2)) (.cons (.str _) (.cons (.str _) .nil))) (EsAt.dq ⟨by simpa using h.1, fun i q hq => h.2 (i + 1) q hq⟩)
/-- a script as a value, a list (true) or a tuple -/
def EnV (K : PySem.W.Frag) (H : Hp) (x : V) (b : Bool) (es : List Ent) : Prop := Dq K H x (enD b es)
theorem EnV.same {K : PySem.W.Frag} {H H' : Hp} {x : V} {b : Bool} {es : List Ent} (s : Same H H') (h : EnV K H x b es) : EnV K H' x b es := Dq.same s h
theorem EnV.items {K : PySem.W.Frag} {H : Hp} {x : V} {b : Bool} {es : List Ent} (h : EnV K H x b es) : ∃ (a : Addr) (xs : List V), x = .ref a ∧ SqW K b H a xs ∧ xs.length = es.length ∧ ∀ (i : Nat) (v : V), xs[i]? = some v → ∃ (e : Ent) (r : Addr), es[i]? = some e ∧ v = .ref r ∧ SqT K H r [.str e.1, .str e.2] := by
  have key : ∀ {xs : List V}, DqAll K H xs (es.map entD) → xs.length = es.length ∧ ∀ (i : Nat) (v : V), xs[i]? = some v → ∃ (e : Ent) (r : Addr), es[i]? = some e ∧ v = .ref r ∧ SqT K H r [.str e.1, .str e.2] := fun {xs} h2 => by
    refine ⟨by rw [h2.length, List.length_map], fun i v hv => ?_⟩
    obtain ⟨d, hd, hq⟩ := h2.get hv
    rw [List.getElem?_map] at hd
    obtain ⟨e, e1, rfl⟩ := Option.map_eq_some_iff.mp hd
    unfold entD at hq
    cases hq with
    | @tup r ys ds k1 k2 =>
      obtain ⟨d1, d2, y1, y2, e3, rfl, m1, m2⟩ := k2.two rfl
      injection e3 with e3 e4
      injection e4 with e4 _
      subst e3 e4
      cases m1
      cases m2
      exact ⟨e, r, e1, rfl, k1⟩
  cases b with
  | true =>
    have h' : Dq K H x (.list (es.map entD)) := h
    cases h' with
    | lst h1 h2 => exact ⟨_, _, rfl, h1, (key h2).1, (key h2).2⟩
  | false =>
    have h' : Dq K H x (.tuple (es.map entD)) := h
    cases h' with
    | tup h1 h2 => exact ⟨_, _, rfl, h1, (key h2).1, (key h2).2⟩
/-! ### a walk over a list or a tuple -/
def ItW (K : PySem.W.Frag) (a : Addr) : Bool → It
  | true => Itl K a
  | false => Itt K a
def iW (K : PySem.W.Frag) (tl : TE) : TI := fun σ H R => tl σ H fun x H1 => ∃ a b, x = .ref a ∧ (∃ xs, SqW K b H1 a xs) ∧ R (ItW K a b) H1
theorem pi_w {X : Cx} {tg e : Expr} {tl : TE} (hl : PI X tg e (iList X.K tl)) (ht : PI X tg e (iTup X.K tl)) (ho : ∀ σ H R, iW X.K tl σ H R → iList X.K tl σ H R ∨ iTup X.K tl σ H R) : PI X tg e (iW X.K tl) := ⟨fun pins s σ H R I h => by
  rcases ho σ H R h with h | h
  · exact hl.run pins s σ H R I h
  · exact ht.run pins s σ H R I h⟩
theorem walk_w {K : PySem.W.Frag} {a : Addr} {b : Bool} {xs : List V} : Walk (ItW K a b) xs.length (fun H => SqW K b H a xs) (YAt xs) := by
  cases b with
  | true => exact ⟨fun i _ hi q => ⟨xs, xs[i], q, by simp [hi]⟩, fun _ q => ⟨xs, q, Nat.le_refl _⟩, fun i H x H' _ q y => ⟨y.1, y.2 xs q⟩⟩
  | false => exact ⟨fun i _ hi q => ⟨xs, xs[i], q, by simp [hi]⟩, fun _ q => ⟨xs, q, Nat.le_refl _⟩, fun i H x H' _ q y => ⟨y.1, y.2 xs q⟩⟩
end XR
namespace XR
open PySem L2
theorem pi_wv {X : Cx} {tg e : Expr} {i : Nat} (he : PE X e (tVar i)) : PI X tg e (iW X.K (tVar i)) := pi_w (pi_list he) (pi_tup he) (fun σ H R h => by
  obtain ⟨x, e, a, b, rfl, ⟨xs, hx⟩, r⟩ := h
  cases b with
  | true => exact .inl ⟨_, e, a, rfl, ⟨xs, hx⟩, r⟩
  | false => exact .inr ⟨_, e, a, rfl, ⟨xs, hx⟩, r⟩)
def wordsV : List V := [.str kpW, .str goW, .str coW]
/-- the module's tuple of words -/
def WordsAt (K : PySem.W.Frag) (t : Addr) : Prop := ∀ H : Hp, SqT K H t wordsV
theorem in_words {w : Str} (h : w = kpW ∨ w = goW ∨ w = coW) : inV (.str w) wordsV = true := by
  rcases h with rfl | rfl | rfl <;> decide +kernel
def spEntry (K : PySem.W.Frag) : Sp := fun vs H Q _ => ∃ (r : Addr) (e : Ent), vs = [.ref r] ∧ SqT K H r [.str e.1, .str e.2] ∧ (e.1 = kpW ∨ e.1 = goW ∨ e.1 = coW) ∧ isLine (.str e.2) = true ∧ ∀ H', Same H H' → Q (.bl true) H'
def spFlaw (K : PySem.W.Frag) : Sp := fun vs H Q _ => ∃ (x : V) (b : Bool) (es : List Ent), vs = [x] ∧ EnV K H x b es ∧ IsScr es ∧ ∀ H', Same H H' → Q (.int (es.length : Int)) H'
def spIsScr (K : PySem.W.Frag) : Sp := fun vs H Q _ => ∃ (x : V) (b : Bool) (es : List Ent), vs = [x] ∧ EnV K H x b es ∧ IsScr es ∧ ∀ H', Same H H' → Q (.bl true) H'
def spChkS (K : PySem.W.Frag) : Sp := fun vs H Q _ => ∃ (x : V) (b : Bool) (es : List Ent), vs = [x] ∧ EnV K H x b es ∧ IsScr es ∧ ∀ H', Same H H' → Q .non H'
theorem EnV.len {K : PySem.W.Frag} {H : Hp} {x : V} {b : Bool} {es : List Ent} (h : EnV K H x b es) : ∃ a xs, x = .ref a ∧ (SqL K H a xs ∨ SqT K H a xs) ∧ xs.length = es.length := by
  obtain ⟨a, xs, rfl, hw, hl, _⟩ := h.items
  cases b with
  | true => exact ⟨a, xs, rfl, .inl hw, hl⟩
  | false => exact ⟨a, xs, rfl, .inr hw, hl⟩
theorem EnV.seq {b : Bool} {es : List Ent} : isSeq (enD b es) = true := by cases b <;> rfl
end XR
namespace K17
open PySem L2 XR
section
variable {P : Program} {w : World} {K : PySem.W.Frag} {mg : Str → Option Value} {base : Heap}
abbrev sEntry : Stmt := top 24
theorem scEntry : FnScope ["value"] ["value"] (defScope sEntry) := ⟨rfl, rfl, rfl, by decide +kernel, rfl, by decide +kernel, by decide +kernel⟩
theorem ok_entry {f fT fL tW : Addr} {fd fdT fdL : FuncData} (F : Fun K "is_entry" "is_entry" sEntry f fd) (T : Blt mg) (mW : mg "WORDS" = some (.ref tW)) (hW : WordsAt K tW)
    (FT : Fun K "is_tuple" "is_tuple" sIsTuple fT fdT) (bT : Binds K fdT ["value", "many"] []) (mT : mg "is_tuple" = some (.ref fT))
    (FL : Fun K "is_line" "is_line" sLine fL fdL) (bL : Binds K fdL ["value"] []) (mL : mg "is_line" = some (.ref fL)) : FnOk P w K mg base CX0 2 f fd ["value"] (spEntry K) := by
  have GT := ok_tup (P := P) (w := w) (base := base) FT T
  have GL := ok_line (P := P) (w := w) (base := base) FL T
  refine F.ok scEntry (fun vs H Q E h => ?_) (fun cdv A outer s H vs Q E hr h => ?_)
  · obtain ⟨r, e, rfl, _⟩ := h
    rfl
  · obtain ⟨r, ⟨w1, s1⟩, rfl, hr1, hw, hl, z⟩ := h
    refine ⟨_, pss_cons (ps_if (PW.pt (pw_or (pt_not (pt_val (pe_call GT hr rfl mT FT.kp bT .nil pass0 (pa_cons (pv 0) (pa_cons pe_int pa_nil))))) (pw_or1 (pt_not (pt_val (pe_call GL hr rfl mL FL.kp bL .nil pass0 (pa_cons (pe_ix ix_tup (pv 0) pe_int (fun _ _ => rfl)) pa_nil))))))) (pss_one (ps_ret pe_bl)) pss_nil)
      (pss_one (ps_ret (pe_and (pe_callB call_isi (by rfl) T.isin (by decide +kernel) (pa_cons (pe_ix ix_tup (pv 0) pe_int (fun _ _ => rfl)) (pa_cons (pe_bltn (v := .ty "str") (u := .type "str") (by rfl) (T.all "str" (by decide)) (by decide +kernel) rfl) pa_nil)))
        (pe_one (pe_cmpR op_in_seq (pe_ix ix_tup (pv 0) pe_int (fun _ _ => rfl)) (pe_glob (v := .ref tW) (by rfl) mW rfl) (by rfl)))))), ?_⟩
    have hd : Dq K H (.ref r) (.tuple [.str w1, .str s1]) := .tup hr1 (.cons (.str _) (.cons (.str _) .nil))
    refine ⟨_, rfl, .ref r, _, 2, rfl, hd, fun H1 t1 => ⟨_, rfl, ?_⟩⟩
    have hr2 := XR.Same.tup t1 hr1
    refine iteF ⟨_, rfl, r, _, _, _, rfl, rfl, hr2, show atI _ ((1 : Nat) : Int) = some (V.str s1) from atI_nat (j := 1) rfl, .str s1, .str s1, rfl, .str _, fun H2 t2 => ⟨_, rfl, ?_⟩⟩
    rw [hl]
    have hr3 := XR.Same.tup t2 hr2
    have t12 := t1.trans t2
    refine iteF ⟨_, rfl, r, _, _, _, rfl, rfl, hr3, show atI _ ((0 : Nat) : Int) = some (V.str w1) from atI_nat (j := 0) rfl, _, _, _, _, _, rfl, .ty "str", (Dq.str (K := K) (H := H2) w1).ty, kit_ty (kit_str (.str w1)), _, rfl, ?_⟩
    refine iteT ⟨_, rfl, r, _, _, _, rfl, rfl, hr3, show atI _ ((0 : Nat) : Int) = some (V.str w1) from atI_nat (j := 0) rfl, ?_⟩
    refine ⟨tW, wordsV, rfl, .inr (hW H2), rfl, rfl, ?_⟩
    have ein : inV (.str w1) wordsV = true := in_words hw
    rw [if_neg (by decide), ein]
    exact z _ t12
abbrev sFlaw : Stmt := top 25
abbrev nFlaw : List Str := ["items", "from_old", "to_new", "index", "item"]
theorem scFlaw : FnScope nFlaw ["items"] (defScope sFlaw) := ⟨rfl, rfl, rfl, by decide +kernel, rfl, by decide +kernel, by decide +kernel⟩
theorem ok_flaw {f fE : Addr} {fd fdE : FuncData} {tm : Nat} (F : Fun K "first_flaw" "first_flaw" sFlaw f fd) (T : Blt mg) (mM : mg "MOST" = some (.int 60 tm))
    (FE : Fun K "is_entry" "is_entry" sEntry fE fdE) (GE : FnOk P w K mg base CX0 2 fE fdE ["value"] (spEntry K)) (bE : Binds K fdE ["value"] []) (mE : mg "is_entry" = some (.ref fE)) : FnOk P w K mg base CX0 3 f fd ["items"] (spFlaw K) := by
  refine F.ok scFlaw (fun vs H Q E h => ?_) (fun cdv A outer s H vs Q E hr h => ?_)
  · obtain ⟨x, b, es, rfl, _⟩ := h
    rfl
  · obtain ⟨x, b, es, rfl, he, hs, z⟩ := h
    refine ⟨_, pss_cons (ps_asg (pe_tup (pa_cons pe_int (pa_cons pe_int pa_nil))) (pg_tup rfl (pgs_cons (pg_name (i := 1) scFlaw.nd rfl (.inl rfl)) (pgs_cons (pg_name (i := 2) scFlaw.nd rfl (.inl rfl)) pgs_nil))))
      (pss_cons (ps_for PassesOwn.never rfl (pi_enumW0 rfl T.enum (pa_cons (pv 0) pa_nil)) (pg_tup rfl (pgs_cons (pg_name (i := 3) scFlaw.nd rfl (.inl rfl)) (pgs_cons (pg_name (i := 4) scFlaw.nd rfl (.inl rfl)) pgs_nil)))
        (pss_cons (ps_if (pt_not (pt_val (pe_call GE hr rfl mE FE.kp bE .nil pass0 (pa_cons (pv 4) pa_nil)))) (pss_one (ps_ret (pv 3))) pss_nil)
        (pss_cons (ps_if (pt_cmpR op_ne (pe_ix ix_tup (pv 4) pe_int (fun _ _ => rfl)) pe_str (nomark _)) (pss_one (ps_aug (i := 1) scFlaw.nd rfl (.inl rfl) pe_int ip_add)) pss_nil)
        (pss_cons (ps_if (pt_cmpR op_ne (pe_ix ix_tup (pv 4) pe_int (fun _ _ => rfl)) pe_str (nomark _)) (pss_one (ps_aug (i := 2) scFlaw.nd rfl (.inl rfl) pe_int ip_add)) pss_nil)
        (pss_one (ps_if (PW.pt (pw_or (pt_cmpR op_gt (pv 1) (pe_glob (v := .int 60) (by rfl) mM ⟨_, rfl⟩) (nomark _)) (pw_or1 (pt_cmpR op_gt (pv 2) (pe_glob (v := .int 60) (by rfl) mM ⟨_, rfl⟩) (nomark _))))) (pss_one (ps_ret (pv 3))) pss_nil))))))
      (pss_one (ps_ret (pe_callB call_len_seq (by rfl) T.len PySem.boot_len (pa_cons (pv 0) pa_nil))))), ?_⟩
    obtain ⟨a, xs, rfl, hw, hl, hx⟩ := he.items
    refine ⟨ll20 (by show 2 ≤ 20; decide), fun t0 nt0 => ?_⟩
    have s0 := same_upd (o := .tup [V.int 0, V.int 0]) nt0
    refine ⟨t0, _, rfl, .inl (.inl upd_same), rfl, _, _, rfl, _, _, rfl, rfl, ?_⟩
    refine ⟨_, rfl, a, xs, b, rfl, hw.same s0, ?_⟩
    refine for_it walk_enumW (fun i σ H' => Same H H' ∧ ∃ y3 y4, σ = [some (V.ref a), some (V.int ((oldL (es.take i)).length : Int)), some (V.int ((newL (es.take i)).length : Int)), y3, y4]) ⟨s0, _, _, rfl⟩ (fun i σ H' _ hh => hw.same hh.1) ?_ ?_
    · rintro i v σ Ha Hb hi ⟨sm, y3, y4, rfl⟩ ⟨t, y1, y2, rfl, nt, rfl, e1, e2⟩
      cases e1
      obtain ⟨⟨w1, l1⟩, r, he1, rfl, hr1⟩ := hx i _ e2
      have st := same_upd (o := .tup [V.int ((i + 0 : Nat) : Int), V.ref r]) nt
      have sm1 := sm.trans st
      refine ⟨t, _, rfl, .inl (.inl upd_same), rfl, _, _, rfl, _, _, rfl, rfl, ?_⟩
      generalize upd Ha t (.tup [V.int ((i + 0 : Nat) : Int), V.ref r]) = Hb at st sm1 ⊢
      have mem : (w1, l1) ∈ es := List.mem_of_getElem? he1
      refine ⟨_, rfl, r, (w1, l1), rfl, XR.Same.tup sm1 hr1, hs.wd _ mem, hs.ln _ mem, fun Hc sc => ⟨_, rfl, iteF ?_⟩⟩
      have smc := sm1.trans sc
      have hrc := XR.Same.tup smc hr1
      have at0 : atI [V.str w1, V.str l1] ((0 : Nat) : Int) = some (V.str w1) := atI_nat (j := 0) rfl
      have tk := take_snoc he1
      have oN : (oldL (es.take (i + 1))).length = (oldL (es.take i)).length + (if w1 ≠ coW then 1 else 0) := by
        rw [tk, oldL_append, List.length_append, old_one]
        split <;> rfl
      have nN : (newL (es.take (i + 1))).length = (newL (es.take i)).length + (if w1 ≠ goW then 1 else 0) := by
        rw [tk, newL_append, List.length_append, XR.new_one]
        split <;> rfl
      have lo : (oldL (es.take (i + 1))).length ≤ 60 := Nat.le_trans (old_take_le _ _) hs.o
      have ln : (newL (es.take (i + 1))).length ≤ 60 := Nat.le_trans (new_take_le _ _) hs.n
      have dw : ∀ u : Str, decide (V.str w1 = V.str u) = decide (w1 = u) := fun u => by
        by_cases e : w1 = u
        · rw [e, decide_eq_true rfl, decide_eq_true rfl]
        · rw [decide_eq_false e, decide_eq_false (fun h => e (by injection h))]
      rcases hs.wd _ mem with e | e | e
      · obtain rfl : w1 = kpW := e
        have d1 : decide (V.str kpW = V.str "come") = false := by decide +kernel
        have d2 : decide (V.str kpW = V.str "go") = false := by decide +kernel
        rw [if_pos (by decide)] at oN
        rw [if_pos (by decide)] at nN
        refine ⟨_, rfl, r, _, _, _, rfl, rfl, hrc, at0, rfl, _, rfl, ?_⟩
        rw [d1]
        refine iteT ⟨_, rfl, _, _, rfl, rfl, _, rfl, r, _, _, _, rfl, rfl, hrc, at0, rfl, _, rfl, ?_⟩
        rw [d2]
        refine iteT ⟨_, rfl, _, _, rfl, rfl, _, rfl, _, _, rfl, rfl, _, rfl, ?_⟩
        rw [decide_eq_false (show ¬ ((oldL (es.take i)).length : Int) + 1 > 60 by omega)]
        refine iteF ⟨_, rfl, _, _, rfl, rfl, _, rfl, ?_⟩
        rw [decide_eq_false (show ¬ ((newL (es.take i)).length : Int) + 1 > 60 by omega)]
        refine iteF ⟨smc, some (V.int ((i + 0 : Nat) : Int)), some (V.ref r), ?_⟩
        rw [oN, nN]
        rfl
      · obtain rfl : w1 = goW := e
        have d1 : decide (V.str goW = V.str "come") = false := by decide +kernel
        have d2 : decide (V.str goW = V.str "go") = true := by decide +kernel
        rw [if_pos (by decide)] at oN
        rw [if_neg (by decide)] at nN
        refine ⟨_, rfl, r, _, _, _, rfl, rfl, hrc, at0, rfl, _, rfl, ?_⟩
        rw [d1]
        refine iteT ⟨_, rfl, _, _, rfl, rfl, _, rfl, r, _, _, _, rfl, rfl, hrc, at0, rfl, _, rfl, ?_⟩
        rw [d2]
        refine iteF ⟨_, rfl, _, _, rfl, rfl, _, rfl, ?_⟩
        rw [decide_eq_false (show ¬ ((oldL (es.take i)).length : Int) + 1 > 60 by omega)]
        refine iteF ⟨_, rfl, _, _, rfl, rfl, _, rfl, ?_⟩
        rw [decide_eq_false (show ¬ ((newL (es.take i)).length : Int) > 60 by omega)]
        refine iteF ⟨smc, some (V.int ((i + 0 : Nat) : Int)), some (V.ref r), ?_⟩
        rw [oN, nN]
        rfl
      · obtain rfl : w1 = coW := e
        have d1 : decide (V.str coW = V.str "come") = true := by decide +kernel
        have d2 : decide (V.str coW = V.str "go") = false := by decide +kernel
        rw [if_neg (by decide)] at oN
        rw [if_pos (by decide)] at nN
        refine ⟨_, rfl, r, _, _, _, rfl, rfl, hrc, at0, rfl, _, rfl, ?_⟩
        rw [d1]
        refine iteF ⟨_, rfl, r, _, _, _, rfl, rfl, hrc, at0, rfl, _, rfl, ?_⟩
        rw [d2]
        refine iteT ⟨_, rfl, _, _, rfl, rfl, _, rfl, _, _, rfl, rfl, _, rfl, ?_⟩
        rw [decide_eq_false (show ¬ ((oldL (es.take i)).length : Int) > 60 by omega)]
        refine iteF ⟨_, rfl, _, _, rfl, rfl, _, rfl, ?_⟩
        rw [decide_eq_false (show ¬ ((newL (es.take i)).length : Int) + 1 > 60 by omega)]
        refine iteF ⟨smc, some (V.int ((i + 0 : Nat) : Int)), some (V.ref r), ?_⟩
        rw [oN, nN]
        rfl
    · rintro σ H' ⟨sm, y3, y4, rfl⟩
      have hw' := hw.same sm
      refine ⟨_, rfl, a, xs, rfl, ?_, ?_⟩
      · cases b with
        | true => exact .inl hw'
        | false => exact .inr hw'
      · rw [hl]
        exact z _ sm
end
end K17
namespace K17
open PySem L2 XR
section
variable {P : Program} {w : World} {K : PySem.W.Frag} {mg : Str → Option Value} {base : Heap}
abbrev sIsScr : Stmt := top 26
theorem scIsScr : FnScope ["value"] ["value"] (defScope sIsScr) := ⟨rfl, rfl, rfl, by decide +kernel, rfl, by decide +kernel, by decide +kernel⟩
theorem ok_isScr {f fF fL : Addr} {fd fdF fdL : FuncData} (F : Fun K "is_script" "is_script" sIsScr f fd) (T : Blt mg)
    (FF : Fun K "first_flaw" "first_flaw" sFlaw fF fdF) (GF : FnOk P w K mg base CX0 3 fF fdF ["items"] (spFlaw K)) (bF : Binds K fdF ["items"] []) (mF : mg "first_flaw" = some (.ref fF))
    (FL : Fun K "is_list" "is_list" sIsList fL fdL) (bL : Binds K fdL ["value"] []) (mL : mg "is_list" = some (.ref fL)) : FnOk P w K mg base CX0 4 f fd ["value"] (spIsScr K) := by
  have GL := ok_isList (P := P) (w := w) (base := base) FL T
  refine F.ok scIsScr (fun vs H Q E h => ?_) (fun cdv A outer s H vs Q E hr h => ?_)
  · obtain ⟨x, b, es, rfl, _⟩ := h
    rfl
  · obtain ⟨x, b, es, rfl, he, hs, z⟩ := h
    refine ⟨_, pss_one (ps_ret (pe_and (pe_call GL (hr.mono (by decide)) rfl mL FL.kp bL .nil pass0 (pa_cons (pv 0) pa_nil))
      (pe_one (pe_cmpR op_eq (pe_call GF hr rfl mF FF.kp bF .nil pass0 (pa_cons (pv 0) pa_nil)) (pe_callB call_len_seq (by rfl) T.len PySem.boot_len (pa_cons (pv 0) pa_nil)) (nomark _))))), ?_⟩
    refine ⟨_, rfl, x, _, rfl, he, fun H1 s1 => ⟨_, rfl, ?_⟩⟩
    rw [EnV.seq]
    refine iteT ⟨_, rfl, x, b, es, rfl, he.same s1, hs, fun H2 s2 => ?_⟩
    have s12 := s1.trans s2
    obtain ⟨a, xs, rfl, hw, hl⟩ := (he.same s12).len
    refine ⟨_, rfl, a, xs, rfl, hw, rfl, ?_⟩
    rw [hl, decide_eq_true rfl]
    exact z _ s12
abbrev sChkS : Stmt := top 27
theorem scChkS : FnScope ["entries", "index"] ["entries"] (defScope sChkS) := ⟨rfl, rfl, rfl, by decide +kernel, rfl, by decide +kernel, by decide +kernel⟩
theorem ok_chkS {f fF fL CS : Addr} {fd fdF fdL : FuncData} (F : Fun K "check_script" "check_script" sChkS f fd) (T : Blt mg) (XS : XOk P K mg "InvalidScript" CS 1 (fvOne "index"))
    (FF : Fun K "first_flaw" "first_flaw" sFlaw fF fdF) (GF : FnOk P w K mg base CX0 3 fF fdF ["items"] (spFlaw K)) (bF : Binds K fdF ["items"] []) (mF : mg "first_flaw" = some (.ref fF))
    (FL : Fun K "is_list" "is_list" sIsList fL fdL) (bL : Binds K fdL ["value"] []) (mL : mg "is_list" = some (.ref fL)) : FnOk P w K mg base CX0 4 f fd ["entries"] (spChkS K) := by
  have GL := ok_isList (P := P) (w := w) (base := base) FL T
  refine F.ok scChkS (fun vs H Q E h => ?_) (fun cdv A outer s H vs Q E hr h => ?_)
  · obtain ⟨x, b, es, rfl, _⟩ := h
    rfl
  · obtain ⟨x, b, es, rfl, he, hs, z⟩ := h
    refine ⟨_, pss_cons (ps_if (pt_not (pt_val (pe_call GL (hr.mono (by decide)) rfl mL FL.kp bL .nil pass0 (pa_cons (pv 0) pa_nil)))) (pss_one (ps_raiseX rfl takes0 XS.mx XS.ne XS.kp (hr.mono (by decide)) (T.all "super" (by decide)) XS.bP XS.tP rfl XS.g (pa_cons pe_non pa_nil))) pss_nil)
      (pss_cons (ps_set (i := 1) scChkS.nd rfl (.inl rfl) (pe_call GF hr rfl mF FF.kp bF .nil pass0 (pa_cons (pv 0) pa_nil)))
      (pss_one (ps_if (pt_cmpR op_lt (pv 1) (pe_callB call_len_seq (by rfl) T.len PySem.boot_len (pa_cons (pv 0) pa_nil)) (nomark _)) (pss_one (ps_raiseX rfl takes0 XS.mx XS.ne XS.kp (hr.mono (by decide)) (T.all "super" (by decide)) XS.bP XS.tP rfl XS.g (pa_cons (pv 1) pa_nil))) pss_nil))), ?_⟩
    refine ⟨_, rfl, x, _, rfl, he, fun H1 s1 => ⟨_, rfl, ?_⟩⟩
    rw [EnV.seq]
    refine iteF ⟨_, rfl, x, b, es, rfl, he.same s1, hs, fun H2 s2 => ?_⟩
    have s12 := s1.trans s2
    obtain ⟨a, xs, rfl, hw, hl⟩ := (he.same s12).len
    refine ⟨_, rfl, _, rfl, a, xs, rfl, hw, _, _, rfl, rfl, _, rfl, ?_⟩
    rw [hl, decide_eq_false (show ¬ ((es.length : Int) < (es.length : Int)) by omega)]
    exact iteF (z _ s12)
end
end K17
namespace XR
open PySem L2
def spTexts (K : PySem.W.Frag) : Sp := fun vs H Q _ => ∃ (x : V) (b : Bool) (es : List Ent), vs = [x] ∧ EnV K H x b es ∧ IsScr es ∧
  ∀ (t p1 p2 : Addr) H', Same H H' → H p1 = none → H p2 = none → p1 ≠ p2 → H' t = some (.tup [.ref p1, .ref p2]) → H' p1 = some (.lst ((oldL es).map V.str)) → H' p2 = some (.lst ((newL es).map V.str)) → Q (.ref t) H'
def spTurnS (K : PySem.W.Frag) : Sp := fun vs H Q _ => ∃ (x : V) (b : Bool) (es : List Ent), vs = [x] ∧ EnV K H x b es ∧ IsScr es ∧
  ∀ (l : Addr) (rs : List Addr) H', Same H H' → H l = none → H' l = some (.lst (refs rs)) → EsAt H' rs (es.map turnE) → Q (.ref l) H'
/-- the module's dict of turned words -/
structure TurnAt (K : PySem.W.Frag) (w : World) (d : Addr) : Prop where
  k : KDct K w d kpW (.str kpW)
  g : KDct K w d goW (.str coW)
  c : KDct K w d coW (.str goW)
theorem TurnAt.at {K : PySem.W.Frag} {w : World} {d : Addr} (h : TurnAt K w d) {u : Str} (hu : u = kpW ∨ u = goW ∨ u = coW) : KDct K w d u (.str (turnW u)) := by
  rcases hu with rfl | rfl | rfl
  · exact h.k
  · exact h.g
  · exact h.c
theorem decW (a b : Str) : decide (V.str a = V.str b) = decide (a = b) := by
  by_cases e : a = b
  · rw [e, decide_eq_true rfl, decide_eq_true rfl]
  · rw [decide_eq_false e, decide_eq_false (fun h => e (by injection h))]
theorem esStep {H : Hp} {D r : Addr} {rs : List Addr} {es : List Ent} {e : Ent} (hD : H D = some (.lst (refs rs))) (h : EsAt H rs es) (nr : H r = none) :
    upd H r (entO e) D = some (.lst (refs rs)) ∧ EsAt (upd (upd H r (entO e)) D (.lst (refs rs ++ [V.ref r]))) (rs ++ [r]) (es ++ [e]) ∧ upd (upd H r (entO e)) D (.lst (refs rs ++ [V.ref r])) D = some (.lst (refs (rs ++ [r]))) := by
  have s := same_upd (o := entO e) nr
  have hD' := s _ _ hD
  refine ⟨hD', ((h.same s).append (.one upd_same)).updL hD', ?_⟩
  rw [upd_same]
  unfold refs
  rw [List.map_append]
  rfl
end XR
namespace K17
open PySem L2 XR
section
variable {P : Program} {w : World} {K : PySem.W.Frag} {mg : Str → Option Value} {base : Heap}
abbrev sTexts : Stmt := top 30
abbrev nTexts : List Str := ["entries", "old", "new", "word", "line"]
theorem scTexts : FnScope nTexts ["entries"] (defScope sTexts) := ⟨rfl, rfl, rfl, by decide +kernel, rfl, by decide +kernel, by decide +kernel⟩
theorem ok_texts {f fC : Addr} {fd fdC : FuncData} (F : Fun K "texts_of" "texts_of" sTexts f fd)
    (FC : Fun K "check_script" "check_script" sChkS fC fdC) (GC : FnOk P w K mg base CX0 4 fC fdC ["entries"] (spChkS K)) (bC : Binds K fdC ["entries"] []) (mC : mg "check_script" = some (.ref fC)) : FnOk P w K mg base CX0 5 f fd ["entries"] (spTexts K) := by
  refine F.ok scTexts (fun vs H Q E h => ?_) (fun cdv A outer s H vs Q E hr h => ?_)
  · obtain ⟨x, b, es, rfl, _⟩ := h
    rfl
  · obtain ⟨x, b, es, rfl, he, hs, z⟩ := h
    refine ⟨_, pss_cons (ps_expr (pe_call GC hr rfl mC FC.kp bC .nil pass0 (pa_cons (pv 0) pa_nil)))
      (pss_cons (ps_setLc (i := 1) (own := [("word", 3), ("line", 4)]) (g := gTup K 2 (gCons (gName 3) (gCons (gName 4) gNil))) (tt := tTest (tOp rNe (tVar 3) (tC (.str "come")))) (te := tVar 4) rfl scTexts.nd rfl rfl (sw_true rfl rfl rfl (by decide +kernel)) (pi_wv (pv 0))
          (blkOk_by (own := [("word", 3), ("line", 4)]) (N := nTexts) (sc := defScope sTexts) (by decide +kernel))
          (fun _ _ _ _ _ => pg_tup rfl (pgs_cons (pg_name (i := 3) scTexts.nd rfl (.inl rfl)) (pgs_cons (pg_name (i := 4) scTexts.nd rfl (.inl rfl)) pgs_nil))) (fun _ _ _ _ _ => pts_one (pt_cmpR op_ne (pv 3) pe_str (nomark _))) (fun _ _ _ _ _ => pv 4))
      (pss_cons (ps_setLc (i := 2) (own := [("word", 3), ("line", 4)]) (g := gTup K 2 (gCons (gName 3) (gCons (gName 4) gNil))) (tt := tTest (tOp rNe (tVar 3) (tC (.str "go")))) (te := tVar 4) rfl scTexts.nd rfl rfl (sw_true rfl rfl rfl (by decide +kernel)) (pi_wv (pv 0))
          (blkOk_by (own := [("word", 3), ("line", 4)]) (N := nTexts) (sc := defScope sTexts) (by decide +kernel))
          (fun _ _ _ _ _ => pg_tup rfl (pgs_cons (pg_name (i := 3) scTexts.nd rfl (.inl rfl)) (pgs_cons (pg_name (i := 4) scTexts.nd rfl (.inl rfl)) pgs_nil))) (fun _ _ _ _ _ => pts_one (pt_cmpR op_ne (pv 3) pe_str (nomark _))) (fun _ _ _ _ _ => pv 4))
      (pss_one (ps_ret (pe_tup (pa_cons (pv 1) (pa_cons (pv 2) pa_nil))))))), ?_⟩
    refine ⟨_, rfl, x, b, es, rfl, he, hs, fun H1 s1 => ?_⟩
    obtain ⟨a, xs, rfl, hw, hl, hx⟩ := (he.same s1).items
    refine ⟨_, rfl, a, b, rfl, ⟨xs, hw⟩, fun D nD => ?_⟩
    have sD := same_upd (o := .lst []) nD
    refine lc_it walk_w (fun i H' => Same H1 H' ∧ H' D = some (.lst ((oldL (es.take i)).map V.str))) ⟨sD, upd_same⟩ (fun i H' _ hh => hw.same hh.1) ?_ ?_
    · rintro i v Ha Hb hi ⟨sm, hD⟩ ⟨rfl, e2⟩
      obtain ⟨⟨w1, l1⟩, r, he1, rfl, hr1⟩ := hx i _ e2
      have hr2 := XR.Same.tup sm hr1
      refine ⟨r, _, rfl, hr2, rfl, _, _, rfl, _, _, rfl, rfl, rfl, _, rfl, rfl, _, rfl, ?_⟩
      have tk := take_snoc he1
      have lb : (oldL (es.take i)).length ≤ 60 := Nat.le_trans (old_take_le _ _) hs.o
      rw [show decide (V.str (w1, l1).fst = V.str (Str.ofString "come")) = decide (w1 = coW) from decW w1 coW]
      by_cases c : w1 = coW
      · rw [decide_eq_true c]
        refine iteF ⟨sm, ?_⟩
        rw [tk, oldL_append, old_one, if_neg (fun h => h c), List.append_nil]
        exact hD
      · rw [decide_eq_false c]
        refine iteT ⟨_, rfl, _, hD, ?_, fun b' o' h => ?_, ?_⟩
        · rw [List.length_map]
          exact Nat.lt_of_le_of_lt lb (by decide)
        · rw [upd_ne (ne_of_none h nD)]
          exact sm _ _ h
        · rw [upd_same, tk, oldL_append, old_one, if_pos c, List.map_append]
          rfl
    · rintro H2 ⟨s2, hD⟩
      rw [hl, List.take_length] at hD
      refine ⟨_, rfl, a, b, rfl, ⟨xs, hw.same s2⟩, fun D2 nD2 => ?_⟩
      have sD2 := same_upd (o := .lst []) nD2
      refine lc_it walk_w (fun i H' => Same H2 H' ∧ H' D2 = some (.lst ((newL (es.take i)).map V.str))) ⟨sD2, upd_same⟩ (fun i H' _ hh => hw.same (s2.trans hh.1)) ?_ ?_
      · rintro i v Ha Hb hi ⟨sm, hD2⟩ ⟨rfl, e2⟩
        obtain ⟨⟨w1, l1⟩, r, he1, rfl, hr1⟩ := hx i _ e2
        have hr2 := XR.Same.tup (s2.trans sm) hr1
        refine ⟨r, _, rfl, hr2, rfl, _, _, rfl, _, _, rfl, rfl, rfl, _, rfl, rfl, _, rfl, ?_⟩
        have tk := take_snoc he1
        have lb : (newL (es.take i)).length ≤ 60 := Nat.le_trans (new_take_le _ _) hs.n
        rw [show decide (V.str (w1, l1).fst = V.str (Str.ofString "go")) = decide (w1 = goW) from decW w1 goW]
        by_cases c : w1 = goW
        · rw [decide_eq_true c]
          refine iteF ⟨sm, ?_⟩
          rw [tk, newL_append, XR.new_one, if_neg (fun h => h c), List.append_nil]
          exact hD2
        · rw [decide_eq_false c]
          refine iteT ⟨_, rfl, _, hD2, ?_, fun b' o' h => ?_, ?_⟩
          · rw [List.length_map]
            exact Nat.lt_of_le_of_lt lb (by decide)
          · rw [upd_ne (ne_of_none h nD2)]
            exact sm _ _ h
          · rw [upd_same, tk, newL_append, XR.new_one, if_pos c, List.map_append]
            rfl
      · rintro H3 ⟨s3, hD2⟩
        rw [hl, List.take_length] at hD2
        refine ⟨_, rfl, _, rfl, ll20 (by show 2 ≤ 20; decide), fun t nt => ?_⟩
        have st := same_upd (o := .tup [V.ref D, V.ref D2]) nt
        have s12 := s1.trans s2
        exact z t D D2 _ ((s12.trans s3).trans st) (none_before s1 nD) (none_before s12 nD2) (ne_of_none hD nD2) upd_same (st _ _ (s3 _ _ hD)) (st _ _ hD2)
abbrev sTurnS : Stmt := top 32
abbrev nTurnS : List Str := ["entries", "word", "line"]
theorem scTurnS : FnScope nTurnS ["entries"] (defScope sTurnS) := ⟨rfl, rfl, rfl, by decide +kernel, rfl, by decide +kernel, by decide +kernel⟩
theorem ok_turnS {f fC tD : Addr} {fd fdC : FuncData} (F : Fun K "turned_script" "turned_script" sTurnS f fd) (mD : mg "TURNED" = some (.ref tD)) (hT : TurnAt K w tD)
    (FC : Fun K "check_script" "check_script" sChkS fC fdC) (GC : FnOk P w K mg base CX0 4 fC fdC ["entries"] (spChkS K)) (bC : Binds K fdC ["entries"] []) (mC : mg "check_script" = some (.ref fC)) : FnOk P w K mg base CX0 5 f fd ["entries"] (spTurnS K) := by
  refine F.ok scTurnS (fun vs H Q E h => ?_) (fun cdv A outer s H vs Q E hr h => ?_)
  · obtain ⟨x, b, es, rfl, _⟩ := h
    rfl
  · obtain ⟨x, b, es, rfl, he, hs, z⟩ := h
    refine ⟨_, pss_cons (ps_expr (pe_call GC hr rfl mC FC.kp bC .nil pass0 (pa_cons (pv 0) pa_nil)))
      (pss_one (ps_ret (pe_lc (own := [("word", 1), ("line", 2)]) (g := gTup K 2 (gCons (gName 1) (gCons (gName 2) gNil))) (tt := tYes) (te := tTup (tCons (tOp (rIxD K w) (tC (.ref tD)) (tVar 1)) (tCons (tVar 2) tNil))) rfl scTurnS.nd (pi_wv (pv 0))
          (blkOk_by (own := [("word", 1), ("line", 2)]) (N := nTurnS) (sc := defScope sTurnS) (by decide +kernel))
          (fun _ _ _ _ _ => pg_tup rfl (pgs_cons (pg_name (i := 1) scTurnS.nd rfl (.inl rfl)) (pgs_cons (pg_name (i := 2) scTurnS.nd rfl (.inl rfl)) pgs_nil))) (fun _ _ _ _ _ => pts_nil)
          (fun _ _ _ _ _ => pe_tup (pa_cons (pe_ix ix_kdict (pe_glob (v := .ref tD) (by rfl) mD rfl) (pv 1) (fun _ _ => rfl)) (pa_cons (pv 2) pa_nil)))))), ?_⟩
    refine ⟨_, rfl, x, b, es, rfl, he, hs, fun H1 s1 => ?_⟩
    obtain ⟨a, xs, rfl, hw, hl, hx⟩ := (he.same s1).items
    refine ⟨_, rfl, a, b, rfl, ⟨xs, hw⟩, fun D nD => ?_⟩
    have sD := same_upd (o := .lst []) nD
    refine lc_it walk_w (fun i H' => Same H1 H' ∧ ∃ rs, H' D = some (.lst (refs rs)) ∧ EsAt H' rs ((es.take i).map turnE)) ⟨sD, [], upd_same, .nil⟩ (fun i H' _ hh => hw.same hh.1) ?_ ?_
    · rintro i v Ha Hb hi ⟨sm, rs, hD, hps⟩ ⟨rfl, e2⟩
      obtain ⟨⟨w1, l1⟩, r, he1, rfl, hr1⟩ := hx i _ e2
      have hr2 := XR.Same.tup sm hr1
      refine ⟨r, _, rfl, hr2, rfl, _, _, rfl, _, _, rfl, rfl, rfl, ?_⟩
      unfold tYes
      dsimp only
      rw [if_pos rfl]
      refine ⟨_, rfl, tD, w1, .str (turnW w1), rfl, rfl, hT.at (hs.wd _ (List.mem_of_getElem? he1)), _, rfl, ll20 (by show 2 ≤ 20; decide), fun u nu => ?_⟩
      have tk := take_snoc he1
      obtain ⟨k1, k2, k3⟩ := esStep (e := turnE (w1, l1)) hD hps nu
      have lb : rs.length ≤ 120 := by
        rw [hps.1, List.length_map, List.length_take]
        have := hs.len
        omega
      refine ⟨_, k1, ?_, fun b' o' h => ?_, rs ++ [u], k3, ?_⟩
      · unfold refs
        rw [List.length_map]
        exact Nat.lt_of_le_of_lt lb (by decide)
      · rw [upd_ne (ne_of_none h nD)]
        exact same_upd nu _ _ (sm _ _ h)
      · rw [tk, List.map_append]
        exact k2
    · rintro H2 ⟨s2, rs, hD, hps⟩
      rw [hl, List.take_length] at hps
      exact z D rs H2 (s1.trans s2) (none_before s1 nD) hD hps
end
end K17
namespace XR
open PySem L2
/-- a list of pairs of numbers, where they stand -/
def NPs (K : PySem.W.Frag) (H : Hp) (xs : List V) (ps : List (Nat × Nat)) : Prop := xs.length = ps.length ∧ ∀ (i : Nat) (q : Nat × Nat), ps[i]? = some q → ∃ r : Addr, xs[i]? = some (V.ref r) ∧ SqT K H r [.int (q.1 : Int), .int (q.2 : Int)]
theorem NPs.same {K : PySem.W.Frag} {H H' : Hp} {xs : List V} {ps : List (Nat × Nat)} (s : Same H H') (h : NPs K H xs ps) : NPs K H' xs ps :=
  ⟨h.1, fun i q hq => let ⟨r, a, b⟩ := h.2 i q hq; ⟨r, a, XR.Same.tup s b⟩⟩
theorem NPs.append {K : PySem.W.Frag} {H : Hp} {xs ys : List V} {ps qs : List (Nat × Nat)} (h : NPs K H xs ps) (k : NPs K H ys qs) : NPs K H (xs ++ ys) (ps ++ qs) := by
  refine ⟨by rw [List.length_append, List.length_append, h.1, k.1], fun i q hq => ?_⟩
  rw [List.getElem?_append] at hq ⊢
  rw [h.1]
  by_cases c : i < ps.length
  · rw [if_pos c] at hq ⊢; exact h.2 i q hq
  · rw [if_neg c] at hq ⊢; exact k.2 _ q hq
theorem NPs.one {K : PySem.W.Frag} {H : Hp} {r : Addr} {q : Nat × Nat} (h : SqT K H r [.int (q.1 : Int), .int (q.2 : Int)]) : NPs K H [V.ref r] [q] := ⟨rfl, fun i p hp => by
  cases i with
  | zero => cases Option.some.inj hp; exact ⟨r, rfl, h⟩
  | succ i => simp at hp⟩
theorem wipe_aux {i : Nat} {v : Option V} : ∀ (vs : List Nat) (σ : St), (wipe (σ.set i v) vs).set i none = (wipe σ vs).set i none
  | [], σ => by show (σ.set i v).set i none = σ.set i none; rw [List.set_set]
  | w :: ws, σ => by
    have ih := wipe_aux (i := i) (v := v) ws σ
    show ((wipe (σ.set i v) ws).set w none).set i none = ((wipe σ ws).set w none).set i none
    by_cases e : w = i
    · subst e
      rw [List.set_set, List.set_set]
      exact ih
    · rw [List.set_comm none none e, ih, List.set_comm none none (Ne.symm e)]
theorem wipe_set {i : Nat} {v : Option V} : ∀ {vs : List Nat} {σ : St}, i ∈ vs → wipe (σ.set i v) vs = wipe σ vs
  | [], σ, h => nomatch h
  | w :: ws, σ, h => by
    show (wipe (σ.set i v) ws).set w none = (wipe σ ws).set w none
    rcases List.mem_cons.mp h with e | h
    · subst e
      exact wipe_aux ws σ
    · rw [wipe_set h]
theorem wipe_sub {vs : List Nat} {σ : St} : ∀ {ws : List Nat}, (∀ i ∈ ws, i ∈ vs) → wipe (wipe σ ws) vs = wipe σ vs
  | [], _ => rfl
  | w :: ws, h => by
    show wipe ((wipe σ ws).set w none) vs = _
    rw [wipe_set (h w (List.mem_cons_self ..)), wipe_sub fun i hi => h i (List.mem_cons_of_mem _ hi)]
/-- behind a comprehension's turn with four names all is as it was -/
theorem wipe4 {σ : St} {a b c d : Nat} {w x y z : Option V} : wipe (((((wipe σ [a, b, c, d]).set a w).set b x).set c y).set d z) [a, b, c, d] = wipe σ [a, b, c, d] := by
  rw [wipe_set (by simp), wipe_set (by simp), wipe_set (by simp), wipe_set (by simp), wipe_sub fun _ h => h]
/-- what is told of two texts and a diff as a new list of blocks -/
def spFours (K : PySem.W.Frag) (f : Nat → Nat → List (Nat × Nat) → List (Nat × Nat × Nat × Nat)) : Sp := fun vs H Q _ => ∃ (x1 x2 v : V) (ss1 ss2 : List Str) (ps : List (Nat × Nat)), vs = [x1, x2, v] ∧ TxV K H x1 ss1 ∧ TxV K H x2 ss2 ∧ DfV K H v ps ∧ IsDf ss1 ss2 ps ∧
  ∀ l rs H', Same H H' → H l = none → H' l = some (.lst (refs rs)) → BsAt H' rs (f ss1.length ss2.length ps) → Q (.ref l) H'
theorem BsAt.same {H H' : Hp} {rs : List Addr} {bs : List (Nat × Nat × Nat × Nat)} (s : Same H H') (h : BsAt H rs bs) : BsAt H' rs bs :=
  ⟨h.1, fun i b hb => let ⟨r, x, y⟩ := h.2 i b hb; ⟨r, x, s _ _ y⟩⟩
theorem BsAt.nil {H : Hp} : BsAt H [] [] := ⟨rfl, fun i q h => by simp at h⟩
theorem BsAt.snoc {H : Hp} {rs : List Addr} {bs : List (Nat × Nat × Nat × Nat)} {r : Addr} {b : Nat × Nat × Nat × Nat} (h : BsAt H rs bs) (k : H r = some (fourV b)) : BsAt H (rs ++ [r]) (bs ++ [b]) := by
  refine ⟨by rw [List.length_append, List.length_append, h.1]; rfl, fun i q hq => ?_⟩
  rw [List.getElem?_append] at hq ⊢
  rw [h.1]
  by_cases c : i < bs.length
  · rw [if_pos c] at hq ⊢; exact h.2 i q hq
  · rw [if_neg c] at hq ⊢
    have e : i - bs.length = 0 := by
      cases e : i - bs.length with
      | zero => rfl
      | succ n => rw [e] at hq; simp at hq
    rw [e] at hq ⊢
    cases Option.some.inj hq
    exact ⟨r, rfl, k⟩
theorem BsAt.updL {H : Hp} {p : Addr} {xs ys : List V} {rs : List Addr} {bs : List (Nat × Nat × Nat × Nat)} (h : BsAt H rs bs) (k : H p = some (.lst xs)) : BsAt (upd H p (.lst ys)) rs bs :=
  ⟨h.1, fun i b hb => let ⟨r, x, y⟩ := h.2 i b hb; ⟨r, x, by rw [upd_ne (fun e => by rw [e, k] at y; cases y)]; exact y⟩⟩
/-- one more block, made new and appended -/
theorem bsStep {H : Hp} {D r : Addr} {rs : List Addr} {bs : List (Nat × Nat × Nat × Nat)} {b : Nat × Nat × Nat × Nat} (hD : H D = some (.lst (refs rs))) (h : BsAt H rs bs) (nr : H r = none) :
    upd H r (fourV b) D = some (.lst (refs rs)) ∧ BsAt (upd (upd H r (fourV b)) D (.lst (refs rs ++ [V.ref r]))) (rs ++ [r]) (bs ++ [b]) ∧ upd (upd H r (fourV b)) D (.lst (refs rs ++ [V.ref r])) D = some (.lst (refs (rs ++ [r]))) := by
  have s := same_upd (o := fourV b) nr
  have hD' := s _ _ hD
  refine ⟨hD', ((h.same s).snoc upd_same).updL hD', ?_⟩
  rw [upd_same]
  unfold refs
  rw [List.map_append]
  rfl
theorem IsDf.pos {ss1 ss2 : List Str} {ps : List (Nat × Nat)} (h : IsDf ss1 ss2 ps) {q : Nat × Nat} (hq : q ∈ ps) : 1 ≤ q.1 ∧ q.1 ≤ ss1.length ∧ 1 ≤ q.2 ∧ q.2 ≤ ss2.length := by
  obtain ⟨a, b, c, d, _⟩ := h.1 q hq
  exact ⟨a, b, c, d⟩
end XR
namespace K17
open PySem L2 XR
section
variable {P : Program} {w : World} {K : PySem.W.Frag} {mg : Str → Option Value} {base : Heap}
theorem scGaps : FnScope ["old", "new", "diff", "starts", "stops", "a", "c", "i", "j"] ["old", "new", "diff"] (defScope sGaps) := ⟨rfl, rfl, rfl, by decide +kernel, rfl, by decide +kernel, by decide +kernel⟩
theorem ok_gaps {f : Addr} {fd : FuncData} (F : Fun K "gaps_of" "gaps_of" sGaps f fd) (T : Blt mg) : FnOk P w K mg base CX0 1 f fd ["old", "new", "diff"] (spFours K gapsL) := by
  refine F.ok scGaps (fun vs H Q E h => ?_) (fun cdv A outer s H vs Q E hr h => ?_)
  · obtain ⟨x1, x2, v, ss1, ss2, ps, rfl, _⟩ := h
    rfl
  · obtain ⟨x1, x2, v, ss1, ss2, ps, rfl, t1, t2, hv, hd, z⟩ := h
    refine ⟨_, pss_cons (ps_set (i := 3) scGaps.nd rfl (.inl rfl) (pe_lst (pa_cons (pe_tup (pa_cons pe_int (pa_cons pe_int pa_nil))) (StX.pa_star (pv 2) pa_nil))))
      (pss_cons (ps_set (i := 4) scGaps.nd rfl (.inl rfl) (pe_lst (StX.pa_star (pv 2) (pa_cons (pe_tup (pa_cons (pe_op op_add (pe_callB call_len_seq (by rfl) T.len PySem.boot_len (pa_cons (pv 0) pa_nil)) pe_int) (pa_cons (pe_op op_add (pe_callB call_len_seq (by rfl) T.len PySem.boot_len (pa_cons (pv 1) pa_nil)) pe_int) pa_nil))) pa_nil))))
      (pss_one (ps_ret (pe_lc (own := [("a", 5), ("c", 6), ("i", 7), ("j", 8)]) (g := gTup K 2 (gCons (gTup K 2 (gCons (gName 5) (gCons (gName 6) gNil))) (gCons (gTup K 2 (gCons (gName 7) (gCons (gName 8) gNil))) gNil))) (tt := tYes)
        (te := tTup (tCons (tVar 5) (tCons (tOp (rI0 fun i j => V.int (i - j)) (tVar 7) (tC (V.int 1))) (tCons (tVar 6) (tCons (tOp (rI0 fun i j => V.int (i - j)) (tVar 8) (tC (V.int 1))) tNil))))) rfl scGaps.nd
        (pi_zip rfl (T.all "zip" (by decide)) (pa_cons (pv 3) (pa_cons (pv 4) pa_nil)))
        (blkOk_by (own := [("a", 5), ("c", 6), ("i", 7), ("j", 8)]) (N := ["old", "new", "diff", "starts", "stops", "a", "c", "i", "j"]) (sc := defScope sGaps) (by decide +kernel))
        (fun _ _ _ _ _ => pg_tup rfl (pgs_cons (pg_tup rfl (pgs_cons (pg_name (i := 5) scGaps.nd rfl (.inl rfl)) (pgs_cons (pg_name (i := 6) scGaps.nd rfl (.inl rfl)) pgs_nil))) (pgs_cons (pg_tup rfl (pgs_cons (pg_name (i := 7) scGaps.nd rfl (.inl rfl)) (pgs_cons (pg_name (i := 8) scGaps.nd rfl (.inl rfl)) pgs_nil))) pgs_nil))) (fun _ _ _ _ _ => pts_nil)
        (fun _ _ _ _ _ => pe_tup (pa_cons (pv 5) (pa_cons (pe_op op_sub (pv 7) pe_int) (pa_cons (pv 6) (pa_cons (pe_op op_sub (pv 8) pe_int) pa_nil))))))))), ?_⟩
    have l60 := t1.len
    have dl := df_len hd
    obtain ⟨t, xs, rfl, ht, hl, hx⟩ := hv.items
    have np : NPs K H xs ps := ⟨hl, fun i q hq => by
      have hi : i < xs.length := by rw [hl]; exact (List.getElem?_eq_some_iff.mp hq).1
      obtain ⟨q', r, e1, e2, e3⟩ := hx i _ (List.getElem?_eq_getElem hi)
      rw [hq] at e1
      cases e1
      exact ⟨r, by rw [List.getElem?_eq_getElem hi, e2], e3⟩⟩
    have xl : xs.length ≤ 60 := by omega
    refine ⟨ll20 (by show 2 ≤ 20; decide), fun t0 n0 => ?_⟩
    have s0 := same_upd (o := .tup [V.int 0, V.int 0]) n0
    refine ⟨_, rfl, t, xs, rfl, .inl (XR.Same.tup s0 ht), ?_, fun A0 nA => ?_⟩
    · show (V.ref t0 :: (xs ++ [])).length ≤ sizeLine
      rw [List.append_nil, List.length_cons]
      exact Nat.le_trans (show xs.length + 1 ≤ 61 by omega) (by decide)
    have sA := s0.trans (same_upd (o := .lst (V.ref t0 :: (xs ++ []))) nA)
    have hA := upd_same (H := upd H t0 (.tup [V.int 0, V.int 0])) (a := A0) (o := .lst (V.ref t0 :: (xs ++ [])))
    have ht0 : upd (upd H t0 (.tup [V.int 0, V.int 0])) A0 (.lst (V.ref t0 :: (xs ++ []))) t0 = some (.tup [V.int 0, V.int 0]) := same_upd nA _ _ upd_same
    have npA : NPs K (upd (upd H t0 (.tup [V.int 0, V.int 0])) A0 (.lst (V.ref t0 :: (xs ++ [])))) (V.ref t0 :: (xs ++ [])) ((0, 0) :: ps) := by
      have := (NPs.one (K := K) (q := (0, 0)) (.inl (.inl ht0))).append (np.same sA)
      rw [List.append_nil] at this ⊢
      exact this
    rw [List.append_nil] at sA hA ht0 npA ⊢
    generalize upd (upd H t0 (.tup [V.int 0, V.int 0])) A0 (.lst (V.ref t0 :: xs)) = H1 at sA hA ht0 npA ⊢
    obtain ⟨a1, rfl, h1⟩ := (t1.same sA).a
    obtain ⟨a2, rfl, h2⟩ := (t2.same sA).a
    refine ⟨_, rfl, t, xs, rfl, .inl (XR.Same.tup sA ht), ?_⟩
    refine ⟨_, rfl, a1, _, rfl, h1, _, _, rfl, rfl, _, rfl, a2, _, rfl, h2, _, _, rfl, rfl, ll20 (by show 2 ≤ 20; decide), fun t3 n3 => ?_⟩
    rw [List.length_map, List.length_map]
    have s3 := same_upd (o := .tup [V.int ((ss1.length : Nat) + 1), V.int ((ss2.length : Nat) + 1)]) n3
    refine ⟨?_, fun B0 nB => ?_⟩
    · show (xs ++ [V.ref t3]).length ≤ sizeLine
      rw [List.length_append]
      exact Nat.le_trans (show xs.length + 1 ≤ 61 by omega) (by decide)
    have sB := s3.trans (same_upd (o := .lst (xs ++ [V.ref t3])) nB)
    have hB := upd_same (H := upd H1 t3 (.tup [V.int ((ss1.length : Nat) + 1), V.int ((ss2.length : Nat) + 1)])) (a := B0) (o := .lst (xs ++ [V.ref t3]))
    have ht3 : upd (upd H1 t3 (.tup [V.int ((ss1.length : Nat) + 1), V.int ((ss2.length : Nat) + 1)])) B0 (.lst (xs ++ [V.ref t3])) t3 = some (.tup [V.int ((ss1.length : Nat) + 1), V.int ((ss2.length : Nat) + 1)]) := same_upd nB _ _ upd_same
    have npB := ((np.same sA).same sB).append (NPs.one (K := K) (q := (ss1.length + 1, ss2.length + 1)) (.inl (.inl ht3)))
    have npA' := npA.same sB
    have hA' := sB _ _ hA
    have sAB := sA.trans sB
    generalize upd (upd H1 t3 (.tup [V.int ((ss1.length : Nat) + 1), V.int ((ss2.length : Nat) + 1)])) B0 (.lst (xs ++ [V.ref t3])) = H2 at hB npB npA' hA' sAB ⊢
    refine ⟨_, rfl, _, rfl, A0, B0, _, _, rfl, SqL.of hA', SqL.of hB, fun D nD => ?_⟩
    have sD := same_upd (o := .lst []) nD
    have lenA := npA'.1
    have lenB := npB.1
    have lA : ((0, 0) :: ps : List (Nat × Nat)).length = ps.length + 1 := rfl
    have lB : (ps ++ [(ss1.length + 1, ss2.length + 1)] : List (Nat × Nat)).length = ps.length + 1 := by rw [List.length_append]; rfl
    refine lc_it (walk_zip (n := ps.length + 1) (by rw [lenA, lenB, lA, lB, Nat.min_self])) (fun i H' => Same H2 H' ∧ ∃ rs, H' D = some (.lst (refs rs)) ∧ BsAt H' rs ((gapsL ss1.length ss2.length ps).take i)) ⟨sD, [], upd_same, .nil⟩ (fun i H' _ hh => ⟨SqL.of (hh.1 _ _ hA'), SqL.of (hh.1 _ _ hB)⟩) ?_ ?_
    · rintro i x Ha Hb hi ⟨sm, rs, hD, hk⟩ ⟨T0, y1, y2, rfl, nT, rfl, e1, e2⟩
      obtain ⟨b, hb⟩ : ∃ b, ((0, 0) :: ps : List (Nat × Nat))[i]? = some b := ⟨_, List.getElem?_eq_getElem (by omega)⟩
      obtain ⟨e, he⟩ : ∃ e, (ps ++ [(ss1.length + 1, ss2.length + 1)] : List (Nat × Nat))[i]? = some e := ⟨_, List.getElem?_eq_getElem (by omega)⟩
      obtain ⟨r1, f1, g1⟩ := npA'.2 i b hb
      obtain ⟨r2, f2, g2⟩ := npB.2 i e he
      obtain rfl : y1 = V.ref r1 := Option.some.inj (e1.symm.trans f1)
      obtain rfl : y2 = V.ref r2 := Option.some.inj (e2.symm.trans f2)
      have hgap := gaps_at ss1.length ss2.length ps (0, 0) i b e hb he
      have e1p : 1 ≤ e.1 ∧ 1 ≤ e.2 := by
        rcases List.mem_append.mp (List.mem_of_getElem? he) with h | h
        · have := hd.pos h; omega
        · rw [List.mem_singleton.mp h]; exact ⟨by simp, by simp⟩
      have sT := same_upd (o := .tup [V.ref r1, V.ref r2]) nT
      have sa := sm.trans sT
      refine ⟨T0, _, rfl, .inl (.inl upd_same), rfl, _, _, rfl, r1, _, rfl, XR.Same.tup sa g1, rfl, _, _, rfl, _, _, rfl, rfl, _, _, rfl, r2, _, rfl, XR.Same.tup sa g2, rfl, _, _, rfl, _, _, rfl, rfl, rfl, wipe4, ?_⟩
      unfold tYes
      dsimp only
      rw [if_pos rfl]
      refine ⟨_, rfl, _, rfl, _, _, rfl, rfl, _, rfl, _, rfl, _, _, rfl, rfl, ll20 (by show 4 ≤ 20; decide), fun u nu => ?_⟩
      obtain ⟨k1, k2, k3⟩ := bsStep (b := (b.1, e.1 - 1, b.2, e.2 - 1)) (sT _ _ hD) (hk.same sT) nu
      have en : HO.tup [V.int (b.1 : Int), V.int ((e.1 : Int) - 1), V.int (b.2 : Int), V.int ((e.2 : Int) - 1)] = fourV (b.1, e.1 - 1, b.2, e.2 - 1) := by
        show _ = HO.tup [V.int (b.1 : Int), V.int ((e.1 - 1 : Nat) : Int), V.int (b.2 : Int), V.int ((e.2 - 1 : Nat) : Int)]
        rw [show ((e.1 : Int) - 1) = ((e.1 - 1 : Nat) : Int) by omega, show ((e.2 : Int) - 1) = ((e.2 - 1 : Nat) : Int) by omega]
      rw [en]
      refine ⟨_, k1, ?_, fun b' o' h => ?_, rs ++ [u], k3, ?_⟩
      · unfold refs
        rw [List.length_map, hk.1, List.length_take]
        exact Nat.lt_of_le_of_lt (show min i _ ≤ 61 by omega) (by decide)
      · rw [upd_ne (ne_of_none h nD)]
        exact same_upd nu _ _ (sa _ _ h)
      · rw [List.take_add_one]
        unfold gapsL at hgap ⊢
        rw [hgap]
        exact k2
    · rintro H' ⟨sm, rs, hD, hk⟩
      rw [List.take_of_length_le (by unfold gapsL; rw [gaps_len]; exact Nat.le_refl _)] at hk
      exact z D rs H' (sAB.trans sm) (none_before sAB nD) hD hk
end
end K17
namespace XR
open PySem L2
theorem pr_snoc (e : Ent) : ∀ {xs : List Ent} (a c : Nat), Wds xs → pairsFrom a c (xs ++ [e]) = pairsFrom a c xs ++ (if e.1 = kpW then [(a + (oldL xs).length + 1, c + (newL xs).length + 1)] else [])
  | [], a, c, _ => by
    have e0 : pairsFrom a c [e] = if e.1 = kpW then (a + 1, c + 1) :: pairsFrom (a + 1) (c + 1) [] else if e.1 = goW then pairsFrom (a + 1) c [] else pairsFrom a (c + 1) [] := rfl
    show pairsFrom a c [e] = [] ++ _
    rw [e0]
    by_cases h : e.1 = kpW
    · rw [if_pos h, if_pos h]; rfl
    · rw [if_neg h, if_neg h]
      by_cases g : e.1 = goW
      · rw [if_pos g]; rfl
      · rw [if_neg g]; rfl
  | (w, s) :: xs, a, c, hw => by
    show pairsFrom a c ((w, s) :: (xs ++ [e])) = _
    rcases hw (w, s) (List.mem_cons_self ..) with q | q | q
    · obtain rfl : w = kpW := q
      rw [pr_keep, pr_keep, pr_snoc e _ _ hw.tail, old_keep, new_keep, List.length_cons, List.length_cons, show a + 1 + (oldL xs).length + 1 = a + ((oldL xs).length + 1) + 1 by omega, show c + 1 + (newL xs).length + 1 = c + ((newL xs).length + 1) + 1 by omega]
      rfl
    · obtain rfl : w = goW := q
      rw [pr_go, pr_go, pr_snoc e _ _ hw.tail, old_go, new_go, List.length_cons, show a + 1 + (oldL xs).length + 1 = a + ((oldL xs).length + 1) + 1 by omega]
    · obtain rfl : w = coW := q
      rw [pr_come, pr_come, pr_snoc e _ _ hw.tail, old_come, new_come, List.length_cons, show c + 1 + (newL xs).length + 1 = c + ((newL xs).length + 1) + 1 by omega]
theorem Wds.take {es : List Ent} (h : Wds es) (i : Nat) : Wds (es.take i) := fun e he => h e (List.mem_of_mem_take he)
theorem pairs_le (es : List Ent) : ∀ (a c : Nat), (pairsFrom a c es).length ≤ es.length := by
  induction es with
  | nil => intro a c; exact Nat.le_refl _
  | cons e es ih =>
    intro a c
    rw [pairsFrom]
    split
    · rw [List.length_cons, List.length_cons]
      exact Nat.succ_le_succ (ih _ _)
    · split
      · exact Nat.le_trans (ih _ _) (by rw [List.length_cons]; omega)
      · exact Nat.le_trans (ih _ _) (by rw [List.length_cons]; omega)
def spDiffOf (K : PySem.W.Frag) : Sp := fun vs H Q _ => ∃ (x : V) (b : Bool) (es : List Ent), vs = [x] ∧ EnV K H x b es ∧ IsScr es ∧ ∀ (t : Addr) H', Same H H' → H t = none → DfAt H' t (pairsFrom 0 0 es) → Q (.ref t) H'
/-- the script of a diff, in a new list -/
def spScrOf (K : PySem.W.Frag) : Sp := fun vs H Q _ => ∃ (x1 x2 v : V) (ss1 ss2 : List Str) (ps : List (Nat × Nat)), vs = [x1, x2, v] ∧ TxV K H x1 ss1 ∧ TxV K H x2 ss2 ∧ DfV K H v ps ∧ IsDf ss1 ss2 ps ∧
  ∀ (l : Addr) (rs : List Addr) H', Same H H' → H l = none → H' l = some (.lst (refs rs)) → EsAt H' rs (scriptL ss1 ss2 ps) → Q (.ref l) H'
end XR
namespace K17
open PySem L2 XR
section
variable {P : Program} {w : World} {K : PySem.W.Frag} {mg : Str → Option Value} {base : Heap}
abbrev sDiffOf : Stmt := top 29
abbrev nDiffOf : List Str := ["entries", "i", "j", "pairs", "word", "_"]
theorem scDiffOf : FnScope nDiffOf ["entries"] (defScope sDiffOf) := ⟨rfl, rfl, rfl, by decide +kernel, rfl, by decide +kernel, by decide +kernel⟩
theorem ok_diffOf {f fC : Addr} {fd fdC : FuncData} (F : Fun K "diff_of" "diff_of" sDiffOf f fd) (T : Blt mg)
    (FC : Fun K "check_script" "check_script" sChkS fC fdC) (GC : FnOk P w K mg base CX0 4 fC fdC ["entries"] (spChkS K)) (bC : Binds K fdC ["entries"] []) (mC : mg "check_script" = some (.ref fC)) : FnOk P w K mg base CX0 5 f fd ["entries"] (spDiffOf K) := by
  refine F.ok scDiffOf (fun vs H Q E h => ?_) (fun cdv A outer s H vs Q E hr h => ?_)
  · obtain ⟨x, b, es, rfl, _⟩ := h
    rfl
  · obtain ⟨x, b, es, rfl, he, hs, z⟩ := h
    refine ⟨_, pss_cons (ps_expr (pe_call GC hr rfl mC FC.kp bC .nil pass0 (pa_cons (pv 0) pa_nil)))
      (pss_cons (ps_par3 (i := 1) (j := 2) (l := 3) rfl scDiffOf.nd rfl rfl rfl (by decide) (by decide) (by decide) rfl rfl rfl (pa_cons pe_int (pa_cons pe_int (pa_cons (pe_lst pa_nil) pa_nil))) rfl)
      (pss_cons (ps_for PassesOwn.never rfl (pi_wv (pv 0)) (pg_tup rfl (pgs_cons (pg_name (i := 4) scDiffOf.nd rfl (.inl rfl)) (pgs_cons (pg_name (i := 5) scDiffOf.nd rfl (.inl rfl)) pgs_nil)))
        (pss_cons (ps_if (pt_cmpR op_ne (pv 4) pe_str (nomark _)) (pss_one (ps_aug (i := 1) scDiffOf.nd rfl (.inl rfl) pe_int ip_add)) pss_nil)
        (pss_cons (ps_if (pt_cmpR op_ne (pv 4) pe_str (nomark _)) (pss_one (ps_aug (i := 2) scDiffOf.nd rfl (.inl rfl) pe_int ip_add)) pss_nil)
        (pss_one (ps_if (pt_cmpR op_eq (pv 4) pe_str (nomark _)) (pss_one (ps_expr (pe_bm PySem.F.plainAttrs_list PySem.F.slot_list_append PySem.F.type_list_append mt_append (pv 3) (pa_cons (pe_tup (pa_cons (pv 1) (pa_cons (pv 2) pa_nil))) pa_nil)))) pss_nil)))))
      (pss_one (ps_ret (pe_callTy call_tuple_of (by rfl) (T.all "tuple" (by decide)) (by decide +kernel) (pa_cons (pv 3) pa_nil)))))), ?_⟩
    refine ⟨_, rfl, x, b, es, rfl, he, hs, fun H1 s1 => ?_⟩
    obtain ⟨a, xs, rfl, hw, hl, hx⟩ := (he.same s1).items
    refine ⟨ll20 (by decide), fun pf nf => ⟨_, _, _, rfl, ?_⟩⟩
    have sf := same_upd (o := .lst []) nf
    refine ⟨_, rfl, a, b, rfl, ⟨xs, hw.same sf⟩, ?_⟩
    refine for_it walk_w (fun i σ H' => Same H1 H' ∧ (∃ y4 y5, σ = [some (V.ref a), some (V.int ((oldL (es.take i)).length : Int)), some (V.int ((newL (es.take i)).length : Int)), some (V.ref pf), y4, y5]) ∧ ∃ rs, H' pf = some (.lst (refs rs)) ∧ PsAt H' rs (pairsFrom 0 0 (es.take i))) ⟨sf, ⟨_, _, rfl⟩, [], upd_same, .nil⟩ (fun i σ H' _ hh => hw.same hh.1) ?_ ?_
    · rintro i v σ Ha Hb hi ⟨sm, ⟨y4, y5, rfl⟩, rs, hf, hps⟩ ⟨rfl, e2⟩
      obtain ⟨⟨w1, l1⟩, r, he1, rfl, hr1⟩ := hx i _ e2
      have hr2 := XR.Same.tup sm hr1
      have mem := List.mem_of_getElem? he1
      have tk := take_snoc he1
      have oN : (oldL (es.take (i + 1))).length = (oldL (es.take i)).length + (if w1 ≠ coW then 1 else 0) := by
        rw [tk, oldL_append, List.length_append, old_one]
        split <;> rfl
      have nN : (newL (es.take (i + 1))).length = (newL (es.take i)).length + (if w1 ≠ goW then 1 else 0) := by
        rw [tk, newL_append, List.length_append, XR.new_one]
        split <;> rfl
      have pN : pairsFrom 0 0 (es.take (i + 1)) = pairsFrom 0 0 (es.take i) ++ (if w1 = kpW then [((oldL (es.take i)).length + 1, (newL (es.take i)).length + 1)] else []) := by
        rw [tk, pr_snoc _ _ _ (hs.wd.take i), Nat.zero_add, Nat.zero_add]
      refine ⟨r, _, rfl, hr2, rfl, _, _, rfl, _, _, rfl, rfl, ?_⟩
      rcases hs.wd _ mem with e | e | e
      · obtain rfl : w1 = kpW := e
        have d1 : decide (V.str kpW = V.str "come") = false := by decide +kernel
        have d2 : decide (V.str kpW = V.str "go") = false := by decide +kernel
        have d3 : decide (V.str kpW = V.str "keep") = true := by decide +kernel
        rw [if_pos (by decide)] at oN
        rw [if_pos (by decide)] at nN
        rw [if_pos rfl] at pN
        refine ⟨_, rfl, rfl, _, rfl, ?_⟩
        rw [show decide (V.str (kpW, l1).fst = V.str (Str.ofString "come")) = _ from d1]
        refine iteT ⟨_, rfl, _, _, rfl, rfl, _, rfl, rfl, _, rfl, ?_⟩
        rw [show decide (V.str (kpW, l1).fst = V.str (Str.ofString "go")) = _ from d2]
        refine iteT ⟨_, rfl, _, _, rfl, rfl, _, rfl, rfl, _, rfl, ?_⟩
        rw [show decide (V.str (kpW, l1).fst = V.str (Str.ofString "keep")) = _ from d3]
        refine iteT ⟨_, rfl, .inl ⟨rfl, _, SqL.of hf⟩, _, rfl, _, rfl, ll20 (by show 2 ≤ 20; decide), fun u nu => ?_⟩
        have lb : rs.length ≤ 120 := by
          rw [hps.1]
          refine Nat.le_trans (pairs_le _ _ _) ?_
          rw [List.length_take]
          have := hs.len
          omega
        obtain ⟨k1, k2, k3⟩ := psStep (q := ((oldL (es.take i)).length + 1, (newL (es.take i)).length + 1)) hf hps nu
        refine ⟨pf, _, _, rfl, rfl, k1, ?_, ?_⟩
        · unfold refs
          rw [List.length_map]
          exact Nat.lt_of_le_of_lt lb (by decide)
        refine ⟨fun b' o' h => ?_, ⟨some (V.str kpW), some (V.str l1), ?_⟩, rs ++ [u], k3, ?_⟩
        · rw [upd_ne (ne_of_none h nf)]
          exact same_upd nu _ _ (sm _ _ h)
        · rw [oN, nN]
          rfl
        · rw [pN]
          exact k2
      · obtain rfl : w1 = goW := e
        have d1 : decide (V.str goW = V.str "come") = false := by decide +kernel
        have d2 : decide (V.str goW = V.str "go") = true := by decide +kernel
        have d3 : decide (V.str goW = V.str "keep") = false := by decide +kernel
        rw [if_pos (by decide)] at oN
        rw [if_neg (by decide)] at nN
        rw [if_neg (by decide), List.append_nil] at pN
        refine ⟨_, rfl, rfl, _, rfl, ?_⟩
        rw [show decide (V.str (goW, l1).fst = V.str (Str.ofString "come")) = _ from d1]
        refine iteT ⟨_, rfl, _, _, rfl, rfl, _, rfl, rfl, _, rfl, ?_⟩
        rw [show decide (V.str (goW, l1).fst = V.str (Str.ofString "go")) = _ from d2]
        refine iteF ⟨_, rfl, rfl, _, rfl, ?_⟩
        rw [show decide (V.str (goW, l1).fst = V.str (Str.ofString "keep")) = _ from d3]
        refine iteF ⟨sm, ⟨some (V.str goW), some (V.str l1), ?_⟩, rs, hf, by rw [pN]; exact hps⟩
        rw [oN, nN]
        rfl
      · obtain rfl : w1 = coW := e
        have d1 : decide (V.str coW = V.str "come") = true := by decide +kernel
        have d2 : decide (V.str coW = V.str "go") = false := by decide +kernel
        have d3 : decide (V.str coW = V.str "keep") = false := by decide +kernel
        rw [if_neg (by decide)] at oN
        rw [if_pos (by decide)] at nN
        rw [if_neg (by decide), List.append_nil] at pN
        refine ⟨_, rfl, rfl, _, rfl, ?_⟩
        rw [show decide (V.str (coW, l1).fst = V.str (Str.ofString "come")) = _ from d1]
        refine iteF ⟨_, rfl, rfl, _, rfl, ?_⟩
        rw [show decide (V.str (coW, l1).fst = V.str (Str.ofString "go")) = _ from d2]
        refine iteT ⟨_, rfl, _, _, rfl, rfl, _, rfl, rfl, _, rfl, ?_⟩
        rw [show decide (V.str (coW, l1).fst = V.str (Str.ofString "keep")) = _ from d3]
        refine iteF ⟨sm, ⟨some (V.str coW), some (V.str l1), ?_⟩, rs, hf, by rw [pN]; exact hps⟩
        rw [oN, nN]
        rfl
    · rintro σ H2 ⟨s2, ⟨y4, y5, rfl⟩, rs, hf, hps⟩
      rw [hl, List.take_length] at hps
      refine ⟨_, rfl, pf, _, rfl, .inl ⟨SqL.of hf, fun u nu => ?_⟩⟩
      have su := same_upd (o := .tup (refs rs)) nu
      exact z u _ ((s1.trans s2).trans su) (none_before (s1.trans s2) nu) ⟨rs, upd_same, hps.same su⟩
end
end K17
namespace XR
open PySem L2
theorem pi_orI {X : Cx} {tg e : Expr} {w1 w2 : TI} (h1 : PI X tg e w1) (h2 : PI X tg e w2) : PI X tg e (fun σ H R => w1 σ H R ∨ w2 σ H R) := ⟨fun pins s σ H R I h => by
  rcases h with h | h
  · exact h1.run pins s σ H R I h
  · exact h2.run pins s σ H R I h⟩
theorem cut_seg (ss : List Str) {a b : Nat} (h1 : a ≤ b) (h2 : b ≤ ss.length) : cutV (ss.map V.str) (some (a : Int)) (some (b : Int)) = (seg ss a b).map V.str := by
  unfold cutV HT.sIx seg
  simp only [if_neg (show ¬ (a : Int) < 0 by omega), if_neg (show ¬ (b : Int) < 0 by omega), List.length_map]
  rw [show min (a : Int).toNat ss.length = a by omega, show min (b : Int).toNat ss.length = b by omega, List.map_take, List.map_drop]
theorem rd_slI {K : PySem.W.Frag} {H : Hp} {R : It → Hp → Prop} {x : V} {ss : List Str} {σ : St} {i ia ib a b : Nat} (h : TxA K H x ss) (e0 : σ[i]? = some (some x)) (e1 : σ[ia]? = some (some (.int (a : Int)))) (e2 : σ[ib]? = some (some (.int (b : Int)))) (h1 : a ≤ b) (h2 : b ≤ ss.length)
    (z : ∀ p w H', Same H H' → SqW K w H' p ((seg ss a b).map V.str) → R (ItW K p w) H') :
    iList K (tSl (rSlL K) (tVar i) (tPart (tVar ia)) (tPart (tVar ib))) σ H R ∨ iTup K (tSl (rSlA K) (tVar i) (tPart (tVar ia)) (tPart (tVar ib))) σ H R := by
  obtain ⟨p, rfl, h | h⟩ := h
  · left
    refine ⟨_, e0, _, e1, _, rfl, _, e2, _, rfl, p, _, rfl, h, fun q nq => ?_⟩
    rw [cut_seg ss h1 h2]
    have hq := upd_same (H := H) (a := q) (o := .lst ((seg ss a b).map V.str))
    exact ⟨q, rfl, ⟨_, SqL.of hq⟩, z q true _ (same_upd nq) (SqL.of hq)⟩
  · right
    refine ⟨_, e0, _, e1, _, rfl, _, e2, _, rfl, p, _, rfl, h, fun hw => ?_, fun _ q nq => ?_⟩
    · have e : seg ss a b = ss := by
        have k1 : (if (a : Int) < 0 then ((a : Int) + ((ss.map V.str).length : Nat)).toNat else min (a : Int).toNat (ss.map V.str).length) = 0 := hw.1
        have k2 : (if (b : Int) < 0 then ((b : Int) + ((ss.map V.str).length : Nat)).toNat else min (b : Int).toNat (ss.map V.str).length) = (ss.map V.str).length := hw.2
        rw [if_neg (show ¬ (a : Int) < 0 by omega), List.length_map] at k1
        rw [if_neg (show ¬ (b : Int) < 0 by omega), List.length_map] at k2
        have ha : a = 0 ∨ ss.length = 0 := by omega
        have hb : b = ss.length := by omega
        unfold seg
        rcases ha with ha | ha
        · rw [ha, hb, List.drop_zero, Nat.sub_zero, List.take_length]
        · rw [List.eq_nil_of_length_eq_zero ha]; simp
      exact ⟨p, rfl, ⟨_, h⟩, z p false _ (fun _ _ e => e) (by rw [e]; exact h)⟩
    · rw [cut_seg ss h1 h2]
      have hq := upd_same (H := H) (a := q) (o := .tup ((seg ss a b).map V.str))
      exact ⟨q, rfl, ⟨_, SqT.of hq⟩, z q false _ (same_upd nq) (SqT.of hq)⟩
theorem gaps_bd (ss1 ss2 : List Str) : ∀ (ps : List (Nat × Nat)) (a c : Nat), DfFrom ss1 ss2 a c ps → ∀ g ∈ gapsFrom ss1.length ss2.length (a, c) ps, g.1 ≤ g.2.1 ∧ g.2.1 ≤ ss1.length ∧ g.2.2.1 ≤ g.2.2.2 ∧ g.2.2.2 ≤ ss2.length
  | [], a, c, h, g, hg => by
    rw [gapsFrom, List.mem_singleton] at hg
    subst hg
    exact ⟨h.1, Nat.le_refl _, h.2, Nat.le_refl _⟩
  | (i, j) :: ps, a, c, h, g, hg => by
    obtain ⟨h1, h2, h3, h4, h5, h6⟩ := h
    rw [gapsFrom] at hg
    rcases List.mem_cons.mp hg with rfl | hg
    · exact ⟨by show a ≤ i - 1; omega, by show i - 1 ≤ _; omega, by show c ≤ j - 1; omega, by show j - 1 ≤ _; omega⟩
    · exact gaps_bd ss1 ss2 ps i j h6 g hg
theorem scr_in (ss1 ss2 : List Str) : ∀ (ps : List (Nat × Nat)) (a c : Nat), DfFrom ss1 ss2 a c ps → ∀ e ∈ scrFrom ss1 ss2 a c ps, (e.1 = kpW ∨ e.1 = goW ∨ e.1 = coW) ∧ (e.2 ∈ ss1 ∨ e.2 ∈ ss2) := by
  have inseg : ∀ {ss : List Str} {a b : Nat} {s : Str}, s ∈ seg ss a b → s ∈ ss := fun h => List.mem_of_mem_drop (List.mem_of_mem_take h)
  intro ps
  induction ps with
  | nil =>
    intro a c h e he
    rw [scrFrom] at he
    rcases List.mem_append.mp he with he | he
    · obtain ⟨s, hs, rfl⟩ := List.mem_map.mp he
      exact ⟨.inr (.inl rfl), .inl (inseg hs)⟩
    · obtain ⟨s, hs, rfl⟩ := List.mem_map.mp he
      exact ⟨.inr (.inr rfl), .inr (inseg hs)⟩
  | cons q ps ih =>
    obtain ⟨i, j⟩ := q
    intro a c h e he
    obtain ⟨h1, h2, h3, h4, h5, h6⟩ := h
    rw [scrFrom] at he
    rcases List.mem_append.mp he with he | he
    · rcases List.mem_append.mp he with he | he
      · obtain ⟨s, hs, rfl⟩ := List.mem_map.mp he
        exact ⟨.inr (.inl rfl), .inl (inseg hs)⟩
      · obtain ⟨s, hs, rfl⟩ := List.mem_map.mp he
        exact ⟨.inr (.inr rfl), .inr (inseg hs)⟩
    · rcases List.mem_cons.mp he with rfl | he
      · have hlt : i - 1 < ss1.length := by omega
        refine ⟨.inl rfl, .inl ?_⟩
        show ss1.getD (i - 1) "" ∈ ss1
        rw [getD_of (List.getElem?_eq_getElem hlt)]
        exact List.getElem_mem hlt
      · exact ih i j h6 e he
/-- a text's lines are lines -/
def Lns (ss : List Str) : Prop := ∀ s ∈ ss, isLine (.str s) = true
theorem scr_is {ss1 ss2 : List Str} {ps : List (Nat × Nat)} (h : IsDf ss1 ss2 ps) (l1 : Lns ss1) (l2 : Lns ss2) (k1 : ss1.length ≤ 60) (k2 : ss2.length ≤ 60) : IsScr (scriptL ss1 ss2 ps) := by
  have d := dfFrom_of h
  have wi := scr_in ss1 ss2 ps 0 0 d
  refine ⟨fun e he => (wi e he).1, fun e he => ?_, ?_, ?_⟩
  · rcases (wi e he).2 with q | q
    · exact l1 _ q
    · exact l2 _ q
  · unfold scriptL
    rw [scr_old _ _ _ _ _ d, List.drop_zero]
    exact k1
  · unfold scriptL
    rw [scr_new _ _ _ _ _ d, List.drop_zero]
    exact k2
theorem TxV.lns {K : PySem.W.Frag} {H : Hp} {x : V} {ss : List Str} (h : TxV K H x ss) : Lns ss := by
  obtain ⟨d, a, b, rfl⟩ := h
  intro s hs
  unfold isText at b
  rw [Bool.and_eq_true, Bool.and_eq_true] at b
  have e := all_line _ b.2.2
  have hs' : PyData.str s ∈ (itemsOf d) := by
    rw [e]
    exact List.mem_map.mpr ⟨s, hs, rfl⟩
  exact (List.all_eq_true.mp b.2.2) _ hs'
theorem eqv_ents : ∀ (es fs : List Ent), PyData.eqvAll (es.map entD) (fs.map entD) = decide (es = fs)
  | [], [] => by simp [PyData.eqvAll]
  | [], f :: fs => by simp [PyData.eqvAll]
  | e :: es, [] => by simp [PyData.eqvAll]
  | e :: es, f :: fs => by
    rw [List.map_cons, List.map_cons, PyData.eqvAll, eqv_ents es fs]
    have h : PyData.eqv (entD e) (entD f) = decide (e = f) := by
      obtain ⟨a, b⟩ := e
      obtain ⟨c, d⟩ := f
      unfold entD
      simp only [PyData.eqv, PyData.eqvAll, Bool.and_true]
      by_cases h1 : a = c
      · by_cases h2 : b = d
        · subst h1 h2; simp
        · rw [decide_eq_false (fun e => h2 (by injection e)), show (b == d) = false from by simpa using h2, Bool.and_false]
      · rw [decide_eq_false (fun e => h1 (by injection e)), show (a == c) = false from by simpa using h1, Bool.false_and]
    rw [h]
    by_cases h1 : e = f
    · by_cases h2 : es = fs
      · subst h1 h2; simp
      · rw [decide_eq_false h2, Bool.and_false, decide_eq_false (fun e => h2 (by injection e))]
    · rw [decide_eq_false h1, Bool.false_and, decide_eq_false (fun e => h1 (by injection e))]
/-- texts that the data road takes -/
def OkE (es : List Ent) : Prop := ∀ e ∈ es, PyData.strOk e.1 = true ∧ PyData.strOk e.2 = true
theorem ents_lay : ∀ {es : List Ent}, OkE es → PyData.canLayAll0 (es.map entD) = true ∧ PyData.depthAll (es.map entD) ≤ 3
  | [], _ => ⟨by simp [PyData.canLayAll0], by simp [PyData.depthAll]⟩
  | e :: es, ho => by
    obtain ⟨h1, h2⟩ := ents_lay (es := es) fun x hx => ho x (List.mem_cons_of_mem _ hx)
    obtain ⟨o1, o2⟩ := ho e (List.mem_cons_self ..)
    refine ⟨by simp [PyData.canLayAll0, PyData.canLay0, entD, h1, o1, o2], ?_⟩
    simp [PyData.depthAll, PyData.depth, entD]
    omega
theorem ents_shaped {es : List Ent} (ho : OkE es) : SeqAt.shaped (.list (es.map entD)) = true := by
  obtain ⟨h1, h2⟩ := ents_lay ho
  unfold SeqAt.shaped
  rw [Bool.and_eq_true, decide_eq_true_eq]
  refine ⟨by simp only [PyData.canLay0, h1], ?_⟩
  have e : (PyData.list (es.map entD)).depth = PyData.depthAll (es.map entD) + 1 := by simp only [PyData.depth]
  omega
theorem ents_dp {K : PySem.W.Frag} {H : Hp} : ∀ {xs : List V} {es : List Ent}, xs.length = es.length → (∀ (i : Nat) (v : V), xs[i]? = some v → ∃ (e : Ent) (r : Addr), es[i]? = some e ∧ v = .ref r ∧ SqT K H r [.str e.1, .str e.2]) → DpAll K H xs (es.map entD)
  | [], [], _, _ => .nil
  | [], e :: es, h, _ => by simp at h
  | x :: xs, [], h, _ => by simp at h
  | x :: xs, e :: es, h, hx => by
    obtain ⟨e', r, h1, rfl, h2⟩ := hx 0 x rfl
    obtain rfl : e = e' := Option.some.inj h1
    exact .cons (.tup h2 (.cons (.str _) (.cons (.str _) .nil))) (ents_dp (by simpa using h) fun i v hv => hx (i + 1) v hv)
theorem EsAt.items {K : PySem.W.Frag} {H : Hp} {rs : List Addr} {es : List Ent} (h : EsAt H rs es) : (refs rs).length = es.length ∧ ∀ (i : Nat) (v : V), (refs rs)[i]? = some v → ∃ (e : Ent) (r : Addr), es[i]? = some e ∧ v = .ref r ∧ SqT K H r [.str e.1, .str e.2] := by
  refine ⟨by unfold refs; rw [List.length_map, h.1], fun i v hv => ?_⟩
  unfold refs at hv
  rw [List.getElem?_map] at hv
  obtain ⟨r, e1, rfl⟩ := Option.map_eq_some_iff.mp hv
  have hi : i < es.length := by rw [← h.1]; exact (List.getElem?_eq_some_iff.mp e1).1
  obtain ⟨r', e2, e3⟩ := h.2 i _ (List.getElem?_eq_getElem hi)
  rw [e1] at e2
  cases e2
  exact ⟨_, r, List.getElem?_eq_getElem hi, rfl, .inl (.inl e3)⟩
end XR
namespace XR
open PySem L2
def spPlain (K : PySem.W.Frag) : Sp := fun vs H Q _ => ∃ (x : V) (b : Bool) (es : List Ent), vs = [x] ∧ EnV K H x b es ∧ IsScr es ∧ OkE es ∧ ∀ H', Same H H' → Q (.bl (plainB es)) H'
theorem gos_app (xs : List Str) (x : Str) : gos (xs ++ [x]) = gos xs ++ [(goW, x)] := by unfold gos; rw [List.map_append]; rfl
theorem comes_app (xs : List Str) (x : Str) : comes (xs ++ [x]) = comes xs ++ [(coW, x)] := by unfold comes; rw [List.map_append]; rfl
theorem refs_app (a b : List Addr) : refs a ++ refs b = refs (a ++ b) := by unfold refs; rw [List.map_append]
theorem gos_len (xs : List Str) : (gos xs).length = xs.length := List.length_map ..
theorem comes_len (xs : List Str) : (comes xs).length = xs.length := List.length_map ..
theorem take_le (xs : List Str) (j : Nat) : (xs.take j).length ≤ xs.length := by rw [List.length_take]; exact Nat.min_le_right _ _
theorem seg_le (ss : List Str) (a b : Nat) (h : b ≤ ss.length) : (seg ss a b).length ≤ ss.length := by
  unfold seg
  rw [List.length_take, List.length_drop]
  omega
end XR
namespace K17
open PySem L2 XR
section
variable {P : Program} {w : World} {K : PySem.W.Frag} {mg : Str → Option Value} {base : Heap}
abbrev sScrOf : Stmt := top 28
abbrev nScrOf : List Str := ["old", "new", "diff", "entries", "a", "b", "c", "d", "line"]
theorem scScrOf : FnScope nScrOf ["old", "new", "diff"] (defScope sScrOf) := ⟨rfl, rfl, rfl, by decide +kernel, rfl, by decide +kernel, by decide +kernel⟩
theorem ok_scrOf {f fC CT CD fG : Addr} {fd fdC fdG : FuncData} (F : Fun K "script_of" "script_of" sScrOf f fd) (T : Blt mg) (C : Chk P w K mg base fC CT CD fdC)
    (FG : Fun K "gaps_of" "gaps_of" sGaps fG fdG) (GG : FnOk P w K mg base CX0 1 fG fdG ["old", "new", "diff"] (spFours K gapsL)) (bG : Binds K fdG ["old", "new", "diff"] []) (mG : mg "gaps_of" = some (.ref fG)) : FnOk P w K mg base CX0 6 f fd ["old", "new", "diff"] (spScrOf K) := by
  refine F.ok scScrOf (fun vs H Q E h => ?_) (fun cdv A outer s H vs Q E hr h => ?_)
  · obtain ⟨x1, x2, v, ss1, ss2, ps, rfl, _⟩ := h
    rfl
  · obtain ⟨x1, x2, v, ss1, ss2, ps, rfl, t1, t2, hv, hd, z⟩ := h
    refine ⟨_, pss_cons (ps_expr (pe_callS C.G hr rfl C.m C.F.kp C.b (fun σ => passF σ) (pa_cons (pv 0) (pa_cons (pv 1) (pa_cons (pv 2) pa_nil)))))
      (pss_cons (ps_set (i := 3) scScrOf.nd rfl (.inl rfl) (pe_lst pa_nil))
      (pss_cons (ps_for PassesOwn.never rfl (pi_list (pe_call GG (hr.mono (by decide)) rfl mG FG.kp bG .nil pass0 (pa_cons (pv 0) (pa_cons (pv 1) (pa_cons (pv 2) pa_nil))))) (pg_tup rfl (pgs_cons (pg_name (i := 4) scScrOf.nd rfl (.inl rfl)) (pgs_cons (pg_name (i := 5) scScrOf.nd rfl (.inl rfl)) (pgs_cons (pg_name (i := 6) scScrOf.nd rfl (.inl rfl)) (pgs_cons (pg_name (i := 7) scScrOf.nd rfl (.inl rfl)) pgs_nil)))))
        (pss_cons (ps_expr (pe_bm PySem.F.plainAttrs_list PySem.F.slot_list_extend PySem.F.type_list_extend mt_extend (pv 3) (pa_cons (pe_lc (own := [("line", 8)]) (g := gName 8) (tt := tYes) (te := tTup (tCons (tC (.str "go")) (tCons (tVar 8) tNil))) rfl scScrOf.nd
            (pi_orI (pi_list (pe_slice sl_list (pv 0) (po_some (pv 4)) (po_some (pv 5)))) (pi_tup (pe_slice sl_tupA (pv 0) (po_some (pv 4)) (po_some (pv 5)))))
            (blkOk_by (own := [("line", 8)]) (N := nScrOf) (sc := defScope sScrOf) (by decide +kernel)) (fun _ _ _ _ _ => pg_name (i := 8) scScrOf.nd rfl (.inl rfl)) (fun _ _ _ _ _ => pts_nil) (fun _ _ _ _ _ => pe_tup (pa_cons pe_str (pa_cons (pv 8) pa_nil)))) pa_nil)))
        (pss_cons (ps_expr (pe_bm PySem.F.plainAttrs_list PySem.F.slot_list_extend PySem.F.type_list_extend mt_extend (pv 3) (pa_cons (pe_lc (own := [("line", 8)]) (g := gName 8) (tt := tYes) (te := tTup (tCons (tC (.str "come")) (tCons (tVar 8) tNil))) rfl scScrOf.nd
            (pi_orI (pi_list (pe_slice sl_list (pv 1) (po_some (pv 6)) (po_some (pv 7)))) (pi_tup (pe_slice sl_tupA (pv 1) (po_some (pv 6)) (po_some (pv 7)))))
            (blkOk_by (own := [("line", 8)]) (N := nScrOf) (sc := defScope sScrOf) (by decide +kernel)) (fun _ _ _ _ _ => pg_name (i := 8) scScrOf.nd rfl (.inl rfl)) (fun _ _ _ _ _ => pts_nil) (fun _ _ _ _ _ => pe_tup (pa_cons pe_str (pa_cons (pv 8) pa_nil)))) pa_nil)))
        (pss_one (ps_if (pt_cmpR op_lt (pv 5) (pe_callB call_len_seq (by rfl) T.len PySem.boot_len (pa_cons (pv 0) pa_nil)) (nomark _))
          (pss_one (ps_expr (pe_bm PySem.F.plainAttrs_list PySem.F.slot_list_append PySem.F.type_list_append mt_append (pv 3) (pa_cons (pe_tup (pa_cons pe_str (pa_cons (pe_ix ix_seq (pv 0) (pv 5) (fun _ _ => rfl)) pa_nil))) pa_nil)))) pss_nil)))))
      (pss_one (ps_ret (pv 3))))), ?_⟩
    have l1 := t1.len
    have l2 := t2.len
    have df := dfFrom_of hd
    have glen : (gapsL ss1.length ss2.length ps).length = ps.length + 1 := gaps_len _ _ _ _
    have gflat : (gapsL ss1.length ss2.length ps).flatMap (gapE ss1 ss2) = scriptL ss1 ss2 ps := gaps_scr ss1 ss2 ps 0 0 df
    have total : (scriptL ss1 ss2 ps).length ≤ 120 := (scr_is hd t1.lns t2.lns l1 l2).len
    have part : ∀ i, (((gapsL ss1.length ss2.length ps).take i).flatMap (gapE ss1 ss2)).length ≤ 120 := fun i => by
      refine Nat.le_trans ?_ total
      rw [← gflat]
      conv => rhs; rw [← List.take_append_drop i (gapsL ss1.length ss2.length ps), List.flatMap_append, List.length_append]
      exact Nat.le_add_right _ _
    refine ⟨_, rfl, _, rfl, _, rfl, ?_⟩
    dsimp only [tNil]
    refine chk_ok t1 t2 hv hd fun H1 s1 => ?_
    refine ⟨ll20 (by decide), fun pf nf => ?_⟩
    have sf := same_upd (o := .lst []) nf
    have s1f := s1.trans sf
    refine ⟨_, rfl, _, rfl, _, rfl, x1, x2, v, ss1, ss2, ps, rfl, t1.same s1f, t2.same s1f, hv.same s1f, hd, fun l rs H2 s2 nl hl hb => ?_⟩
    have hpf2 := s2 _ _ (upd_same (H := H1) (a := pf) (o := .lst []))
    have s12 := s1f.trans s2
    refine ⟨l, rfl, ⟨_, SqL.of hl⟩, ?_⟩
    have nl1 : H1 l = none := none_before sf nl
    refine for_list (K := K) (a := l) (xs := refs rs) (fun i σ H' => Same H1 H' ∧ H' l = some (.lst (refs rs)) ∧ BsAt H' rs (gapsL ss1.length ss2.length ps) ∧ (∃ y4 y5 y6 y7 y8, σ = [some x1, some x2, some v, some (V.ref pf), y4, y5, y6, y7, y8]) ∧ ∃ qs, H' pf = some (.lst (refs qs)) ∧ EsAt H' qs (((gapsL ss1.length ss2.length ps).take i).flatMap (gapE ss1 ss2)))
      ⟨sf.trans s2, hl, hb, ⟨_, _, _, _, _, rfl⟩, [], hpf2, .nil⟩ (fun i σ H' _ hh => SqL.of hh.2.1) ?_ ?_
    · rintro i x σ H' hx ⟨sm, hlH, hbH, ⟨y4, y5, y6, y7, y8, rfl⟩, qs, hf, hq⟩
      obtain ⟨r0, er0, rfl⟩ : ∃ r, rs[i]? = some r ∧ x = V.ref r := by
        unfold refs at hx
        rw [List.getElem?_map] at hx
        obtain ⟨r, e1, e2⟩ := Option.map_eq_some_iff.mp hx
        exact ⟨r, e1, e2.symm⟩
      have hi : i < (gapsL ss1.length ss2.length ps).length := by rw [← hbH.1]; exact (List.getElem?_eq_some_iff.mp er0).1
      obtain ⟨⟨a, b, c, d⟩, hg⟩ : ∃ g, (gapsL ss1.length ss2.length ps)[i]? = some g := ⟨_, List.getElem?_eq_getElem hi⟩
      obtain ⟨r1, er1, hr1⟩ := hbH.2 i _ hg
      rw [er0] at er1
      cases er1
      obtain ⟨b1, b2, b3, b4⟩ : a ≤ b ∧ b ≤ ss1.length ∧ c ≤ d ∧ d ≤ ss2.length := gaps_bd ss1 ss2 ps 0 0 df _ (List.mem_of_getElem? hg)
      have tkn : ((gapsL ss1.length ss2.length ps).take (i + 1)).flatMap (gapE ss1 ss2) = ((gapsL ss1.length ss2.length ps).take i).flatMap (gapE ss1 ss2) ++ gapE ss1 ss2 (a, b, c, d) := by
        rw [List.take_add_one, hg, List.flatMap_append]
        simp
      have pi := part i
      have pi1 := part (i + 1)
      have sall := s1.trans sm
      have tx1 := (t1.same sall).a
      have tx2 := (t2.same sall).a
      refine ⟨r0, _, rfl, .inl (.inl hr1), rfl, _, _, rfl, _, _, rfl, _, _, rfl, _, _, rfl, rfl, ?_⟩
      refine ⟨_, rfl, .inl ⟨rfl, _, SqL.of hf⟩, ?_⟩
      refine rd_slI tx1 rfl rfl rfl b1 b2 fun p1 w1 Ha sa hp1 D1 nD1 => ?_
      have sD1 := same_upd (o := .lst []) nD1
      refine lc_it walk_w (fun j Hx => Same Ha Hx ∧ ∃ rs1, Hx D1 = some (.lst (refs rs1)) ∧ EsAt Hx rs1 (gos ((seg ss1 a b).take j))) ⟨sD1, [], upd_same, .nil⟩ (fun j Hx _ hh => hp1.same hh.1) ?_ ?_
      · rintro j x Hx Hy hj ⟨sx, rs1, hD1, hq1⟩ ⟨rfl, e2⟩
        obtain ⟨ln, rfl, hln⟩ := str_of_map e2
        rw [List.length_map] at hj
        refine ⟨rfl, ?_⟩
        unfold tYes
        dsimp only
        rw [if_pos rfl]
        refine ⟨_, rfl, ll20 (by show 2 ≤ 20; decide), fun u nu => ?_⟩
        obtain ⟨k1, k2, k3⟩ := esStep (e := (goW, ln)) hD1 hq1 nu
        refine ⟨_, k1, ?_, fun b' o' h => ?_, rs1 ++ [u], k3, ?_⟩
        · unfold refs
          rw [List.length_map, hq1.1]
          refine Nat.lt_of_le_of_lt (m := 60) ?_ (by decide)
          rw [gos_len]
          exact Nat.le_trans (take_le _ _) (Nat.le_trans (seg_le ss1 a b b2) l1)
        · rw [upd_ne (ne_of_none h nD1)]
          exact same_upd nu _ _ (sx _ _ h)
        · rw [List.take_add_one, hln]
          rw [show (seg ss1 a b).take j ++ (some ln).toList = (seg ss1 a b).take j ++ [ln] from rfl, gos_app]
          exact k2
      rintro Hb ⟨sb, rs1, hD1, hq1⟩
      rw [List.length_map, List.take_length] at hq1
      have hfb := sb _ _ (sa _ _ hf)
      have hqb := hq.same (sa.trans sb)
      have npf : pf ≠ D1 := ne_of_none (sa _ _ hf) nD1
      refine ⟨pf, D1, _, _, rfl, rfl, hfb, hD1, ?_, ?_⟩
      · unfold refs
        rw [List.length_map, List.length_map, hqb.1, hq1.1]
        refine Nat.le_trans (m := 200) ?_ (by decide)
        rw [gos_len]
        exact Nat.add_le_add (Nat.le_trans pi (by decide : 120 ≤ 140)) (Nat.le_trans (seg_le ss1 a b b2) l1)
      have hE1 : EsAt (upd Hb pf (.lst (refs qs ++ refs rs1))) (qs ++ rs1) (((gapsL ss1.length ss2.length ps).take i).flatMap (gapE ss1 ss2) ++ gos (seg ss1 a b)) := (hqb.append hq1).updL hfb
      have hf1 : upd Hb pf (.lst (refs qs ++ refs rs1)) pf = some (.lst (refs (qs ++ rs1))) := by
        rw [upd_same]; unfold refs; rw [List.map_append]
      have sm1 : Same H1 (upd Hb pf (.lst (refs qs ++ refs rs1))) := fun b' o' h => by
        rw [upd_ne (ne_of_none h nf)]
        exact sb _ _ (sa _ _ (sm _ _ h))
      have hlb : upd Hb pf (.lst (refs qs ++ refs rs1)) l = some (.lst (refs rs)) := by
        rw [upd_ne (fun e => ?_)]
        · exact sb _ _ (sa _ _ hlH)
        · have q1 := upd_same (H := H1) (a := pf) (o := .lst [])
          have q2 := nl
          rw [e, q1] at q2
          cases q2
      have hbb : BsAt (upd Hb pf (.lst (refs qs ++ refs rs1))) rs (gapsL ss1.length ss2.length ps) := by
        have := (hbH.same sa).same sb
        exact ⟨this.1, fun k g hg => let ⟨r, h1, h2⟩ := this.2 k g hg; ⟨r, h1, by rw [upd_ne (fun e => by rw [e, hfb] at h2; cases h2)]; exact h2⟩⟩
      generalize upd Hb pf (.lst (refs qs ++ refs rs1)) = Hc at hE1 hf1 sm1 hlb hbb ⊢
      have tx2c := (t2.same (s1.trans sm1)).a
      refine ⟨_, rfl, .inl ⟨rfl, _, SqL.of hf1⟩, ?_⟩
      refine rd_slI tx2c rfl rfl rfl b3 b4 fun p2 w2 Hd sd hp2 D2 nD2 => ?_
      have sD2 := same_upd (o := .lst []) nD2
      refine lc_it walk_w (fun j Hx => Same Hd Hx ∧ ∃ rs2, Hx D2 = some (.lst (refs rs2)) ∧ EsAt Hx rs2 (comes ((seg ss2 c d).take j))) ⟨sD2, [], upd_same, .nil⟩ (fun j Hx _ hh => hp2.same hh.1) ?_ ?_
      · rintro j x Hx Hy hj ⟨sx, rs2, hD2, hq2⟩ ⟨rfl, e2⟩
        obtain ⟨ln, rfl, hln⟩ := str_of_map e2
        rw [List.length_map] at hj
        refine ⟨rfl, ?_⟩
        unfold tYes
        dsimp only
        rw [if_pos rfl]
        refine ⟨_, rfl, ll20 (by show 2 ≤ 20; decide), fun u nu => ?_⟩
        obtain ⟨k1, k2, k3⟩ := esStep (e := (coW, ln)) hD2 hq2 nu
        refine ⟨_, k1, ?_, fun b' o' h => ?_, rs2 ++ [u], k3, ?_⟩
        · unfold refs
          rw [List.length_map, hq2.1]
          refine Nat.lt_of_le_of_lt (m := 60) ?_ (by decide)
          rw [comes_len]
          exact Nat.le_trans (take_le _ _) (Nat.le_trans (seg_le ss2 c d b4) l2)
        · rw [upd_ne (ne_of_none h nD2)]
          exact same_upd nu _ _ (sx _ _ h)
        · rw [List.take_add_one, hln]
          rw [show (seg ss2 c d).take j ++ (some ln).toList = (seg ss2 c d).take j ++ [ln] from rfl, comes_app]
          exact k2
      rintro He ⟨se, rs2, hD2, hq2⟩
      rw [List.length_map, List.take_length] at hq2
      have hfe := se _ _ (sd _ _ hf1)
      have hqe := hE1.same (sd.trans se)
      refine ⟨pf, D2, _, _, rfl, rfl, hfe, hD2, ?_, ?_⟩
      · unfold refs
        rw [List.length_map, List.length_map, hqe.1, hq2.1, List.length_append]
        refine Nat.le_trans (m := 300) ?_ (by decide)
        rw [gos_len, comes_len]
        exact Nat.add_le_add (Nat.add_le_add (Nat.le_trans pi (by decide : 120 ≤ 140)) (Nat.le_trans (seg_le ss1 a b b2) l1)) (Nat.le_trans (seg_le ss2 c d b4) (Nat.le_trans l2 (by decide : 60 ≤ 100)))
      have hE2 : EsAt (upd He pf (.lst (refs (qs ++ rs1) ++ refs rs2))) (qs ++ rs1 ++ rs2) (((gapsL ss1.length ss2.length ps).take i).flatMap (gapE ss1 ss2) ++ gos (seg ss1 a b) ++ comes (seg ss2 c d)) := (hqe.append hq2).updL hfe
      have hf2 : upd He pf (.lst (refs (qs ++ rs1) ++ refs rs2)) pf = some (.lst (refs (qs ++ rs1 ++ rs2))) := by
        rw [upd_same, refs_app]
      have sm2 : Same H1 (upd He pf (.lst (refs (qs ++ rs1) ++ refs rs2))) := fun b' o' h => by
        rw [upd_ne (ne_of_none h nf)]
        exact se _ _ (sd _ _ (sm1 _ _ h))
      have hle : upd He pf (.lst (refs (qs ++ rs1) ++ refs rs2)) l = some (.lst (refs rs)) := by
        rw [upd_ne (fun e => ?_)]
        · exact se _ _ (sd _ _ hlb)
        · have q1 := upd_same (H := H1) (a := pf) (o := .lst [])
          have q2 := nl
          rw [e, q1] at q2
          cases q2
      have hbe : BsAt (upd He pf (.lst (refs (qs ++ rs1) ++ refs rs2))) rs (gapsL ss1.length ss2.length ps) := by
        have := (hbb.same sd).same se
        exact ⟨this.1, fun k g hg => let ⟨r, h1, h2⟩ := this.2 k g hg; ⟨r, h1, by rw [upd_ne (fun e => by rw [e, hfe] at h2; cases h2)]; exact h2⟩⟩
      generalize upd He pf (.lst (refs (qs ++ rs1) ++ refs rs2)) = Hf at hE2 hf2 sm2 hle hbe ⊢
      have tx1f := (t1.same (s1.trans sm2)).a
      obtain ⟨pa, rfl, hpa⟩ := id tx1f
      refine ⟨_, rfl, _, rfl, pa, _, rfl, hpa, _, _, rfl, rfl, _, rfl, ?_⟩
      rw [List.length_map]
      by_cases cb : b < ss1.length
      · rw [decide_eq_true (show ((b : Int) < (ss1.length : Int)) by omega)]
        have eb : ss1[b]? = some ss1[b] := List.getElem?_eq_getElem cb
        refine iteT ⟨_, rfl, .inl ⟨rfl, _, SqL.of hf2⟩, _, rfl, _, rfl, TxA.ix tx1f eb rfl ⟨ll20 (by show 2 ≤ 20; decide), fun u nu => ?_⟩⟩
        obtain ⟨k1, k2, k3⟩ := esStep (e := (kpW, ss1[b])) hf2 hE2 nu
        have fin : ((gapsL ss1.length ss2.length ps).take (i + 1)).flatMap (gapE ss1 ss2) = ((gapsL ss1.length ss2.length ps).take i).flatMap (gapE ss1 ss2) ++ gos (seg ss1 a b) ++ comes (seg ss2 c d) ++ [(kpW, ss1[b])] := by
          rw [tkn]
          unfold gapE
          rw [if_pos cb, getD_of eb]
          simp
        refine ⟨pf, _, _, rfl, rfl, k1, ?_, ?_⟩
        · unfold refs
          rw [List.length_map, hE2.1]
          refine Nat.lt_of_le_of_lt (m := 120) ?_ (by decide)
          rw [fin, List.length_append] at pi1
          exact Nat.le_trans (Nat.le_add_right _ _) pi1
        · have nul : u ≠ l := fun e => by rw [e, hle] at nu; cases nu
          have npl : pf ≠ l := fun e => by
            have q1 := upd_same (H := H1) (a := pf) (o := .lst [])
            have q2 := nl
            rw [← e, q1] at q2
            cases q2
          refine ⟨fun b' o' h => ?_, ?_, ?_, ⟨_, _, _, _, _, rfl⟩, qs ++ rs1 ++ rs2 ++ [u], k3, ?_⟩
          · rw [upd_ne (ne_of_none h nf)]
            exact same_upd nu _ _ (sm2 _ _ h)
          · rw [upd_ne (Ne.symm npl)]
            exact same_upd nu _ _ hle
          · have h3 := hbe.same (same_upd (o := entO (kpW, ss1[b])) nu)
            exact ⟨h3.1, fun k g hg => let ⟨r, h1, h2⟩ := h3.2 k g hg; ⟨r, h1, by rw [upd_ne (fun e => by rw [e, k1] at h2; cases h2)]; exact h2⟩⟩
          · rw [fin]
            exact k2
      · rw [decide_eq_false (show ¬ ((b : Int) < (ss1.length : Int)) by omega)]
        refine iteF ⟨sm2, hle, hbe, ⟨_, _, _, _, _, rfl⟩, qs ++ rs1 ++ rs2, hf2, ?_⟩
        rw [tkn]
        unfold gapE
        rw [if_neg cb, List.append_nil, ← List.append_assoc]
        exact hE2
    · rintro σ H' ⟨sm, hlH, hbH, ⟨y4, y5, y6, y7, y8, rfl⟩, qs, hf, hq⟩
      have e1 : (refs rs).length = (gapsL ss1.length ss2.length ps).length := by unfold refs; rw [List.length_map, hbH.1]
      rw [e1, List.take_length, gflat] at hq
      exact ⟨_, rfl, z pf qs H' (s1.trans sm) (none_before s1 nf) hf hq⟩
end
end K17
namespace XR
open PySem L2
theorem text_okL {d : PyData} {ss : List Str} (h1 : itemsOf d = ss.map PyData.str) (h2 : isSeq d = true) (w : Lns ss) (l : ss.length ≤ 60) : isText d = true := by
  unfold isText
  rw [h1, h2, List.length_map, decide_eq_true l, List.all_map]
  simp only [Bool.true_and]
  rw [List.all_eq_true]
  exact fun s hs => w s hs
theorem lst_textL {K : PySem.W.Frag} {H : Hp} {p : Addr} {ss : List Str} (h : SqL K H p (ss.map V.str)) (w : Lns ss) (l : ss.length ≤ 60) : TxV K H (.ref p) ss :=
  ⟨.list (ss.map .str), .lst h (dqStrs ss), text_okL rfl rfl w l, strs_back ss⟩
theorem tup_textL {K : PySem.W.Frag} {H : Hp} {p : Addr} {ss : List Str} (h : SqT K H p (ss.map V.str)) (w : Lns ss) (l : ss.length ≤ 60) : TxV K H (.ref p) ss :=
  ⟨.tuple (ss.map .str), .tup h (dqStrs ss), text_okL rfl rfl w l, strs_back ss⟩
def OkS (ss : List Str) : Prop := ∀ s ∈ ss, PyData.strOk s = true
theorem in_oldL {es : List Ent} {s : Str} (h : s ∈ oldL es) : ∃ e ∈ es, e.2 = s := by
  unfold oldL at h
  obtain ⟨e, he, rfl⟩ := List.mem_map.mp h
  exact ⟨e, (List.mem_filter.mp he).1, rfl⟩
theorem in_newL {es : List Ent} {s : Str} (h : s ∈ newL es) : ∃ e ∈ es, e.2 = s := by
  unfold newL at h
  obtain ⟨e, he, rfl⟩ := List.mem_map.mp h
  exact ⟨e, (List.mem_filter.mp he).1, rfl⟩
theorem OkE.old {es : List Ent} (h : OkE es) : OkS (oldL es) := fun s hs => by
  obtain ⟨e, he, rfl⟩ := in_oldL hs
  exact (h e he).2
theorem OkE.new {es : List Ent} (h : OkE es) : OkS (newL es) := fun s hs => by
  obtain ⟨e, he, rfl⟩ := in_newL hs
  exact (h e he).2
theorem IsScr.lo {es : List Ent} (h : IsScr es) : Lns (oldL es) := fun s hs => by
  obtain ⟨e, he, rfl⟩ := in_oldL hs
  exact h.ln e he
theorem IsScr.lnw {es : List Ent} (h : IsScr es) : Lns (newL es) := fun s hs => by
  obtain ⟨e, he, rfl⟩ := in_newL hs
  exact h.ln e he
theorem scr_okE {ss1 ss2 : List Str} {ps : List (Nat × Nat)} (h : DfFrom ss1 ss2 0 0 ps) (o1 : OkS ss1) (o2 : OkS ss2) : OkE (scriptL ss1 ss2 ps) := fun e he => by
  obtain ⟨h1, h2⟩ := scr_in ss1 ss2 ps 0 0 h e he
  refine ⟨?_, ?_⟩
  · rcases h1 with q | q | q <;> rw [q] <;> decide +kernel
  · rcases h2 with q | q
    · exact o1 _ q
    · exact o2 _ q
theorem IsScr.df {es : List Ent} (h : IsScr es) : DfFrom (oldL es) (newL es) 0 0 (pairsFrom 0 0 es) :=
  df_pairs (oldL es) (newL es) es 0 0 h.wd rfl rfl (Nat.zero_le _) (Nat.zero_le _)
theorem EnV.seqW {K : PySem.W.Frag} {b : Bool} {H : Hp} {a : Addr} {xs : List V} (h : SqW K b H a xs) : SqL K H a xs ∨ SqT K H a xs := by
  cases b with
  | true => exact .inl h
  | false => exact .inr h
end XR
namespace K17
open PySem L2 XR
section
variable {P : Program} {w : World} {K : PySem.W.Frag} {mg : Str → Option Value} {base : Heap}
abbrev sPlain : Stmt := top 31
abbrev nPlain : List Str := ["entries", "old", "new"]
theorem scPlain : FnScope nPlain ["entries"] (defScope sPlain) := ⟨rfl, rfl, rfl, by decide +kernel, rfl, by decide +kernel, by decide +kernel⟩
theorem ok_plain {f fT fS fD : Addr} {fd fdT fdS fdD : FuncData} (F : Fun K "is_plain" "is_plain" sPlain f fd) (T : Blt mg)
    (FT : Fun K "texts_of" "texts_of" sTexts fT fdT) (GT : FnOk P w K mg base CX0 5 fT fdT ["entries"] (spTexts K)) (bT : Binds K fdT ["entries"] []) (mT : mg "texts_of" = some (.ref fT))
    (FS : Fun K "script_of" "script_of" sScrOf fS fdS) (GS : FnOk P w K mg base CX0 6 fS fdS ["old", "new", "diff"] (spScrOf K)) (bS : Binds K fdS ["old", "new", "diff"] []) (mS : mg "script_of" = some (.ref fS))
    (FD : Fun K "diff_of" "diff_of" sDiffOf fD fdD) (GD : FnOk P w K mg base CX0 5 fD fdD ["entries"] (spDiffOf K)) (bD : Binds K fdD ["entries"] []) (mD : mg "diff_of" = some (.ref fD)) : FnOk P w K mg base CX0 7 f fd ["entries"] (spPlain K) := by
  refine F.ok scPlain (fun vs H Q E h => ?_) (fun cdv A outer s H vs Q E hr h => ?_)
  · obtain ⟨x, b, es, rfl, _⟩ := h
    rfl
  · obtain ⟨x, b, es, rfl, he, hs, ho, z⟩ := h
    have hr5 := hr.mono (by decide : 5 ≤ 6)
    refine ⟨_, pss_cons (ps_asg (pe_call GT hr5 rfl mT FT.kp bT .nil pass0 (pa_cons (pv 0) pa_nil)) (pg_tup rfl (pgs_cons (pg_name (i := 1) scPlain.nd rfl (.inl rfl)) (pgs_cons (pg_name (i := 2) scPlain.nd rfl (.inl rfl)) pgs_nil))))
      (pss_one (ps_ret (pe_cmpR (op_eqD hr.units) (pe_callTy call_list_of (by rfl) (T.all "list" (by decide)) (by decide +kernel) (pa_cons (pv 0) pa_nil))
        (pe_call GS hr rfl mS FS.kp bS .nil pass0 (pa_cons (pv 1) (pa_cons (pv 2) (pa_cons (pe_call GD hr5 rfl mD FD.kp bD .nil pass0 (pa_cons (pv 0) pa_nil)) pa_nil)))) (nomark _)))), ?_⟩
    refine ⟨_, rfl, x, b, es, rfl, he, hs, fun t p1 p2 H1 s1 n1 n2 n12 ht hp1 hp2 => ?_⟩
    obtain ⟨a, xs, rfl, hw, hl, hx⟩ := (he.same s1).items
    refine ⟨t, _, rfl, SqT.of ht, rfl, _, _, rfl, _, _, rfl, rfl, _, rfl, a, xs, rfl, EnV.seqW hw, fun l nl => ?_⟩
    have sl := same_upd (o := .lst xs) nl
    have hl2 := upd_same (H := H1) (a := l) (o := .lst xs)
    have hp1' := sl _ _ hp1
    have hp2' := sl _ _ hp2
    have s2 := s1.trans sl
    generalize upd H1 l (.lst xs) = H2 at sl hl2 hp1' hp2' s2 ⊢
    have t1 : TxV K H2 (.ref p1) (oldL es) := lst_textL (SqL.of hp1') hs.lo hs.o
    have t2 : TxV K H2 (.ref p2) (newL es) := lst_textL (SqL.of hp2') hs.lnw hs.n
    refine ⟨_, rfl, _, rfl, _, rfl, _, b, es, rfl, he.same s2, hs, fun u H3 s3 nu hd => ?_⟩
    refine ⟨.ref p1, .ref p2, .ref u, oldL es, newL es, pairsFrom 0 0 es, rfl, t1.same s3, t2.same s3, hd.v, (isDf_from hs.df).1, fun l2 rs H4 s4 nl2 hl4 hr4 => ?_⟩
    have s34 := s3.trans s4
    have hok := scr_okE hs.df ho.old ho.new
    have d1' : Dp K H4 (.ref l) (.list (es.map entD)) := .lst (SqL.of (s34 _ _ hl2)) (ents_dp hl fun i v hv => let ⟨e, r, q1, q2, q3⟩ := hx i v hv; ⟨e, r, q1, q2, XR.Same.tup (sl.trans s34) q3⟩)
    have d2' : Dp K H4 (.ref l2) (.list ((scriptL (oldL es) (newL es) (pairsFrom 0 0 es)).map entD)) := .lst (SqL.of hl4) (ents_dp (hr4.items (K := K)).1 hr4.items.2)
    refine ⟨.list (es.map entD), _, d1', d2', ents_shaped ho, ents_shaped hok, ?_⟩
    rw [show PyData.eqv (.list (es.map entD)) (.list ((scriptL (oldL es) (newL es) (pairsFrom 0 0 es)).map entD)) = PyData.eqvAll (es.map entD) ((scriptL (oldL es) (newL es) (pairsFrom 0 0 es)).map entD) from by simp [PyData.eqv], eqv_ents, ← plain_iff hs.wd]
    exact z _ (s2.trans s34)
end
end K17
/-! A for in a generator's body, in segments. -/
namespace XG
open PySem PySem.Spec PyProof.Rows GenW L2
open Sem (wp)
section
variable {M : Model} {A : Around} {R : GenEnd} {Y : Protocol} {n : Nat} {s₀ : Shared} {c : Code} {fs : List Frame} {s : Shared} {env : Env}
  {K : Flow → Sem Fin} {H : Value → Sem Fin} {gd : Bool → Bool} {lv : List Value → List Value}
theorem seg_For {target iter : Expr} {body orelse : List Stmt} {pos : Pos} (hs : ∀ x, foldedSetIterable iter env x = pure x)
    (h : wpAny M (A.over c fs) (eval iter env) (fun x s1 => wpAny M (A.over c fs) (pyIter x) (fun it s2 => ∀ p, Seg M A R Y n s₀ (.forLoop target it body orelse env) (M.den (.forLoop target it body orelse env))
      (.ret (fun r => ((match r with | .ok f => (.pure f : Sem Flow) | .error e => .raise e).onRaise (cameBack env)).wrap K H gd lv) none (gd false) (lv []) c p [] :: fs) s2)
      (fun x s' => Seg M A R Y n s₀ c (H x) fs s') s1) (fun x s' => Seg M A R Y n s₀ c (H x) fs s') s) :
    Seg M A R Y n s₀ c ((exec (.For target iter body orelse pos) env).wrap K H gd lv) fs s := by
  rw [exec_For]
  refine seg_bind_wrap (wpAny_standAt ?_)
  refine seg_bind_wrap (wpAny_mono h (fun x s1 h1 => ?_) fun _ _ z => z)
  refine seg_bind_wrap (wpAny_of_eq (hs x) ?_)
  refine seg_bind_wrap (wpAny_standAt ?_)
  refine seg_bind_wrap (wpAny_holding (wpAny_mono h1 (fun it s2 h2 => ?_) fun _ _ z => z))
  exact seg_call h2
end
section
variable {prog : Program} {w : World} {A : Around} {R : GenEnd} {Y : Protocol} {n : Nat} {s₀ : Shared} {fs : List Frame} {s : Shared} {env : Env}
/-- a turn of a for -/
theorem seg_forLoop {target : Expr} {it : Value} {body orelse : List Stmt}
    (h : wpAny (model prog w) (A.over (.forLoop target it body orelse env) fs) (pyNext it) (fun r s1 => match r with
        | none => Seg (model prog w) A R Y n s₀ (.forLoop target it body orelse env) (.pure (.again (.block orelse env))) fs s1
        | some v => wpAny (model prog w) (A.over (.forLoop target it body orelse env) fs) (letOwnedTupleGo target it v) (fun _ s2 => wpAny (model prog w) (A.over (.forLoop target it body orelse env) fs) (assign target env v) (fun _ s3 =>
            Seg (model prog w) A R Y n s₀ (.forLoop target it body orelse env) ((execs body env).wrap (fun f => match f with
              | .next | .cont => .pure (.again (.forLoop target it body orelse env))
              | .brk => .pure (.done .next)
              | .ret v => .pure (.done (.ret v))) (fun e => (do noteFrame e env; theTreesLotGoes e : Sem Unit).wrap (fun _ => .raise e) .raise id id) id id) fs s3)
            (fun x s' => Seg (model prog w) A R Y n s₀ (.forLoop target it body orelse env) ((do noteFrame x env; theTreesLotGoes x : Sem Unit).wrap (fun _ => .raise x) .raise id id) fs s') s2)
          (fun x s' => Seg (model prog w) A R Y n s₀ (.forLoop target it body orelse env) ((do noteFrame x env; theTreesLotGoes x : Sem Unit).wrap (fun _ => .raise x) .raise id id) fs s') s1)
      (fun x s' => Seg (model prog w) A R Y n s₀ (.forLoop target it body orelse env) ((do noteFrame x env; theTreesLotGoes x : Sem Unit).wrap (fun _ => .raise x) .raise id id) fs s') s) :
    Seg (model prog w) A R Y n s₀ (.forLoop target it body orelse env) ((model prog w).den (.forLoop target it body orelse env)) fs s := by
  show Seg _ A R Y n s₀ _ ((forTurn target it body orelse env).onRaise (fun x => do noteFrame x env; theTreesLotGoes x)) fs s
  unfold forTurn
  rw [Sem.onRaise_eq_wrap]
  refine seg_bind_wrap (wpAny_standAt ?_)
  refine seg_bind_wrap (wpAny_onRaise (wpAny_mono h (fun r s1 h1 => ?_) fun x s' hx => wpAny_standAt ?_))
  · cases r with
    | none => exact h1
    | some v =>
      refine seg_bind_wrap (wpAny_mono h1 (fun _ s2 h2 => ?_) fun x s' hx => ?_)
      · refine seg_bind_wrap (wpAny_mono h2 (fun _ s3 h3 => ?_) fun x s' hx => ?_)
        · show Seg _ A R Y n s₀ _ (Sem.wrap _ _ _ _ ((execs body env) >>= _)) fs s3
          rw [Sem.bind_eq_wrap', Sem.wrap_wrap]
          rw [Sem.wrap_congr (execs body env) _ _ (K' := fun f => match f with
            | .next | .cont => .pure (.again (.forLoop target it body orelse env))
            | .brk => .pure (.done .next)
            | .ret v => .pure (.done (.ret v))) (H' := (fun e => (do noteFrame e env; theTreesLotGoes e : Sem Unit).wrap (fun _ => .raise e) .raise id id))
            (fun f => by cases f <;> rfl)
            (fun e => by first | exact Sem.bind_eq_wrap _ _ | (show (do noteFrame e env; theTreesLotGoes e : Sem Unit).bind (fun _ => .raise e) = _; rw [Sem.bind_eq_wrap]))]
          exact h3
        · first
            | (rw [← Sem.bind_eq_wrap] at hx; exact hx)
            | (show Seg _ A R Y n s₀ _ ((do noteFrame x env; theTreesLotGoes x : Sem Unit).bind fun _ => .raise x) fs s'; rw [Sem.bind_eq_wrap]; exact hx)
      · first
          | (rw [← Sem.bind_eq_wrap] at hx; exact hx)
          | (show Seg _ A R Y n s₀ _ ((do noteFrame x env; theTreesLotGoes x : Sem Unit).bind fun _ => .raise x) fs s'; rw [Sem.bind_eq_wrap]; exact hx)
  · first
      | (rw [← Sem.bind_eq_wrap] at hx; exact hx)
      | (show Seg _ A R Y n s₀ _ ((do noteFrame x env; theTreesLotGoes x : Sem Unit).bind fun _ => .raise x) fs s'; rw [Sem.bind_eq_wrap]; exact hx)
end
end XG
/-! A generator's context, for each object that the consumer's frame may be. -/
namespace XG
open PySem PySem.Spec PyProof.Rows GenW L2
open Sem (wp)

/-- the state with o at L -/
def upO (s : Shared) (L : Addr) (o : Obj) : Shared := { s with heap := s.heap.update L fun _ => o }
structure Fam where
  P : Program
  w : World
  K : PySem.W.Frag
  mg : Str → Option Value
  base : Heap
  N : List Str
  qual : Str
  scope : Scope
  f : Addr
  cd : Value
  A : Around
  outer : List Env
  Lg : Addr
  s : Shared
  H : Hp
  pn : List (Addr × Obj)
  Lc : Addr
abbrev Fam.env (F : Fam) : Env := envOfC F.qual F.scope F.Lg F.f F.cd
/-- the context: no exception leaves -/
def Fam.X (F : Fam) (o : Obj) : Cx where
  prog := F.P
  w := F.w
  K := F.K
  mg := F.mg
  base := F.base
  A := F.A.deeper F.env
  N := F.N
  s_0 := upO F.s F.Lc o
  H_0 := F.H
  env := F.env
  outer := F.outer
  stack := F.env :: F.outer
  ex := []
  calm := true
  fn := fun _ => true
  pn := F.pn
  xe := fun _ _ => False
theorem upO_ne {s : Shared} {L b : Addr} {o : Obj} (h : b ≠ L) : (upO s L o).heap.get? b = s.heap.get? b := Heap.get?_update_ne _ _ _ _ h
theorem upO_sz {s : Shared} {L : Addr} {o : Obj} : (upO s L o).heap.objs.size = s.heap.objs.size := Heap.size_update ..
/-- while the generator sleeps: the consumer's frame is o' now, all else is kept -/
structure Slept2 (L : Addr) (o' : Obj) (s s' : Shared) : Prop where
  os : s'.os = s.os
  bare : AllBare s'.gens
  keep : ∀ b o, b ≠ L → s.heap.get? b = some o → s'.heap.get? b = some o
  own : s'.heap.get? L = some o'
/-- what may stand at the consumer's frame -/
structure FrObj (o : Obj) : Prop where
  nf : ∀ vs, o.data ≠ .fields vs
  fr : o.isFreed = false
theorem funs_up {h base : Heap} {L : Addr} {o o' : Obj} (hL : ∃ u, h.get? L = some u) (q' : FrObj o') : ∀ {l : List Env}, (h.update L fun _ => o).FunFrames base l → (h.update L fun _ => o').FunFrames base l
  | [], _ => trivial
  | env :: rest, ⟨hk, ⟨M, u, hf, hn, ho, hd⟩, hr⟩ => by
    refine ⟨hk, ?_, funs_up hL q' hr⟩
    by_cases e : M = L
    · subst e
      obtain ⟨u0, hu⟩ := hL
      exact ⟨M, o', hf, hn, Heap.get?_update_self _ hu q'.fr, q'.nf⟩
    · refine ⟨M, u, hf, hn, ?_, hd⟩
      rw [Heap.get?_update_ne _ _ _ _ e] at ho ⊢
      exact ho
theorem Fam.woken (F : Fam) {o o' : Obj} {ip : List (Addr × Obj)} {σ : L2.St} {H : Hp} {s s' : Shared} (hL : ∃ u, F.s.heap.get? F.Lc = some u) (hm : F.Lc ∈ frs F.outer) (q' : FrObj o') (I : Inv (F.X o) ip σ H s) (z : Slept2 F.Lc o' s s') : Inv (F.X o') ip σ H s' := by
  obtain ⟨z1, z2, z3, z4⟩ := z
  have hb0 : F.base.get? F.Lc = none := (I.ok.funs.mem hm).1
  have hH0 : F.H F.Lc = none := I.ok.frf _ hm
  obtain ⟨u0, hu0⟩ := hL
  have at1 : ∀ o, (upO F.s F.Lc o).heap.get? F.Lc = some o ∨ True := fun _ => .inr trivial
  have old : ∀ {b : Addr}, b ≠ F.Lc → ∀ o1 o2 : Obj, (upO F.s F.Lc o1).heap.get? b = (upO F.s F.Lc o2).heap.get? b := fun hb o1 o2 => by rw [upO_ne hb, upO_ne hb]
  have some1 : ∃ v, (upO F.s F.Lc o).heap.get? F.Lc = some v := (I.ok.funs.mem hm).2.imp fun _ h => h.1
  obtain ⟨v1, hv1⟩ := some1
  have hHL : H F.Lc = none := I.base.free _ _ hv1 hH0 (by simp [Fam.X])
  have self' : (upO F.s F.Lc o').heap.get? F.Lc = some o' := Heap.get?_update_self _ hu0 q'.fr
  have LgL : F.Lg ≠ F.Lc := fun e => by
    have h1 := I.ok.above
    have h2 : F.Lg < (upO F.s F.Lc o).heap.objs.size := Nat.lt_of_le_of_lt (Nat.le_of_eq e) (Heap.lt_size hv1)
    exact absurd (Nat.lt_of_lt_of_le h2 h1) (Nat.lt_irrefl _)
  have notfs : ∀ {b : Addr}, b ∉ frs F.outer → b ≠ F.Lc := fun h e => h (e ▸ hm)
  refine ⟨⟨I.ok.mod, I.ok.kind, I.ok.glob, I.ok.blt, ?_, I.ok.inj, I.ok.has, fun x c h1 h2 => ?_, I.ok.hd, I.ok.frames, I.ok.stk, I.ok.exf, fun b u e => ?_, ?_, I.ok.noex, I.ok.exfs, funs_up ⟨u0, hu0⟩ q' I.ok.funs, I.ok.frf⟩,
    z1.trans I.os, z2, ⟨fun b u e n hb hx => ?_, fun b u e n hb hx => ?_, fun b u e n hx => ?_, fun b u e hx => ?_, I.base.tups, I.base.frzs, I.base.tbls⟩, ?_, fun x c e => ?_, I.free, I.freeC, fun p hp => ?_, fun b u q => ?_, I.len⟩
  · have := I.ok.above
    show (upO F.s F.Lc o').heap.objs.size ≤ F.Lg
    rw [upO_sz]
    have h2 : (upO F.s F.Lc o).heap.objs.size ≤ F.Lg := this
    rw [upO_sz] at h2
    exact h2
  · have := I.ok.cab x c h1 h2
    show (upO F.s F.Lc o').heap.objs.size ≤ c
    rw [upO_sz]
    have h2 : (upO F.s F.Lc o).heap.objs.size ≤ c := this
    rw [upO_sz] at h2
    exact h2
  · obtain ⟨k1, k2⟩ := I.ok.bs b u e
    have hb : b ≠ F.Lc := fun e' => by
      have e1 : F.base.get? b = some u := e
      rw [e', hb0] at e1; cases e1
    exact ⟨(old hb o' o).trans k1, k2⟩
  · have := I.ok.bsz
    show F.base.objs.size ≤ (upO F.s F.Lc o').heap.objs.size
    rw [upO_sz]
    have h2 : F.base.objs.size ≤ (upO F.s F.Lc o).heap.objs.size := this
    rw [upO_sz] at h2
    exact h2
  · have hbL := notfs hb
    exact z3 b u hbL (I.base.keep b u ((old hbL o o').trans e) n hb hx)
  · by_cases hbL : b = F.Lc
    · subst hbL
      have e' : (upO F.s F.Lc o').heap.get? F.Lc = some u := e
      rw [self'] at e'
      cases e'
      exact ⟨o'.slots, z4⟩
    · obtain ⟨sl, e1⟩ := I.base.slot b u ((old hbL o o').trans e) n hb hx
      exact ⟨sl, z3 b _ hbL e1⟩
  · by_cases hbL : b = F.Lc
    · rw [hbL]; exact hHL
    · exact I.base.free b u ((old hbL o o').trans e) n hx
  · by_cases hbL : b = F.Lc
    · subst hbL
      exact ⟨o', z4⟩
    · obtain ⟨u', e1⟩ := I.base.there b u ((old hbL o o').trans e) hx
      exact ⟨u', z3 b _ hbL e1⟩
  · obtain ⟨m, hn, hl⟩ := I.loc
    have hn' : s'.heap.Ns F.Lg m := hn.at' fun u e => z3 _ u LgL e
    refine ⟨m, hn', fun i x v h1 h2 h3 => ?_⟩
    obtain ⟨u, r, lk⟩ := hl i x v h1 h2 h3
    refine ⟨u, r, ?_⟩
    rcases lk with ⟨k, e⟩ | ⟨k, c, e, zc⟩
    · exact .inl ⟨k, e⟩
    · obtain ⟨oc, hoc, hd⟩ := zc
      have cL : c ≠ F.Lc := fun e' => by
        have := I.ok.cab x c rfl e
        have h2 : (upO F.s F.Lc o).heap.objs.size ≤ c := this
        have h3 := Heap.lt_size hv1
        rw [e'] at h2
        exact absurd (Nat.lt_of_lt_of_le h3 h2) (Nat.lt_irrefl _)
      exact .inr ⟨k, c, e, oc, z3 c _ cL hoc, hd⟩
  · obtain ⟨v, oc, hoc, hd⟩ := I.cell x c e
    have cL : c ≠ F.Lc := fun e' => by
      have := I.ok.cab x c rfl e
      have h2 : (upO F.s F.Lc o).heap.objs.size ≤ c := this
      have h3 := Heap.lt_size hv1
      rw [e'] at h2
      exact absurd (Nat.lt_of_lt_of_le h3 h2) (Nat.lt_irrefl _)
    exact ⟨v, oc, z3 c _ cL hoc, hd⟩
  · obtain ⟨k1, k2, k3, k4, k5⟩ := I.pin p hp
    exact ⟨z3 p.1 _ (notfs k4) k1, k2, k3, k4, k5⟩
  · refine (I.hok b u q).stay (fun c v hc y => z3 c v ?_ y) (fun _ y => y) fun _ _ y => y
    rcases hc with y | y
    · rw [y]; intro e; rw [e, hHL] at q; cases q
    · intro e; rw [e, hHL] at y; cases y
end XG
/-! Rules for a generator def's body, the consumer's frame changing while it sleeps. -/
namespace XG
open PySem PySem.Spec PyProof.Rows GenW L2
open Sem (wp)
/-- the pairs that were handed out -/
abbrev YL := List (V × V)
structure GEnds where
  nx : YL → L2.St → Hp → Prop
  rt : YL → VK
  bk : YL → L2.St → Hp → Prop := fun _ _ _ => False
  ct : YL → L2.St → Hp → Prop := fun _ _ _ => False
abbrev TGn := GEnds → YL → L2.St → Hp → Prop
def GEnds.at (D : GEnds) (ys : YL) : Ends := { nx := D.nx ys, rt := D.rt ys, bk := D.bk ys, ct := D.ct ys }
/-- T: what the consumer's frame says of what was handed out -/
abbrev Tie := YL → Obj → Prop
def GY (F : Fam) (T : Tie) : Protocol := fun n s₀ v s kap =>
  ∃ o ys ip σ H a v1 v2, s₀.heap.get? F.Lc = some o ∧ T ys o ∧ n + 1 + ys.length = sizeLine ∧ v = .ref a ∧ H a = some (.tup [v1, v2]) ∧ Inv (F.X o) ip σ H s ∧
    ∀ o' s', FrObj o' → T (ys ++ [(v1, v2)]) o' → Slept2 F.Lc o' s s' → kap (.send .none) s'
/-- where the generator's code stands -/
structure GC (F : Fam) (A : Around) (c : Code) (fs : List Frame) (gd : Bool → Bool) : Prop where
  over : A.over c fs = F.A.deeper F.env
  split : splitAtGen fs = none
  guard : fs.any Frame.guarded = false
  gd : gd false = false
  there : ∃ u, F.s.heap.get? F.Lc = some u
  mem : F.Lc ∈ frs F.outer
/-- what follows -/
def GK (F : Fam) (T : Tie) (ip : List (Addr × Obj)) (A : Around) (R : GenEnd) (c : Code) (fs : List Frame) (K : Flow → Sem PySem.Fin) (D : GEnds) : Prop :=
  ∀ (n : Nat) (ys : YL) (o : Obj) (s₀ s : Shared) (f : Flow), s₀.heap.get? F.Lc = some o → T ys o → n + ys.length = sizeLine → SP (F.X o) ip (D.at ys) f s → Seg (model F.P F.w) A R (GY F T) n s₀ c (K f) fs s
structure GS (F : Fam) (st : Stmt) (t : TGn) : Prop where
  run : ∀ (T : Tie) (A : Around) (ip : List (Addr × Obj)) (R : GenEnd) (n : Nat) (ys : YL) (o : Obj) (s₀ : Shared) (c : Code) (fs : List Frame) (K : Flow → Sem PySem.Fin) (J : Value → Sem PySem.Fin) (gd : Bool → Bool) (lv : List Value → List Value) (s : Shared) (σ : L2.St) (H : Hp) (D : GEnds),
    GC F A c fs gd → s₀.heap.get? F.Lc = some o → T ys o → n + ys.length = sizeLine → GK F T ip A R c fs K D → Inv (F.X o) ip σ H s → t D ys σ H →
    Seg (model F.P F.w) A R (GY F T) n s₀ c ((exec st F.env).wrap K J gd lv) fs s
structure GSs (F : Fam) (st : List Stmt) (t : TGn) : Prop where
  run : ∀ (T : Tie) (A : Around) (ip : List (Addr × Obj)) (R : GenEnd) (n : Nat) (ys : YL) (o : Obj) (s₀ : Shared) (c : Code) (fs : List Frame) (K : Flow → Sem PySem.Fin) (J : Value → Sem PySem.Fin) (gd : Bool → Bool) (lv : List Value → List Value) (s : Shared) (σ : L2.St) (H : Hp) (D : GEnds),
    GC F A c fs gd → s₀.heap.get? F.Lc = some o → T ys o → n + ys.length = sizeLine → GK F T ip A R c fs K D → Inv (F.X o) ip σ H s → t D ys σ H →
    Seg (model F.P F.w) A R (GY F T) n s₀ c ((execs st F.env).wrap K J gd lv) fs s
section
variable {F : Fam} {st : Stmt} {rest : List Stmt}
def tPlain (t : TS) : TGn := fun D ys σ H => t (D.at ys) σ H
theorem gs_ps {t : TS} (h : ∀ o, PS (F.X o) st t) : GS F st (tPlain t) := by
  refine ⟨fun T A ip R n ys o s₀ c fs K J gd lv s σ H D g ho hT hn k I ht => ?_⟩
  refine seg_wrap ?_
  rw [g.over]
  exact wpAny_mono ((h o).run ip s σ H (D.at ys) I ht) (fun f s' hs => k n ys o s₀ s' f ho hT hn hs) fun x s' hx => False.elim hx
theorem gss_pss {t : TS} (h : ∀ o, PSs (F.X o) rest t) : GSs F rest (tPlain t) := by
  refine ⟨fun T A ip R n ys o s₀ c fs K J gd lv s σ H D g ho hT hn k I ht => ?_⟩
  refine seg_wrap ?_
  rw [g.over]
  exact wpAny_mono ((h o).run ip s σ H (D.at ys) I ht) (fun f s' hs => k n ys o s₀ s' f ho hT hn hs) fun x s' hx => False.elim hx
def tG0 : TGn := fun D ys σ H => D.nx ys σ H
theorem gss_nil : GSs F [] tG0 := by
  refine ⟨fun T A ip R n ys o s₀ c fs K J gd lv s σ H D g ho hT hn k I ht => ?_⟩
  exact seg_execs_nil (k n ys o s₀ s .next ho hT hn ⟨σ, H, I, ht⟩)
def tGThen (t u : TGn) : TGn := fun D ys σ H => t { D with nx := fun ys' σ' H' => u D ys' σ' H' } ys σ H
theorem gss_cons {t u : TGn} (a : GS F st t) (b : GSs F rest u) : GSs F (st :: rest) (tGThen t u) := by
  refine ⟨fun T A ip R n ys o s₀ c fs K J gd lv s σ H D g ho hT hn k I ht => ?_⟩
  refine seg_execs_cons ?_
  refine a.run T A ip R n ys o s₀ c fs _ J gd lv s σ H { D with nx := fun ys' σ' H' => u D ys' σ' H' } g ho hT hn (fun n' ys' o' s₀' s' f ho' hT' hn' hs => ?_) I ht
  cases f with
  | next =>
    obtain ⟨σ', H', I', q⟩ := hs
    exact b.run T A ip R n' ys' o' s₀' c fs K J gd lv s' σ' H' D g ho' hT' hn' k I' q
  | brk => exact k n' ys' o' s₀' s' .brk ho' hT' hn' hs
  | cont => exact k n' ys' o' s₀' s' .cont ho' hT' hn' hs
  | ret u => exact k n' ys' o' s₀' s' (.ret u) ho' hT' hn' hs
/-! ### yield of a pair -/
def tGYield (te : TE) : TGn := fun D ys σ H => ys.length < sizeLine ∧ te σ H fun x H1 => ∃ a v1 v2, x = .ref a ∧ H1 a = some (.tup [v1, v2]) ∧ D.nx (ys ++ [(v1, v2)]) σ H1
theorem gs_yield {e : Expr} {yp pos : Pos} {te : TE} (he : ∀ o, PE (F.X o) e te) (hco : F.env.scope.isCoroutine = false := by rfl) (hi : interactive F.env = false := by rfl) : GS F (.Expr (.Yield (some e) yp) pos) (tGYield te) := by
  refine ⟨fun T A ip R n ys o s₀ c fs K J gd lv s σ H D g ho hT hn k I ht => ?_⟩
  obtain ⟨hlt, ht⟩ := ht
  obtain ⟨n, rfl⟩ : ∃ m, n = m + 1 := ⟨n - 1, by omega⟩
  refine seg_Expr_Yield g.split g.gd g.guard ?_ hco hi
  rw [g.over]
  refine wpAny_mono ((he o).run ip s σ H _ I ht) (fun v s' hv => ?_) fun x s' hx => False.elim hx
  obtain ⟨x, H1, I1, rv, a, v1, v2, rfl, ha, q⟩ := hv
  cases rv
  intro kap hk
  refine ⟨o, ys, ip, σ, H1, a, v1, v2, ho, hT, hn, rfl, ha, I1, fun o' s'' fo hT' z => hk .none s'' ?_⟩
  refine k n (ys ++ [(v1, v2)]) o' s'' s'' .next z.own hT' ?_ ⟨σ, H1, F.woken g.there g.mem fo I1 z, q⟩
  rw [List.length_append, List.length_singleton]; omega
end
end XG
/-! for, with yields in its body. -/
namespace XG
open PySem PySem.Spec PyProof.Rows GenW L2
open Sem (wp)
section
variable {F : Fam}
def tGFor (wi : TI) (g : TG) (tb : TGn) : TGn := fun D ys σ H => wi σ H fun J H1 => ∃ W : Nat → Nat → YL → L2.St → Hp → Prop, (∃ m, W 0 m ys σ H1) ∧ ∀ i m ys σ H, W i m ys σ H →
  (J.stop i H ∧ D.nx ys σ H) ∨ (J.go i H ∧ ∃ N : YL → L2.St → Hp → Prop, (∀ ys' σ' H', N ys' σ' H' → ∃ m', m' < m ∧ W (i + 1) m' ys' σ' H') ∧ ∀ x H', J.yld i H x H' → g x σ H' fun σ2 H2 => tb { D with nx := N, ct := N, bk := D.nx } ys σ2 H2)
theorem gc_loop {A : Around} {c c' : Code} {fs : List Frame} {gd : Bool → Bool} {k : Result → Sem PySem.Fin} {l kp : List Value} {p : Pos} (g : GC F A c fs gd) (hw : c'.weight = 0) (hu : c'.cUnits = 0) :
    GC F A c' (.ret k none (gd false) l c p kp :: fs) id where
  over := (over_loop hw hu).trans g.over
  split := by
    show (splitAtGen fs).map _ = none
    rw [g.split]; rfl
  guard := by
    show (gd false || fs.any Frame.guarded) = false
    rw [g.gd, g.guard]; rfl
  gd := rfl
  there := g.there
  mem := g.mem
theorem gs_for {tg iter : Expr} {body : List Stmt} {pos : Pos} {wi : TI} {g : TG} {tb : TGn} (hi : ∀ o, PI (F.X o) tg iter wi) (hg : ∀ o, PG (F.X o) tg g) (hb : GSs F body tb)
    (hs : ∀ x, foldedSetIterable iter F.env x = pure x := by intro _; rfl) : GS F (.For tg iter body [] pos) (tGFor wi g tb) := by
  refine ⟨fun T A ip R n ys o s₀ c fs K J gd lv s σ H D gc ho hT hn k I ht => ?_⟩
  refine seg_For hs ?_
  rw [gc.over]
  refine wpAny_mono ((hi o).run ip s σ H _ I ht) (fun v s1 h1 => wpAny_mono h1 (fun itv s2 h2 p => ?_) fun x s' hx => False.elim hx) fun x s' hx => False.elim hx
  obtain ⟨it, fp, tn, Jt, H2, rfl, I2, Tn, st2, f2, W, ⟨m0, w0⟩, turn⟩ := h2
  have stat : ∀ (o' : Obj) {H' : Hp}, (∀ b ∈ fp, H' b = none) → ∀ b ∈ fp, FpOk (F.X o') ip H' b := fun o' H' hn b hb => by
    obtain ⟨_, q1, q2, q3, q4, q5⟩ := f2 b hb
    refine ⟨hn b hb, q1, q2, ?_, q4, q5⟩
    rcases q3 with q3 | q3
    · exact .inl q3
    · refine .inr ?_
      show (upO F.s F.Lc o').heap.objs.size ≤ b
      rw [upO_sz]
      have h2 : (upO F.s F.Lc o).heap.objs.size ≤ b := q3
      rw [upO_sz] at h2
      exact h2
  have gl := fun (kk : Result → Sem PySem.Fin) => gc_loop (k := kk) (c' := .forLoop tg (.ref it) body [] F.env) (l := lv []) (kp := []) (p := p) gc rfl rfl
  have loop : ∀ (m n i : Nat) (ys : YL) (o : Obj) (s₀ s : Shared) (σ : L2.St) (H : Hp), s₀.heap.get? F.Lc = some o → T ys o → n + ys.length = sizeLine → W i m ys σ H → Inv (F.X o) ip σ H s → tn i s.heap → (∀ b ∈ fp, H b = none) →
      Seg (model F.P F.w) A R (GY F T) n s₀ (.forLoop tg (.ref it) body [] F.env) ((model F.P F.w).den (.forLoop tg (.ref it) body [] F.env))
        (.ret (fun r => ((match r with | .ok f => (.pure f : Sem Flow) | .error e => .raise e).onRaise (cameBack F.env)).wrap K J gd lv) none (gd false) (lv []) c p [] :: fs) s := by
    intro m
    induction m using Nat.strongRecOn with
    | ind m ih =>
      intro n i ys o s₀ s σ H ho hT hn w I st fr
      refine seg_forLoop ?_
      rw [(gl _).over]
      rcases turn i m ys σ H w with ⟨stop, qn⟩ | ⟨go, N, hN, step⟩
      · refine wpAny_mono (Tn.done (F.X o) rfl rfl rfl rfl i ip s σ H (fun _ _ => False) I (stat o fr) st stop) (fun r s4 hr => ?_) fun x s' hx => False.elim hx
        obtain ⟨hr, I4⟩ := hr
        subst hr
        refine seg_again rfl ?_
        show Seg _ _ _ _ _ _ _ (leafOf (.ok .next)) _ _
        exact seg_leaf (.ok .next) (k n ys o s₀ s4 .next ho hT hn ⟨σ, H, I4, qn⟩)
      · refine wpAny_mono (Tn.item (F.X o) rfl rfl rfl rfl i ip s σ H (fun _ _ => False) I (stat o fr) st go) (fun r s4 hr => ?_) fun x s' hx => False.elim hx
        obtain ⟨u, hr, h4⟩ := hr
        subst hr
        refine wpAny_mono h4 (fun _ s5 h5 => ?_) fun x s' hx => False.elim hx
        obtain ⟨x, H5, I5, r5, y5, st5, fr5⟩ := h5
        have I5' := I5.pinned (stat o fr5) (Tn.obj _ _ st5)
        refine wpAny_mono ((hg o).run _ s5 σ H5 x u _ I5' r5 (step x H5 y5)) (fun _ s6 h6 => ?_) fun x s' hx => False.elim hx
        obtain ⟨σ6, H6, I6, q6⟩ := h6
        have again : ∀ {n' : Nat} {ys' : YL} {o' : Obj} {s₀' s7 : Shared} {σ7 : L2.St} {H7 : Hp}, s₀'.heap.get? F.Lc = some o' → T ys' o' → n' + ys'.length = sizeLine → Inv (F.X o') (ip ++ pinsAt fp s5.heap) σ7 H7 s7 → N ys' σ7 H7 →
            Seg (model F.P F.w) A R (GY F T) n' s₀' (.forLoop tg (.ref it) body [] F.env) (.pure (.again (.forLoop tg (.ref it) body [] F.env)))
              (.ret (fun r => ((match r with | .ok f => (.pure f : Sem Flow) | .error e => .raise e).onRaise (cameBack F.env)).wrap K J gd lv) none (gd false) (lv []) c p [] :: fs) s7 := fun {n' ys' o' s₀' s7 σ7 H7} ho' hT' hn' I7 n7 => by
          obtain ⟨m', hm, w7⟩ := hN ys' σ7 H7 n7
          refine seg_again rfl (ih m' hm n' (i + 1) ys' o' s₀' s7 σ7 H7 ho' hT' hn' w7 I7.unpinned (Tn.keep _ _ _ st5 fun b hb o e => (I7.pin (b, o) (List.mem_append_right _ (List.mem_append_right _ (mem_pinsAt hb e)))).1) fun b hb => ?_)
          obtain ⟨ob, e, d⟩ := Tn.obj _ _ st5 b hb
          exact (I7.pin (b, ob) (List.mem_append_right _ (List.mem_append_right _ (mem_pinsAt hb e)))).2.1
        refine hb.run T A _ R n ys o s₀ _ _ _ _ id id s6 σ6 H6 { D with nx := N, ct := N, bk := D.nx } (gl _) ho hT hn (fun n' ys' o' s₀' s' f ho' hT' hn' hs => ?_) I6 q6
        cases f with
        | next => obtain ⟨σ7, H7, I7, n7⟩ := hs; exact again ho' hT' hn' I7 n7
        | cont => obtain ⟨σ7, H7, I7, n7⟩ := hs; exact again ho' hT' hn' I7 n7
        | brk =>
          obtain ⟨σ7, H7, I7, q7⟩ := hs
          exact seg_leaf (.ok .next) (k n' ys' o' s₀' s' .next ho' hT' hn' ⟨σ7, H7, I7.unpinned, q7⟩)
        | ret v =>
          obtain ⟨x7, σ7, H7, I7, r7, q7⟩ := hs
          exact seg_leaf (.ok (.ret v)) (k n' ys' o' s₀' s' (.ret v) ho' hT' hn' ⟨x7, σ7, H7, I7.unpinned, r7, q7⟩)
  exact loop m0 n 0 ys o s₀ s2 σ H2 ho hT hn w0 I2 st2 fun b hb => (f2 b hb).1
end
end XG
/-! A generator def's promise to a consumer whose frame changes. -/
namespace XG
open PySem PySem.Spec PyProof.Rows GenW L2
open Sem (wp)
abbrev SpG := List V → Hp → (YL → Hp → Prop) → Prop
/-- what the consumer sees of a state amid the run -/
structure Seen (P : Program) (w : World) (outer : List Env) (H : Hp) (s : Shared) (Lc a : Addr) (go o : Obj) (H1 : Hp) (s1 : Shared) : Prop where
  os : s1.os = s.os
  bare : AllBare s1.gens
  un : Un (frs outer) [] H H1 (upO s Lc o).heap s1.heap
  ok : HOk P w H1 s1.heap
  gen : s1.heap.get? a = some go
  lim : s1.heap.NoLimit
def CY (P : Program) (w : World) (outer : List Env) (H : Hp) (s : Shared) (Lc a : Addr) (go : Obj) (T : Tie) : Protocol := fun n s₀ v s1 kap =>
  ∃ o ys H1 x v1 v2, s₀.heap.get? Lc = some o ∧ T ys o ∧ n + 1 + ys.length = sizeLine ∧ v = .ref x ∧ H1 x = some (.tup [v1, v2]) ∧ Seen P w outer H s Lc a go o H1 s1 ∧
    ∀ o' s', FrObj o' → T (ys ++ [(v1, v2)]) o' → Slept2 Lc o' s1 s' → kap (.send .none) s'
def CEnd (P : Program) (w : World) (outer : List Env) (H : Hp) (s : Shared) (Lc a : Addr) (go : Obj) (T : Tie) (Q : YL → Hp → Prop) : GenEnd := fun n s₀ r s1 =>
  ((r = .ok (.ret .none) ∨ r = .ok .next) ∧ ∃ o ys H1, s₀.heap.get? Lc = some o ∧ T ys o ∧ Seen P w outer H s Lc a go o H1 s1 ∧ Q ys H1) ∨ ∃ e, r = .error e ∧ False
/-- a generator that has not begun -/
def GMade (P : Program) (w : World) (k : Nat) (outer : List Env) (H : Hp) (s : Shared) (Lc : Addr) (Q : YL → Hp → Prop) (u : Value) (s' : Shared) : Prop :=
  ∃ (a : Addr) (g : Nat) (c : Code) (go : Obj) (nm qn : Value), u = .ref a ∧ s.heap.objs.size ≤ a ∧ a < s'.heap.objs.size ∧ s'.heap.get? a = some go ∧ go.cls = .type "generator" ∧ go.data = .fields #[.int g 0, nm, qn] ∧ go.slots = #[] ∧ s'.gens[g]? = some (.fresh c) ∧ s'.os = s.os ∧ AllBare s'.gens ∧ s'.heap.NoLimit ∧
    (∀ b o, s.heap.get? b = some o → s'.heap.get? b = some o) ∧
    ∀ (T : Tie) (A : Around) (s2 : Shared) (o : Obj), Room k A → A.frames = some outer → (∀ b u, b ≠ Lc → s'.heap.get? b = some u → s2.heap.get? b = some u) → s2.heap.get? Lc = some o → FrObj o → T [] o → s2.os = s.os → AllBare s2.gens →
      Seg (model P w) A (CEnd P w outer H s Lc a go T Q) (CY P w outer H s Lc a go T) sizeLine s2 c ((model P w).den c) [] s2
structure GFn (P : Program) (w : World) (K : PySem.W.Frag) (mg : Str → Option Value) (base : Heap) (k : Nat) (f : Addr) (fd : FuncData) (ps : List Str) (sp : SpG) : Prop where
  len : ∀ vs H Q, sp vs H Q → vs.length = ps.length
  run : ∀ (A : Around) (outer : List Env) (s : Shared) (H : Hp) (args : Args) (us : List Value) (vs : List V) (Q : YL → Hp → Prop) (Lc : Addr), Room k A → Env0 P w K mg base A outer s H → Lc ∈ frs outer → BindsTo s fd args (ps.zip us) → Vals vs us → sp vs H Q →
    codeAny (model P w) A (.call (.ref f) args) (fun r s' => match r with | .ok (.ret u) => GMade P w k outer H s Lc Q u s' | _ => False) s
/-- the family as the call makes it -/
abbrev famOf (P : Program) (w : World) (K : PySem.W.Frag) (mg : Str → Option Value) (base : Heap) (N : List Str) (qual : Str) (scope : Scope) (f : Addr) (cd : Value) (A : Around) (outer : List Env) (s : Shared) (H : Hp) (pn : List (Addr × Obj)) (Lc : Addr) : Fam :=
  ⟨P, w, K, mg, base, N, qual, scope, f, cd, A, outer, s.heap.objs.size, s, H, pn, Lc⟩
theorem inv_fam {P : Program} {w : World} {K : PySem.W.Frag} {mg : Str → Option Value} {base : Heap} {N : List Str} {qual : Str} {scope : Scope} {f : Addr} {cd : Value} {A : Around} {outer : List Env} {s s1 : Shared} {H H1 : Hp} {σ : L2.St} {Lc : Addr} {o : Obj} {E : XK}
    (hL : s.heap.get? Lc = some o) (fo : FrObj o) (I : Inv (gcxOf P w K mg base N qual scope f cd A outer s H E []) [] σ H1 s1) : Inv ((famOf P w K mg base N qual scope f cd A outer s H [] Lc).X o) [] σ H1 s1 := by
  have same : ∀ b, (upO s Lc o).heap.get? b = s.heap.get? b := fun b => by
    by_cases e : b = Lc
    · rw [e, hL]
      exact Heap.get?_update_self _ hL fo.fr
    · exact upO_ne e
  have fun' : ∀ {l : List Env}, s.heap.FunFrames base l → (upO s Lc o).heap.FunFrames base l := fun {l} h => h.of_keeps fun b u e _ => ⟨u, (same b).trans e, rfl⟩
  refine ⟨⟨I.ok.mod, I.ok.kind, I.ok.glob, I.ok.blt, ?_, I.ok.inj, I.ok.has, fun x c h1 h2 => ?_, I.ok.hd, I.ok.frames, I.ok.stk, I.ok.exf, fun b u e => ?_, ?_, I.ok.noex, I.ok.exfs, fun' I.ok.funs, I.ok.frf⟩,
    I.os, I.bare, ⟨fun b u e => ?_, fun b u e => ?_, fun b u e => ?_, fun b u e => ?_, I.base.tups, I.base.frzs, I.base.tbls⟩, I.loc, I.cell, I.free, I.freeC, I.pin, I.hok, I.len⟩
  · show (upO s Lc o).heap.objs.size ≤ s.heap.objs.size
    rw [upO_sz]; exact Nat.le_refl _
  · show (upO s Lc o).heap.objs.size ≤ c
    rw [upO_sz]
    exact I.ok.cab x c h1 h2
  · obtain ⟨k1, k2⟩ := I.ok.bs b u e
    exact ⟨(same b).trans k1, k2⟩
  · show base.objs.size ≤ (upO s Lc o).heap.objs.size
    rw [upO_sz]
    exact I.ok.bsz
  · exact I.base.keep b u ((same b).symm.trans e)
  · exact I.base.slot b u ((same b).symm.trans e)
  · exact I.base.free b u ((same b).symm.trans e)
  · exact I.base.there b u ((same b).symm.trans e)
theorem inv_pin {P : Program} {w : World} {K : PySem.W.Frag} {mg : Str → Option Value} {base : Heap} {N : List Str} {qual : Str} {scope : Scope} {f : Addr} {cd : Value} {A : Around} {outer : List Env} {Lg : Addr} {s s1 : Shared} {H H1 : Hp} {σ : L2.St} {Lc : Addr} {o : Obj} {pn : List (Addr × Obj)}
    (I : Inv (Fam.X ⟨P, w, K, mg, base, N, qual, scope, f, cd, A, outer, Lg, s, H, [], Lc⟩ o) [] σ H1 s1)
    (h : ∀ p ∈ pn, s1.heap.get? p.1 = some p.2 ∧ H1 p.1 = none ∧ p.1 ≠ Lg ∧ p.1 ∉ frs outer ∧ ∀ v, p.2.data ≠ .cell v) : Inv (Fam.X ⟨P, w, K, mg, base, N, qual, scope, f, cd, A, outer, Lg, s, H, pn, Lc⟩ o) [] σ H1 s1 :=
  ⟨⟨I.ok.mod, I.ok.kind, I.ok.glob, I.ok.blt, I.ok.above, I.ok.inj, I.ok.has, I.ok.cab, I.ok.hd, I.ok.frames, I.ok.stk, I.ok.exf, I.ok.bs, I.ok.bsz, I.ok.noex, I.ok.exfs, I.ok.funs, I.ok.frf⟩, I.os, I.bare, I.base, I.loc, I.cell, I.free, I.freeC,
    fun p hp => h p (by
      rcases List.mem_append.mp hp with z | z
      · exact z
      · cases z), I.hok, I.len⟩
theorem Fam.seen (F : Fam) {a : Addr} {go o : Obj} {ip : List (Addr × Obj)} {σ : L2.St} {H1 : Hp} {s1 : Shared} (hp : (a, go) ∈ F.pn) (I : Inv (F.X o) ip σ H1 s1) : Seen F.P F.w F.outer F.H F.s F.Lc a go o H1 s1 :=
  ⟨I.os, I.bare, I.base, I.hok, (I.pin (a, go) (List.mem_append_left _ hp)).1, I.nolimit⟩
/-- THE RULE: a generator def, by its body -/
theorem gfn_of {P : Program} {w : World} {K : PySem.W.Frag} {mg : Str → Option Value} {base : Heap} {k : Nat} {f : Addr} {name qual : Str} {params : Arguments} {body : List Stmt} {scope : Scope} {dV kV doc pm cdv ct oc : Value} {an od : Option Addr}
    {osl : Array (Option Value)} {N ps : List Str} {sp : SpG} (lk : K.lookup f = some ⟨oc, od, .func (PySem.W.fnOf name qual params body scope dV kV doc pm an cdv ct), osl⟩) (hcd : PySem.W.codeIn K cdv qual = true) (S : GScope N ps scope)
    (len : ∀ vs H Q, sp vs H Q → vs.length = ps.length)
    (hbody : ∀ (A : Around) (outer : List Env) (s : Shared) (H : Hp) (vs : List V) (Q : YL → Hp → Prop) (pn : List (Addr × Obj)) (Lc : Addr), Room k (A.deeper (envOfC qual scope s.heap.objs.size f cdv)) → sp vs H Q →
      ∃ t, GSs (famOf P w K mg base N qual scope f cdv A outer s H pn Lc) body t ∧ t { nx := fun ys _ H' => Q ys H', rt := fun ys v H' => v = .non ∧ Q ys H' } [] (start N vs) H) :
    GFn P w K mg base (k + 1) f (PySem.W.fnOf name qual params body scope dV kV doc pm an cdv ct) ps sp := by
  refine ⟨len, fun A outer s H args us vs Q Lc hr e0 hLc hb r hsp => ?_⟩
  have hl := len _ _ _ hsp
  have KX : K.In s.heap := e0.mod.kin.keeps fun b o e => (e0.bs b o e).1
  have lim : s.heap.NoLimit := e0.mod.nolimit.keeps fun b o e => (e0.bs b o e).1
  obtain ⟨o0, hL0, hf0⟩ := (e0.funs.mem hLc).2
  have hkind : ∀ y ∈ ps.zip us, scope.names.lookup y.1 = some .local ∨ (scope.names.lookup y.1 = some .cell ∧ ((cellsFrom (s.heap.objs.size + 1) scope.names []).lookup y.1).isSome = true) := fun ⟨n, v⟩ hy => by
    rcases S.par n (List.of_mem_zip hy).1 with q | q
    · exact .inl q
    · exact .inr ⟨q, PySem.W.cellsFrom_some _ _ _ (.inl q)⟩
  refine codeAny_call_generator hr.depth (KX _ _ lk) rfl S.co S.gen rfl (PySem.W.codeRec_of KX hcd) (hb _ _ _ _ ?_)
  refine wpAny_newFunctionEnv_cells S.kind hkind fun env he s1 x => ?_
  subst he
  have lim1 : s1.heap.NoLimit := lim.keeps x.toInCall.keep
  refine ⟨lim1, ?_⟩
  obtain ⟨h1, tk, es1, hk1⟩ := x.done
  have os1 : s1.os = s.os := by rw [es1]
  have gen1 : s1.gens = s.gens := by rw [es1]
  have lt1 : s.heap.objs.size < s1.heap.objs.size := x.toInCall.ns.lt
  have sz1 : s.heap.objs.size ≤ s1.heap.objs.size := Nat.le_of_lt lt1
  have kp1 : ∀ b o, s.heap.get? b = some o → s1.heap.get? b = some o := x.toInCall.keep
  have main : ∀ (go : Obj) (nm qn : Value) (tk2 : Nat), go.cls = .type "generator" → go.data = .fields #[.int s1.gens.size 0, nm, qn] → go.slots = #[] → (∀ h : Heap, (h.push go).get? h.objs.size = some go) →
      GMade P w (k + 1) outer H s Lc Q (.ref s1.heap.objs.size) { s1 with gens := s1.gens.push (.fresh (.func body (envOfC qual scope s.heap.objs.size f cdv))), toks := tk2, heap := s1.heap.push go } := by
    intro go nm qn tk2 hgc hgd0 hgs hgp
    have hpushed : (s1.heap.push go).get? s1.heap.objs.size = some go := hgp _
    refine ⟨s1.heap.objs.size, s1.gens.size, _, go, nm, qn, rfl, sz1, ?_, hpushed, hgc, hgd0, hgs, Array.getElem?_push_size .., os1, ?_, lim1.keeps fun b o e => Heap.get?_push_of_some _ e, fun b o e => Heap.get?_push_of_some _ (kp1 b o e), ?_⟩
    · show _ < (s1.heap.push _).objs.size
      rw [Heap.size_push]; exact Nat.lt_succ_self _
    · exact AllBare.push (by rw [gen1]; exact e0.bare) rfl
    intro T Aw s2 o hrw hfr hk2 ho fo hT hos hba
    have e0w : Env0 P w K mg base Aw outer s H := ⟨hfr, e0.mod, e0.bs, e0.bsz, e0.funs, e0.frf, e0.hok, e0.bare⟩
    obtain ⟨t, ht, hq⟩ := hbody Aw outer s H vs Q [(s1.heap.objs.size, go)] Lc (hrw.deeper _) hsp
    have I1 : Inv (gcxOf P w K mg base N qual scope f cdv Aw outer s H (fun _ _ _ => False) []) [] (start N vs) H s1 := inv_startG S hrw.hd e0w hl r x
    have frn : o0.isFreed = false := (Heap.get?_some_iff.mp hL0).2
    have I2 := inv_fam hL0 ⟨hf0, frn⟩ I1
    have I3 : Inv ((famOf P w K mg base N qual scope f cdv Aw outer s H [] Lc).X o) [] (start N vs) H s2 :=
      Fam.woken _ ⟨o0, hL0⟩ hLc fo I2 ⟨hos.trans os1.symm, hba, fun b u hb e => hk2 b u hb (Heap.get?_push_of_some _ e), ho⟩
    have aL : s1.heap.objs.size ≠ Lc := fun e => by
      exact Nat.ne_of_lt (Nat.lt_of_lt_of_le (Heap.lt_size hL0) sz1) e.symm
    have I4 : Inv ((famOf P w K mg base N qual scope f cdv Aw outer s H [(s1.heap.objs.size, go)] Lc).X o) [] (start N vs) H s2 := inv_pin I3 fun p hp => by
      rw [List.mem_singleton.mp hp]
      refine ⟨hk2 _ _ aL hpushed, I1.hok.fresh (Nat.le_refl _), Nat.ne_of_gt lt1, I1.nofs (Nat.le_refl _), fun v q => by rw [hgd0] at q; cases q⟩
    refine seg_func ?_
    have seen : ∀ {o : Obj} {ip : List (Addr × Obj)} {σ : L2.St} {H1 : Hp} {s' : Shared}, Inv ((famOf P w K mg base N qual scope f cdv Aw outer s H [(s1.heap.objs.size, go)] Lc).X o) ip σ H1 s' → Seen P w outer H s Lc s1.heap.objs.size go o H1 s' := fun I =>
      Fam.seen (famOf P w K mg base N qual scope f cdv Aw outer s H [(s1.heap.objs.size, go)] Lc) (List.mem_singleton.mpr rfl) I
    refine seg_imp (R := CEnd P w outer H s Lc s1.heap.objs.size go T Q) (Y := GY (famOf P w K mg base N qual scope f cdv Aw outer s H [(s1.heap.objs.size, go)] Lc) T) (fun _ _ _ _ h => h) (fun n s₀ v s1' kap kap' hkk hY => ?_) sizeLine ?_
    · obtain ⟨o', ys, ip, σ', H', x', v1, v2, y1, y2, y3, y4, y5, hI, hk⟩ := hY
      exact ⟨o', ys, H', x', v1, v2, y1, y2, y3, y4, y5, seen hI, fun o2 s' f2 t2 z => hkk _ _ (hk o2 s' f2 t2 z)⟩
    · refine ht.run T Aw [] _ sizeLine [] o s2 _ [] _ (fun e => (leaving (envOfC qual scope s.heap.objs.size f cdv) e).wrap (fun _ => .raise e) .raise id id) id id s2 (start N vs) H _ ⟨over_func, rfl, rfl, rfl, ⟨o0, hL0⟩, hLc⟩ ho hT (Nat.add_zero _) (fun n ys o' s₀ s' fl ho' hT' hn hs => ?_) I4 hq
      cases fl with
      | next =>
        obtain ⟨σ', H', hI, hQ⟩ := hs
        exact seg_end (.ok (.ret .none)) (.inl ⟨.inl rfl, o', ys, H', ho', hT', seen hI, hQ⟩)
      | brk => obtain ⟨_, _, _, q⟩ := hs; exact False.elim q
      | cont => obtain ⟨_, _, _, q⟩ := hs; exact False.elim q
      | ret u =>
        obtain ⟨v, σ', H', hI, rv, ev, hQ⟩ := hs
        subst ev
        have eu : u = Value.none := rv
        subst eu
        exact seg_end (.ok (.ret .none)) (.inl ⟨.inl rfl, o', ys, H', ho', hT', seen hI, hQ⟩)
  exact main _ _ _ _ rfl rfl rfl fun h => Heap.get?_push_size _ rfl
end XG
/-! for x, y in gen(..): z = y -/
namespace XG
open PySem PySem.Spec PyProof.Rows GenW L2
open Sem (wp)
section
variable {X : Cx}
/-- the consumer's slots behind what was handed out -/
def slotsOf (i1 i2 iz : Nat) (σ : L2.St) (ys : YL) : L2.St := match ys.getLast? with
  | none => σ
  | some (v1, v2) => ((σ.set i1 (some v1)).set i2 (some v2)).set iz (some v2)
theorem slots_step {i1 i2 iz : Nat} (h12 : i1 ≠ i2) (h1z : i1 ≠ iz) (h2z : i2 ≠ iz) (σ : L2.St) (ys : YL) (v1 v2 : V) :
    (((slotsOf i1 i2 iz σ ys).set i1 (some v1)).set i2 (some v2)).set iz (some v2) = slotsOf i1 i2 iz σ (ys ++ [(v1, v2)]) := by
  have e : slotsOf i1 i2 iz σ (ys ++ [(v1, v2)]) = ((σ.set i1 (some v1)).set i2 (some v2)).set iz (some v2) := by
    unfold slotsOf
    rw [List.getLast?_concat]
  rw [e]
  unfold slotsOf
  cases ys.getLast? with
  | none => rfl
  | some q =>
    obtain ⟨w1, w2⟩ := q
    apply List.ext_getElem?
    intro j
    simp only [List.getElem?_set, List.length_set]
    by_cases a : iz = j
    · simp [a]
    · by_cases b : i2 = j
      · simp [a, b]
      · by_cases c : i1 = j
        · simp [a, b, c]
        · simp [a, b, c]
theorem Inv.reframe {pins : List (Addr × Obj)} {σ σ' : L2.St} {H : Hp} {s : Shared} {o o3 : Obj} {m3 : Str → Option Value} (I : Inv X pins σ H (upO s X.env.locals o)) (hL : ∃ u, s.heap.get? X.env.locals = some u) (hcl : X.env.cells = []) (f3 : FrObj o3)
    (hns : (upO s X.env.locals o3).heap.Ns X.env.locals m3) (hlen : σ'.length = X.N.length)
    (hloc : ∀ (i : Nat) (x : Str) (v : V), X.N[i]? = some x → σ'[i]? = some (some v) → Vis X.env.scope x → ∃ u, RelV v u ∧ X.env.kindOf x = some .local ∧ m3 x = some u) : Inv X pins σ' H (upO s X.env.locals o3) := by
  have old : ∀ {b : Addr}, b ≠ X.env.locals → (upO s X.env.locals o3).heap.get? b = (upO s X.env.locals o).heap.get? b := fun hb => by rw [upO_ne hb, upO_ne hb]
  have young : ∀ {b : Addr} {u : Obj}, X.s_0.heap.get? b = some u → b ≠ X.env.locals := fun e => Nat.ne_of_lt (Nat.lt_of_lt_of_le (Heap.lt_size e) I.ok.above)
  have nocell : ∀ {x : Str} {c : Addr}, X.env.cells.lookup x = some c → False := fun h => by rw [hcl] at h; cases h
  have noL : ∀ {o : Obj}, o.data = o.data := rfl
  refine ⟨I.ok, I.os, I.bare, ⟨fun b u e n hb hx => ?_, fun b u e n hb hx => ?_, I.base.free, fun b u e hx => ?_, I.base.tups, I.base.frzs, I.base.tbls⟩, ⟨m3, hns, fun i x v h1 h2 h3 => ?_⟩, fun x c e => (nocell e).elim, I.free, fun x c e => (nocell e).elim, fun p hp => ?_, fun b u q => ?_, hlen⟩
  · exact (old (young e)).trans (I.base.keep b u e n hb hx)
  · obtain ⟨sl, e1⟩ := I.base.slot b u e n hb hx
    exact ⟨sl, (old (young e)).trans e1⟩
  · obtain ⟨u', e1⟩ := I.base.there b u e hx
    exact ⟨u', (old (young e)).trans e1⟩
  · obtain ⟨u, r, k, e⟩ := hloc i x v h1 h2 h3
    exact ⟨u, r, .inl ⟨k, e⟩⟩
  · obtain ⟨k1, k2, k3, k4, k5⟩ := I.pin p hp
    exact ⟨(old k3).trans k1, k2, k3, k4, k5⟩
  · refine (I.hok b u q).stay (fun c v hc y => (old ?_).trans y) (fun _ y => y) fun _ _ y => y
    rcases hc with y | y
    · rw [y]; intro e; rw [e, I.free] at q; cases q
    · intro e; rw [e, I.free] at y; cases y
/-- the call of a generator def -/
theorem run_gfn {k : Nat} {f : Addr} {fd : FuncData} {ps : List Str} {sp : SpG} {pins : List (Addr × Obj)} {σ : L2.St} {H : Hp} {s : Shared} {us : List Value} {vs : List V} {Q : YL → Hp → Prop} {E1 : Value → Shared → Prop} (F : GFn X.prog X.w X.K X.mg X.base k f fd ps sp) (hr : Room k X.A) (hb : Binds X.K fd ps []) (hm : X.env.locals ∈ frs X.stack)
    (I : Inv X pins σ H s) (r : Vals vs us) (h : sp vs H Q) : wpAny (model X.prog X.w) X.A (call (.ref f) us) (fun u s' => GMade X.prog X.w k X.stack H s X.env.locals Q u s') E1 s := by
  have hl2 : us.length = ps.length := by rw [← r.length]; exact F.len _ _ _ h
  have hb' := hb s us I.kIn (by simpa using hl2)
  rw [List.append_nil] at hb'
  refine wpAny_call (codeAny_mono (F.run X.A X.stack s H ⟨us, []⟩ us vs Q X.env.locals hr I.env0 hm hb' r h) fun r s' hq => ?_)
  cases r with
  | error e => exact False.elim hq
  | ok fl =>
    cases fl with
    | ret u => exact hq
    | next => exact False.elim hq
    | brk => exact False.elim hq
    | cont => exact False.elim hq
/-- for x, y in f(e, ..): z = y -/
def tForGen (i1 i2 iz : Nat) (sp : SpG) (ta : TA) : TS := fun D σ H => ta σ H fun vs H1 => sp vs H1 fun ys H2 => D.nx (slotsOf i1 i2 iz σ ys) H2
theorem ps_forGen {k i1 i2 iz kk : Nat} {f : Addr} {fd : FuncData} {ps : List Str} {sp : SpG} {x y1 y2 z : Str} {p p1 p2 p3 pz pt pos pos' psn : Pos} {e : Expr} {es : List Expr} {ta : TA} (F : GFn X.prog X.w X.K X.mg X.base k f fd ps sp) (hr : Room (k + 1) X.A) (hc : X.calm = true)
    (hg : Gl X x) (hmg : X.mg x = some (.ref f)) (hk : PySem.W.keepIn X.K (.ref f) = true) (hb : Binds X.K fd ps []) (ha : PA X (e :: es) ta) (hcl : X.env.cells = []) (hst : X.stack = X.env :: X.outer) (hfr : X.env.frame = some X.env.locals) (hN : X.N.Nodup)
    (n1 : X.N[i1]? = some y1) (n2 : X.N[i2]? = some y2) (nz : X.N[iz]? = some z) (h12 : i1 ≠ i2) (h1z : i1 ≠ iz) (h2z : i2 ≠ iz)
    (l1 : X.env.kindOf y1 = some .local) (l2 : X.env.kindOf y2 = some .local) (lz : X.env.kindOf z = some .local)
    (hdb : (x == ("__debug__" : Str)) = false := by decide) (hd2 : (y2 == ("__debug__" : Str)) = false := by decide) (he : starEach (e :: es) X.env = (false, eval e X.env) :: starEach es X.env := by rfl) (hpl : (backTo pos' (starEach es X.env)).any (·.1) = false := by rfl)
    (hs : ∀ v, foldedSetIterable (.Call (.Name x p) (e :: es) [] pos') X.env v = pure v := by intro _; rfl)
    (hsw : swapsWith (.Name y2 p3) (some (.Name z pz)) psn.line X.env = pure false := by rfl)
    (hae : (assignEach [.Name y1 p1, .Name y2 p2] X.env).map (·.2) = [assign (.Name y1 p1) X.env, assign (.Name y2 p2) X.env] := by rfl) (hae2 : (assignEach [.Name y1 p1, .Name y2 p2] X.env).findIdx? (·.1) = none := by rfl) (hae3 : (assignEach [.Name y1 p1, .Name y2 p2] X.env).length = 2 := by rfl) :
    PS X (.For (.Tuple [.Name y1 p1, .Name y2 p2] kk pt) (.Call (.Name x p) (e :: es) [] pos') [.Assign [.Name z pz] (.Name y2 p3) psn] [] pos) (tForGen i1 i2 iz sp ta) := by
  refine ⟨fun pins s σ H D I h => ?_⟩
  have hm : X.env.locals ∈ frs X.stack := by
    rw [hst]
    show X.env.locals ∈ (X.env :: X.outer).filterMap (·.frame)
    rw [List.filterMap_cons, hfr]
    exact List.mem_cons_self ..
  have hr' : Room k X.A := hr.mono (Nat.le_succ _)
  refine wpAny_For (Q := SP X pins D) (wpAny_Call_Name_kw (ld_glob I hg hmg ?_ hdb)) hs
  refine PySem.W.callWith_K (h₀ := X.base) I.ok.mod.kin hk (thn (ha.run pos' pins s σ H _ I h) fun us s1 ⟨vs, H1, I1, r, q⟩ => ⟨I1.kIn, ?_⟩) he hpl
  refine thn (run_gfn (Q := fun ys H2 => D.nx (slotsOf i1 i2 iz σ ys) H2) F hr' hb hm I1 r q) fun u s2 hG => ?_
  obtain ⟨a, g, c, go, nm, qn, rfl, ha1, ha2, hgo, hgc, hgd, hgs, hgen, hos, hba, hlm, hkp, wake⟩ := hG
  have isg : ∀ {h : Heap}, h.get? a = some go → h.IsGen a g := fun e => ⟨go, nm, qn, e, hgc, hgd, hgs⟩
  refine wpAny_pyIter_gen (isg hgo) ?_
  obtain ⟨m0, hns0, _⟩ := id I1.loc
  obtain ⟨o0, es0, ep0, ho0, hd0, _, _⟩ := id hns0
  have hL1 : ∃ u, s1.heap.get? X.env.locals = some u := ⟨o0, ho0⟩
  have frOf : ∀ {o : Obj} {es ep}, o.data = .dict es ep → FrObj o := fun hd => ⟨(fun vs q => by rw [hd] at q; cases q), Obj.isFreed_of_dict hd⟩
  have hLa : X.env.locals ≠ a := Nat.ne_of_lt (Nat.lt_of_lt_of_le (Heap.lt_size ho0) ha1)
  let T : Tie := fun ys o => FrObj o ∧ Inv X pins (slotsOf i1 i2 iz σ ys) H1 (upO s1 X.env.locals o)
  have T0 : T [] o0 := ⟨frOf hd0, I1.kept (t' := s1.toks) fun b u e => by
    by_cases hb : b = X.env.locals
    · rw [hb] at e ⊢
      rw [ho0] at e
      cases e
      exact Heap.get?_update_self _ ho0 (frOf hd0).fr
    · exact (Heap.get?_update_ne _ _ _ _ hb).trans e⟩
  have hh : X.A.handled = none := hr.hd
  have again : ∀ {ys : YL} {o : Obj} {H2 : Hp} {s3 s4 : Shared}, T ys o → Seen X.prog X.w X.stack H1 s1 X.env.locals a go o H2 s3 → s4.os = s3.os → AllBare s4.gens → (∀ b u, s3.heap.get? b = some u → s4.heap.get? b = some u) → Inv X pins (slotsOf i1 i2 iz σ ys) H2 s4 := fun {ys o H2 s3 s4} hT S h1 h2 h3 => by
    have un4 : Un (frs X.stack) [] H1 H2 (upO s1 X.env.locals o).heap s4.heap := S.un.trans (Un.kept h3)
    exact hT.2.call' (ch := []) (h1.trans S.os) un4 (S.ok.kept h3) h2 fun b z => by simp at z
  refine codeAny_forLoop_any (fun n s' => ∃ o gs, s'.heap.get? X.env.locals = some o ∧ s'.heap.get? a = some go ∧ s'.heap.NoLimit ∧ s'.gens[g]? = some gs ∧
    gs.Goes (model X.prog X.w) X.A.in1 (CEnd X.prog X.w X.stack H1 s1 X.env.locals a go T fun ys H2 => D.nx (slotsOf i1 i2 iz σ ys) H2) (CY X.prog X.w X.stack H1 s1 X.env.locals a go T) n (.send .none) (s'.setGen g .running)) ?_ sizeLine ?_
  · rintro n s' ⟨o, gs, hL, hga, hlim, hgs', hgo'⟩
    have hgl : g < s'.gens.size := (Array.getElem?_eq_some_iff.mp hgs').1
    refine wpAny_gsz (n := g + 1) hgl (next_genG (A := X.A) (Er := fun _ _ => False) (F := fun n s₀ s1' => ∃ o ys H2, s₀.heap.get? X.env.locals = some o ∧ T ys o ∧ Seen X.prog X.w X.stack H1 s1 X.env.locals a go o H2 s1' ∧ D.nx (slotsOf i1 i2 iz σ ys) H2) hh hlim (by have := hr.dp; show X.A.depth < _; omega) (isg hga) hgs' hgo' (fun v s3 gs' hbare hv => ?_) (fun s3 hp h' hk' => ?_) fun e s3 he => he.elim)
    · intro hsz
      obtain ⟨o', ys, H2, xa, v1, v2, hy1, hT, hy3, rfl, hy5, S, hk'⟩ := hv
      have eo : o' = o := Option.some.inj ((show s'.heap.get? X.env.locals = some o' from hy1).symm.trans hL)
      subst eo
      have I3 : Inv X pins (slotsOf i1 i2 iz σ ys) H2 (s3.setGen g gs') := again hT S rfl (allBare_setGen S.bare hbare) fun _ _ z => z
      have hcls : (X.env.scope.kind == .class || (X.env.scope.kind == .module && X.env.locals != X.env.globals)) = false := by rw [I.ok.kind]; rfl
      refine go_of (o := go) (s := s3.setGen g gs') S.gen hgc hgd (by decide) ?_
      obtain ⟨its, rv, ht, hz⟩ := I3.tuple (SqT.of hy5)
      obtain ⟨u1, u2, rfl, r1, r2⟩ := vals2 rv
      refine assign_Tuple_tuple hh ht (by rw [hae3]; rfl) hae2 fun h' hx => ?_
      rw [hae]
      have I4 : Inv X pins (slotsOf i1 i2 iz σ ys) H2 { s3.setGen g gs' with heap := h' } := I3.kept (t' := (s3.setGen g gs').toks) fun b o e => hx b o (Nat.ne_of_lt (Heap.lt_size e)) e
      obtain ⟨m, hn, hl⟩ := id I4.loc
      refine assignInOrder_cons (wpAny_assign_Name (wpAny_storeName_local l1 hn (fun hA nA sA => ?_) hcls))
      refine assignInOrder_cons (wpAny_assign_Name (wpAny_storeName_local l2 nA (fun hB nB sB => assignInOrder_nil ?_) hcls))
      refine wpAny_execs_cons (wpAny_Assign_Name (wpAny_Name (wpAny_loadName_local I.ok.kind l2 nB (if_pos rfl) ?_) hd2) hsw)
      refine wpAny_storeName_local lz nB (fun hC nC sC => wpAny_execs_nil ?_) hcls
      obtain ⟨o3, es3, ep3, ho3, hd3, sk3, fd3⟩ := id nC
      have f3 := frOf hd3
      have keepC : ∀ b u, b ≠ X.env.locals → s3.heap.get? b = some u → hC.get? b = some u := fun b u hb e =>
        (sC.2 b hb).trans ((sB.2 b hb).trans ((sA.2 b hb).trans (hx b u (Nat.ne_of_lt (Heap.lt_size e)) e)))
      have nocell : ∀ {x : Str} {c : Addr}, X.env.cells.lookup x = some c → False := fun h => by rw [hcl] at h; cases h
      have hlen : ((((slotsOf i1 i2 iz σ ys).set i1 (some v1)).set i2 (some v2)).set iz (some v2)).length = X.N.length := by
        rw [List.length_set, List.length_set, List.length_set]
        exact I4.len
      have T3 : T (ys ++ [(v1, v2)]) o3 := by
        refine ⟨f3, ?_⟩
        rw [← slots_step h12 h1z h2z]
        refine Inv.reframe hT.2 hL1 hcl f3 (m3 := fun x => if x = z then some u2 else (if x = y2 then some u2 else (if x = y1 then some u1 else m x))) ⟨o3, es3, ep3, Heap.get?_update_self _ ho0 f3.fr, hd3, sk3, fd3⟩ hlen fun i x v e1 e2 e3 => ?_
        by_cases c1 : x = z
        · subst c1
          obtain rfl := nodup_ix hN e1 nz
          rw [List.getElem?_set_self (by rw [List.length_set, List.length_set, I4.len]; exact (List.getElem?_eq_some_iff.mp e1).1)] at e2
          cases e2
          exact ⟨u2, r2, lz, if_pos rfl⟩
        · have ni : i ≠ iz := fun e => c1 (by rw [e, nz] at e1; exact (Option.some.inj e1).symm)
          rw [List.getElem?_set_ne (Ne.symm ni)] at e2
          by_cases c2 : x = y2
          · subst c2
            obtain rfl := nodup_ix hN e1 n2
            have hlt : i < ((slotsOf i1 i iz σ ys).set i1 (some v1)).length := by
              rw [List.length_set, I4.len]
              exact (List.getElem?_eq_some_iff.mp e1).1
            rw [List.getElem?_set_self hlt] at e2
            cases e2
            exact ⟨u2, r2, l2, by rw [if_neg c1, if_pos rfl]⟩
          · have ni2 : i ≠ i2 := fun e => c2 (by rw [e, n2] at e1; exact (Option.some.inj e1).symm)
            rw [List.getElem?_set_ne (Ne.symm ni2)] at e2
            by_cases c3 : x = y1
            · subst c3
              obtain rfl := nodup_ix hN e1 n1
              have hlt : i < (slotsOf i i2 iz σ ys).length := by
                rw [I4.len]
                exact (List.getElem?_eq_some_iff.mp e1).1
              rw [List.getElem?_set_self hlt] at e2
              cases e2
              exact ⟨u1, r1, l1, by rw [if_neg c1, if_neg c2, if_pos rfl]⟩
            · have ni1 : i ≠ i1 := fun e => c3 (by rw [e, n1] at e1; exact (Option.some.inj e1).symm)
              rw [List.getElem?_set_ne (Ne.symm ni1)] at e2
              obtain ⟨u, ru, lk⟩ := hl i x v e1 e2 e3
              rcases lk with ⟨kk', e⟩ | ⟨_, c, e, _⟩
              · exact ⟨u, ru, kk', by rw [if_neg c1, if_neg c2, if_neg c3]; exact e⟩
              · exact (nocell e).elim
      have bare3 : AllBare (s3.setGen g gs').gens := allBare_setGen S.bare hbare
      have hsz1 : g < s3.gens.size := by
        have q1 : (s3.setGen g gs').gens.size = s3.gens.size := setGen_size _ _ _
        have q2 : g + 1 ≤ (s3.setGen g gs').gens.size := hsz
        omega
      have kap := hk' o3 (Shared.setGen { s3.setGen g gs' with heap := hC, toks := (s3.setGen g gs').toks + 1 + 1 + 1 } g .running) f3 T3 ⟨rfl, allBare_setGen (s := { s3.setGen g gs' with heap := hC, toks := (s3.setGen g gs').toks + 1 + 1 + 1 }) bare3 rfl, keepC, ho3⟩
      cases n with
      | zero => exact kap.elim
      | succ n =>
        refine ⟨n, Nat.lt_succ_self _, o3, gs', ho3, keepC a go (Ne.symm hLa) S.gen, ?_, setGen_at hsz1, kap⟩
        obtain ⟨mb, hnb, _⟩ := I.ok.mod.nolimit
        have hSc : cStatics ≠ X.env.locals := Nat.ne_of_lt (Nat.lt_of_lt_of_le hnb.lt (Nat.le_trans I.ok.bsz I.ok.above))
        obtain ⟨mc, hns, hnn⟩ := S.lim
        exact ⟨mc, hns.at' fun u e => keepC _ u hSc e, hnn⟩
    · intro hsz
      obtain ⟨o', ys, H2, hy1, hT, S, hq⟩ := hp
      have I3 : Inv X pins (slotsOf i1 i2 iz σ ys) H2 { s3.setGen g .finished with heap := h' } := again hT S rfl (allBare_setGen S.bare rfl) hk'
      exact wpAny_execs_nil ⟨_, H2, I3, hq⟩
  · refine ⟨o0, _, hkp _ _ ho0, hgo, hlm, hgen, rfl, ?_⟩
    refine wake T X.A.in1 _ o0 ⟨hr.hd, by have := hr.dp; show X.A.depth + 3 * k + 5 < _; omega, by have := hr.un; show X.A.units + 1 + 16 * k + 200 < _; omega⟩ I.ok.frames (fun b u _ e => e) (hkp _ _ ho0) (frOf hd0) T0 hos (allBare_setGen hba rfl)
end
end XG
/-! The rules of GF3, GF4 with readings that may speak of the consumer's frame. -/
namespace XG
open PySem PySem.Spec PyProof.Rows GenW L2
open Sem (wp)
section
variable {F : Fam} {st : Stmt} {rest : List Stmt}
def tPlainO (t : Obj → TS) : TGn := fun D ys σ H => ∀ o, t o (D.at ys) σ H
theorem gs_psO {t : Obj → TS} (h : ∀ o, PS (F.X o) st (t o)) : GS F st (tPlainO t) := by
  refine ⟨fun T A ip R n ys o s₀ c fs K J gd lv s σ H D g ho hT hn k I ht => ?_⟩
  refine seg_wrap ?_
  rw [g.over]
  exact wpAny_mono ((h o).run ip s σ H (D.at ys) I (ht o)) (fun f s' hs => k n ys o s₀ s' f ho hT hn hs) fun x s' hx => False.elim hx
def tGYieldO (te : Obj → TE) : TGn := fun D ys σ H => ys.length < sizeLine ∧ ∀ o, te o σ H fun x H1 => ∃ a v1 v2, x = .ref a ∧ H1 a = some (.tup [v1, v2]) ∧ D.nx (ys ++ [(v1, v2)]) σ H1
theorem gs_yieldO {e : Expr} {yp pos : Pos} {te : Obj → TE} (he : ∀ o, PE (F.X o) e (te o)) (hco : F.env.scope.isCoroutine = false := by rfl) (hi : interactive F.env = false := by rfl) : GS F (.Expr (.Yield (some e) yp) pos) (tGYieldO te) := by
  refine ⟨fun T A ip R n ys o s₀ c fs K J gd lv s σ H D g ho hT hn k I ht => ?_⟩
  obtain ⟨hlt, ht⟩ := ht
  obtain ⟨n, rfl⟩ : ∃ m, n = m + 1 := ⟨n - 1, by omega⟩
  refine seg_Expr_Yield g.split g.gd g.guard ?_ hco hi
  rw [g.over]
  refine wpAny_mono ((he o).run ip s σ H _ I (ht o)) (fun v s' hv => ?_) fun x s' hx => False.elim hx
  obtain ⟨x, H1, I1, rv, a, v1, v2, rfl, ha, q⟩ := hv
  cases rv
  intro kap hk
  refine ⟨o, ys, ip, σ, H1, a, v1, v2, ho, hT, hn, rfl, ha, I1, fun o' s'' fo hT' z => hk .none s'' ?_⟩
  refine k n (ys ++ [(v1, v2)]) o' s'' s'' .next z.own hT' ?_ ⟨σ, H1, F.woken g.there g.mem fo I1 z, q⟩
  rw [List.length_append, List.length_singleton]; omega
def tGForO (wi : Obj → TI) (g : Obj → TG) (tb : TGn) : TGn := fun D ys σ H => ∀ o, wi o σ H fun J H1 => ∃ W : Nat → Nat → YL → L2.St → Hp → Prop, (∃ m, W 0 m ys σ H1) ∧ ∀ i m ys σ H, W i m ys σ H →
  (J.stop i H ∧ D.nx ys σ H) ∨ (J.go i H ∧ ∃ N : YL → L2.St → Hp → Prop, (∀ ys' σ' H', N ys' σ' H' → ∃ m', m' < m ∧ W (i + 1) m' ys' σ' H') ∧ ∀ x H', J.yld i H x H' → ∀ o, g o x σ H' fun σ2 H2 => tb { D with nx := N, ct := N, bk := D.nx } ys σ2 H2)
theorem gs_forO {tg iter : Expr} {body : List Stmt} {pos : Pos} {wi : Obj → TI} {g : Obj → TG} {tb : TGn} (hi : ∀ o, PI (F.X o) tg iter (wi o)) (hg : ∀ o, PG (F.X o) tg (g o)) (hb : GSs F body tb)
    (hs : ∀ x, foldedSetIterable iter F.env x = pure x := by intro _; rfl) : GS F (.For tg iter body [] pos) (tGForO wi g tb) := by
  refine ⟨fun T A ip R n ys o s₀ c fs K J gd lv s σ H D gc ho hT hn k I ht => ?_⟩
  refine seg_For hs ?_
  rw [gc.over]
  refine wpAny_mono ((hi o).run ip s σ H _ I (ht o)) (fun v s1 h1 => wpAny_mono h1 (fun itv s2 h2 p => ?_) fun x s' hx => False.elim hx) fun x s' hx => False.elim hx
  obtain ⟨it, fp, tn, Jt, H2, rfl, I2, Tn, st2, f2, W, ⟨m0, w0⟩, turn⟩ := h2
  have stat : ∀ (o' : Obj) {H' : Hp}, (∀ b ∈ fp, H' b = none) → ∀ b ∈ fp, FpOk (F.X o') ip H' b := fun o' H' hn b hb => by
    obtain ⟨_, q1, q2, q3, q4, q5⟩ := f2 b hb
    refine ⟨hn b hb, q1, q2, ?_, q4, q5⟩
    rcases q3 with q3 | q3
    · exact .inl q3
    · refine .inr ?_
      show (upO F.s F.Lc o').heap.objs.size ≤ b
      rw [upO_sz]
      have h2 : (upO F.s F.Lc o).heap.objs.size ≤ b := q3
      rw [upO_sz] at h2
      exact h2
  have gl := fun (kk : Result → Sem PySem.Fin) => gc_loop (k := kk) (c' := .forLoop tg (.ref it) body [] F.env) (l := lv []) (kp := []) (p := p) gc rfl rfl
  have loop : ∀ (m n i : Nat) (ys : YL) (o : Obj) (s₀ s : Shared) (σ : L2.St) (H : Hp), s₀.heap.get? F.Lc = some o → T ys o → n + ys.length = sizeLine → W i m ys σ H → Inv (F.X o) ip σ H s → tn i s.heap → (∀ b ∈ fp, H b = none) →
      Seg (model F.P F.w) A R (GY F T) n s₀ (.forLoop tg (.ref it) body [] F.env) ((model F.P F.w).den (.forLoop tg (.ref it) body [] F.env))
        (.ret (fun r => ((match r with | .ok f => (.pure f : Sem Flow) | .error e => .raise e).onRaise (cameBack F.env)).wrap K J gd lv) none (gd false) (lv []) c p [] :: fs) s := by
    intro m
    induction m using Nat.strongRecOn with
    | ind m ih =>
      intro n i ys o s₀ s σ H ho hT hn w I st fr
      refine seg_forLoop ?_
      rw [(gl _).over]
      rcases turn i m ys σ H w with ⟨stop, qn⟩ | ⟨go, N, hN, step⟩
      · refine wpAny_mono (Tn.done (F.X o) rfl rfl rfl rfl i ip s σ H (fun _ _ => False) I (stat o fr) st stop) (fun r s4 hr => ?_) fun x s' hx => False.elim hx
        obtain ⟨hr, I4⟩ := hr
        subst hr
        refine seg_again rfl ?_
        show Seg _ _ _ _ _ _ _ (leafOf (.ok .next)) _ _
        exact seg_leaf (.ok .next) (k n ys o s₀ s4 .next ho hT hn ⟨σ, H, I4, qn⟩)
      · refine wpAny_mono (Tn.item (F.X o) rfl rfl rfl rfl i ip s σ H (fun _ _ => False) I (stat o fr) st go) (fun r s4 hr => ?_) fun x s' hx => False.elim hx
        obtain ⟨u, hr, h4⟩ := hr
        subst hr
        refine wpAny_mono h4 (fun _ s5 h5 => ?_) fun x s' hx => False.elim hx
        obtain ⟨x, H5, I5, r5, y5, st5, fr5⟩ := h5
        have I5' := I5.pinned (stat o fr5) (Tn.obj _ _ st5)
        refine wpAny_mono ((hg o).run _ s5 σ H5 x u _ I5' r5 (step x H5 y5 o)) (fun _ s6 h6 => ?_) fun x s' hx => False.elim hx
        obtain ⟨σ6, H6, I6, q6⟩ := h6
        have again : ∀ {n' : Nat} {ys' : YL} {o' : Obj} {s₀' s7 : Shared} {σ7 : L2.St} {H7 : Hp}, s₀'.heap.get? F.Lc = some o' → T ys' o' → n' + ys'.length = sizeLine → Inv (F.X o') (ip ++ pinsAt fp s5.heap) σ7 H7 s7 → N ys' σ7 H7 →
            Seg (model F.P F.w) A R (GY F T) n' s₀' (.forLoop tg (.ref it) body [] F.env) (.pure (.again (.forLoop tg (.ref it) body [] F.env)))
              (.ret (fun r => ((match r with | .ok f => (.pure f : Sem Flow) | .error e => .raise e).onRaise (cameBack F.env)).wrap K J gd lv) none (gd false) (lv []) c p [] :: fs) s7 := fun {n' ys' o' s₀' s7 σ7 H7} ho' hT' hn' I7 n7 => by
          obtain ⟨m', hm, w7⟩ := hN ys' σ7 H7 n7
          refine seg_again rfl (ih m' hm n' (i + 1) ys' o' s₀' s7 σ7 H7 ho' hT' hn' w7 I7.unpinned (Tn.keep _ _ _ st5 fun b hb o e => (I7.pin (b, o) (List.mem_append_right _ (List.mem_append_right _ (mem_pinsAt hb e)))).1) fun b hb => ?_)
          obtain ⟨ob, e, d⟩ := Tn.obj _ _ st5 b hb
          exact (I7.pin (b, ob) (List.mem_append_right _ (List.mem_append_right _ (mem_pinsAt hb e)))).2.1
        refine hb.run T A _ R n ys o s₀ _ _ _ _ id id s6 σ6 H6 { D with nx := N, ct := N, bk := D.nx } (gl _) ho hT hn (fun n' ys' o' s₀' s' f ho' hT' hn' hs => ?_) I6 q6
        cases f with
        | next => obtain ⟨σ7, H7, I7, n7⟩ := hs; exact again ho' hT' hn' I7 n7
        | cont => obtain ⟨σ7, H7, I7, n7⟩ := hs; exact again ho' hT' hn' I7 n7
        | brk =>
          obtain ⟨σ7, H7, I7, q7⟩ := hs
          exact seg_leaf (.ok .next) (k n' ys' o' s₀' s' .next ho' hT' hn' ⟨σ7, H7, I7.unpinned, q7⟩)
        | ret v =>
          obtain ⟨x7, σ7, H7, I7, r7, q7⟩ := hs
          exact seg_leaf (.ok (.ret v)) (k n' ys' o' s₀' s' (.ret v) ho' hT' hn' ⟨x7, σ7, H7, I7.unpinned, r7, q7⟩)
  exact loop m0 n 0 ys o s₀ s2 σ H2 ho hT hn w0 I2 st2 fun b hb => (f2 b hb).1
end
end XG
namespace XR
open PySem L2
def spPlay (K : PySem.W.Frag) : XG.SpG := fun vs H Q => ∃ (x y : V) (b : Bool) (es : List Ent), vs = [x, y] ∧ TxV K H x (oldL es) ∧ EnV K H y b es ∧ IsScr es ∧ OkE es ∧ (es = [] → ∀ H', Same H H' → Q [] H') ∧
  (es ≠ [] → ∀ ys v l H', Same H H' → H l = none → H' l = some (.lst ((newL es).map V.str)) → Q (ys ++ [(v, .ref l)]) H')
theorem old_at {es : List Ent} {i : Nat} {e : Ent} (h : es[i]? = some e) (c : e.1 ≠ coW) : (oldL es)[(oldL (es.take i)).length]? = some e.2 := by
  have hi := (List.getElem?_eq_some_iff.mp h)
  obtain ⟨hi, he⟩ := hi
  have k : oldL es = oldL (es.take i) ++ (oldL [e] ++ oldL (es.drop (i + 1))) := by
    rw [← oldL_append, ← oldL_append]
    congr 1
    rw [← he]
    rw [List.singleton_append, ← List.drop_eq_getElem_cons hi, List.take_append_drop]
  rw [k, old_one, if_pos c, List.getElem?_append_right (Nat.le_refl _), Nat.sub_self]
  rfl
theorem cut_oneS {ss : List Str} {a : Nat} {s : Str} (h : ss[a]? = some s) : cutV (ss.map V.str) (some (a : Int)) (some ((a : Int) + 1)) = [V.str s] := by
  obtain ⟨ha, hs⟩ := List.getElem?_eq_some_iff.mp h
  have e := cut_seg ss (a := a) (b := a + 1) (Nat.le_succ _) ha
  rw [show ((a + 1 : Nat) : Int) = (a : Int) + 1 from rfl] at e
  rw [e, seg_cons (Nat.lt_succ_self _) ha, seg_nil (Nat.le_refl _), getD_of h]
  rfl
theorem one_shaped {s : Str} (h : PyData.strOk s = true) : SeqAt.shaped (.list [.str s]) = true := by
  unfold SeqAt.shaped
  rw [Bool.and_eq_true, decide_eq_true_eq]
  refine ⟨by simp [PyData.canLay0, PyData.canLayAll0, h], ?_⟩
  simp [PyData.depth, PyData.depthAll]
theorem one_eqv (s : Str) : PyData.eqv (.list [.str s]) (.list [.str s]) = true := by simp [PyData.eqv, PyData.eqvAll]
end XR
namespace K17
open PySem L2 XR
section
variable {P : Program} {w : World} {K : PySem.W.Frag} {mg : Str → Option Value} {base : Heap}
abbrev sPlay : Stmt := top 34
abbrev nPlay : List Str := ["old", "entries", "lines", "steps", "done", "result", "index", "word", "line"]
theorem scPlay : GScope nPlay ["old", "entries"] (defScope sPlay) := ⟨rfl, rfl, rfl, by decide +kernel, rfl, by decide +kernel, by decide +kernel⟩
theorem ok_play {f fT fC CS CT : Addr} {fd fdC : FuncData} (F : Fun K "played_entries" "played_entries" sPlay f fd) (T : Blt mg) (XS : XOk P K mg "InvalidScript" CS 1 (fvOne "index"))
    (GT : FnR P w K mg base (L2.CX P w) 3 fT (spCheck K CT)) (kT : PySem.W.keepIn K (.ref fT) = true) (mT : mg "check_texts" = some (.ref fT))
    (FC : Fun K "check_script" "check_script" sChkS fC fdC) (GC : FnOk P w K mg base CX0 4 fC fdC ["entries"] (spChkS K)) (bC : Binds K fdC ["entries"] []) (mC : mg "check_script" = some (.ref fC)) : XG.GFn P w K mg base 5 f fd ["old", "entries"] (spPlay K) := by
  obtain ⟨oc, od, kV, doc, pm, an, cdv, ct, osl, rfl, lk, hcd⟩ := F.ex
  refine XG.gfn_of (N := nPlay) lk hcd scPlay (fun vs H Q h => ?_) (fun A outer s H vs Q pn Lc hr h => ?_)
  · obtain ⟨x, y, b, es, rfl, _⟩ := h
    rfl
  · obtain ⟨x, y, b, es, rfl, ht, he, hs, ho, z0, z1⟩ := h
    refine ⟨_, XG.gss_cons (XG.gs_psO fun o => ps_expr (pe_callR GT (hr.mono (by decide)) rfl mT kT (fun σ => passF σ) (pa_cons (pv 0) pa_nil)))
      (XG.gss_cons (XG.gs_psO fun o => ps_expr (pe_call GC hr rfl mC FC.kp bC .nil pass0 (pa_cons (pv 1) pa_nil)))
      (XG.gss_cons (XG.gs_psO fun o => ps_par (i := 2) (j := 3) rfl scPlay.nd rfl rfl (by decide) rfl rfl (pa_cons (pe_callTy call_list_of (by rfl) (T.all "list" (by decide)) (by decide +kernel) (pa_cons (pv 0) pa_nil)) (pa_cons (pe_callTy call_list_of (by rfl) (T.all "list" (by decide)) (by decide +kernel) (pa_cons (pv 1) pa_nil)) pa_nil)) rfl)
      (XG.gss_cons (XG.gs_psO fun o => ps_par (i := 4) (j := 5) rfl scPlay.nd rfl rfl (by decide) rfl rfl (pa_cons pe_int (pa_cons (pe_lst pa_nil) pa_nil)) rfl)
      (XG.gss_cons (XG.gs_forO (fun o => pi_enumW0 rfl T.enum (pa_cons (pv 3) pa_nil)) (fun o => pg_tup rfl (pgs_cons (pg_name (i := 6) scPlay.nd rfl (.inl rfl)) (pgs_cons (pg_tup rfl (pgs_cons (pg_name (i := 7) scPlay.nd rfl (.inl rfl)) (pgs_cons (pg_name (i := 8) scPlay.nd rfl (.inl rfl)) pgs_nil))) pgs_nil)))
        (XG.gss_cons (XG.gs_psO fun o => ps_if (pt_cmpR op_ne (pv 7) pe_str (nomark _)) (pss_cons (ps_if (pt_cmpR (op_neD hr.units) (pe_slice sl_list (pv 2) (po_some (pv 4)) (po_some (pe_op op_add (pv 4) pe_int))) (pe_lst (pa_cons (pv 8) pa_nil)) (nomark _)) (pss_one (ps_raiseX rfl takes0 XS.mx XS.ne XS.kp (hr.mono (by decide)) (T.all "super" (by decide)) XS.bP XS.tP rfl XS.g (pa_cons (pv 6) pa_nil))) pss_nil)
            (pss_one (ps_aug (i := 4) scPlay.nd rfl (.inl rfl) pe_int ip_add))) pss_nil)
        (XG.gss_cons (XG.gs_psO fun o => ps_if (pt_cmpR op_ne (pv 7) pe_str (nomark _)) (pss_one (ps_expr (pe_bm PySem.F.plainAttrs_list PySem.F.slot_list_append PySem.F.type_list_append mt_append (pv 5) (pa_cons (pv 8) pa_nil)))) pss_nil)
        (XG.gss_cons (XG.gs_yieldO fun o => pe_tup (pa_cons (pv 4) (pa_cons (pe_callTy call_list_of (by rfl) (T.all "list" (by decide)) (by decide +kernel) (pa_cons (pv 5) pa_nil)) pa_nil))) XG.gss_nil))))
      (XG.gss_cons (XG.gs_psO fun o => ps_if (pt_cmpR op_lt (pv 4) (pe_callB call_len_seq (by rfl) T.len PySem.boot_len (pa_cons (pv 2) pa_nil)) (nomark _)) (pss_one (ps_raiseX rfl takes0 XS.mx XS.ne XS.kp (hr.mono (by decide)) (T.all "super" (by decide)) XS.bP XS.tP rfl XS.g (pa_cons (pe_callB call_len_seq (by rfl) T.len PySem.boot_len (pa_cons (pv 3) pa_nil)) pa_nil))) pss_nil) XG.gss_nil))))), ?_⟩
    obtain ⟨d, hd, hit, hss⟩ := id ht
    refine fun o1 => ⟨_, rfl, [d], .cons hd .nil, by show 1 ≤ 100; decide, fun _ H1 s1 => ?_, fun i x' d' _ h2 h3 => ?_⟩
    rotate_left
    · rcases i with _ | i
      · obtain rfl : d = d' := Option.some.inj h2
        rw [hit] at h3; cases h3
      · simp at h2
    refine fun o2 => ⟨_, rfl, y, b, es, rfl, he.same s1, hs, fun H2 s2 => ?_⟩
    have s12 := s1.trans s2
    obtain ⟨p, rfl, hp⟩ := (ht.same s12).a
    refine fun o3 => ⟨_, rfl, p, _, rfl, hp, fun pl nl => ?_⟩
    have sl := same_upd (o := .lst ((oldL es).map V.str)) nl
    have hpl := upd_same (H := H2) (a := pl) (o := .lst ((oldL es).map V.str))
    have s3 := s12.trans sl
    generalize upd H2 pl (.lst ((oldL es).map V.str)) = H3 at sl hpl s3 ⊢
    obtain ⟨a, xs, rfl, hw, hl, hx⟩ := (he.same s3).items
    refine ⟨_, rfl, a, xs, rfl, EnV.seqW hw, fun ps ns => ⟨_, _, rfl, ?_⟩⟩
    have sp := same_upd (o := .lst xs) ns
    have hps := upd_same (H := H3) (a := ps) (o := .lst xs)
    have hpl4 := sp _ _ hpl
    have s4 := s3.trans sp
    generalize upd H3 ps (.lst xs) = H4 at sp hps hpl4 s4 ⊢
    refine fun o4 => ⟨ll20 (by decide), fun pr nr => ⟨_, _, rfl, ?_⟩⟩
    have sr := same_upd (o := .lst []) nr
    have hpr := upd_same (H := H4) (a := pr) (o := .lst [])
    generalize upd H4 pr (.lst []) = H5 at sr hpr ⊢
    have hps5 := sr _ _ hps
    refine fun o5 => ⟨_, rfl, ps, xs, true, rfl, SqL.of hps5, ?_⟩
    refine ⟨fun i m ys σ H' => m + i = es.length ∧ ys.length = i ∧ Same H4 H' ∧ H' pr = some (.lst ((newL (es.take i)).map V.str)) ∧ (∃ y6 y7 y8, σ = [some (V.ref p), some (V.ref a), some (V.ref pl), some (V.ref ps), some (V.int ((oldL (es.take i)).length : Nat)), some (V.ref pr), y6, y7, y8]) ∧
      (i ≠ 0 → ∃ ys0 v l, ys = ys0 ++ [(v, V.ref l)] ∧ H l = none ∧ H' l = some (.lst ((newL (es.take i)).map V.str))), ⟨es.length, rfl, rfl, sr, hpr, ⟨_, _, _, rfl⟩, fun e => absurd rfl e⟩, ?_⟩
    rintro i m ys σ H' ⟨hm, hy, sm, hpr', ⟨y6, y7, y8, rfl⟩, hlast⟩
    have hps' := sm _ _ hps
    have hpl' := sm _ _ hpl4
    by_cases hi : i < es.length
    · right
      have hxi : i < xs.length := by rw [hl]; exact hi
      refine ⟨⟨xs, xs[i], SqL.of hps', List.getElem?_eq_getElem hxi⟩, _, fun ys' σ' H' hN => hN, ?_⟩
      rintro x H'' ⟨T', xv, rfl, nT, rfl, hxv⟩
      have e2 : xs[i]? = some xv := hxv xs (SqL.of hps')
      obtain ⟨⟨w1, l1⟩, r, he1, rfl, hr1⟩ := hx i _ e2
      have s6 := same_upd (o := .tup [V.int ((i + 0 : Nat) : Int), V.ref r]) nT
      have hT := upd_same (H := H') (a := T') (o := .tup [V.int ((i + 0 : Nat) : Int), V.ref r])
      generalize upd H' T' (.tup [V.int ((i + 0 : Nat) : Int), V.ref r]) = H6 at s6 hT ⊢
      have hr6 := XR.Same.tup ((sp.trans sm).trans s6) hr1
      have hpl6 := s6 _ _ hpl'
      have tk := take_snoc he1
      have oN : oldL (es.take (i + 1)) = oldL (es.take i) ++ oldL [(w1, l1)] := by rw [tk, oldL_append]
      have nN : newL (es.take (i + 1)) = newL (es.take i) ++ newL [(w1, l1)] := by rw [tk, newL_append]
      rw [old_one] at oN
      rw [XR.new_one] at nN
      refine fun o6 => ⟨T', _, rfl, SqT.of hT, rfl, _, _, rfl, _, _, rfl, r, _, rfl, hr6, rfl, _, _, rfl, _, _, rfl, rfl, rfl, ?_⟩
      rcases hs.wd _ (List.mem_of_getElem? he1) with e | e | e
      · obtain rfl : w1 = kpW := e
        have d1 : decide (V.str kpW = V.str "come") = false := by decide +kernel
        have d2 : decide (V.str kpW = V.str "go") = false := by decide +kernel
        rw [if_pos (show kpW ≠ coW by decide)] at oN
        rw [if_pos (show kpW ≠ goW by decide)] at nN
        have oat := old_at he1 (show kpW ≠ coW by decide)
        refine fun o7 => ⟨_, rfl, rfl, _, rfl, ?_⟩
        rw [show decide (V.str (kpW, l1).fst = V.str (Str.ofString "come")) = _ from d1]
        refine iteT ⟨_, rfl, _, rfl, _, rfl, _, rfl, _, _, rfl, rfl, _, rfl, pl, _, rfl, SqL.of hpl6, fun q nq => ?_⟩
        rw [cut_oneS oat]
        have hq := upd_same (H := H6) (a := q) (o := .lst [V.str l1])
        have sq := same_upd (o := .lst [V.str l1]) nq
        generalize upd H6 q (.lst [V.str l1]) = H7 at hq sq ⊢
        refine ⟨_, rfl, ll20 (by show 1 ≤ 20; decide), fun u nu => ?_⟩
        have su := same_upd (o := .lst [V.str l1]) nu
        have hu := upd_same (H := H7) (a := u) (o := .lst [V.str l1])
        have hq' := su _ _ hq
        have sD := (s6.trans sq).trans su
        generalize upd H7 u (.lst [V.str l1]) = H8 at hu hq' sD ⊢
        have ok1 := (ho _ (List.mem_of_getElem? he1)).2
        refine ⟨.list [.str l1], .list [.str l1], .lst (SqL.of hq') (.cons (.str _) .nil), .lst (SqL.of hu) (.cons (.str _) .nil), one_shaped ok1, one_shaped ok1, _, rfl, ?_⟩
        rw [one_eqv]
        refine iteF ⟨_, rfl, _, _, rfl, rfl, ?_⟩
        refine fun o8 => ⟨_, rfl, rfl, _, rfl, ?_⟩
        rw [show decide (V.str (kpW, l1).fst = V.str (Str.ofString "go")) = _ from d2]
        have hpr8 := sD _ _ hpr'
        have nb : (newL (es.take (i + 1))).length ≤ 60 := Nat.le_trans (new_take_le _ _) hs.n
        refine iteT ⟨_, rfl, .inl ⟨rfl, _, SqL.of hpr8⟩, _, rfl, pr, _, _, rfl, rfl, hpr8, ?_, ?_⟩
        · rw [List.length_map]
          exact Nat.lt_of_le_of_lt (Nat.le_trans (new_take_le _ _) hs.n) (by decide)
        have sm8 : Same H4 (upd H8 pr (.lst ((newL (es.take i)).map V.str ++ [V.str l1]))) := fun b' o' h => by
          rw [upd_ne (ne_of_none h nr)]
          exact (sm.trans sD) _ _ h
        have hp8 : upd H8 pr (.lst ((newL (es.take i)).map V.str ++ [V.str l1])) pr = some (.lst ((newL (es.take (i + 1))).map V.str)) := by
          rw [upd_same, nN, List.map_append]; rfl
        generalize upd H8 pr (.lst ((newL (es.take i)).map V.str ++ [V.str l1])) = H9 at sm8 hp8 ⊢
        refine ⟨by rw [hy]; exact Nat.lt_of_lt_of_le hi (Nat.le_trans hs.len (by decide)), fun o9 => ⟨_, rfl, _, rfl, pr, _, rfl, .inl (SqL.of hp8), fun c nc => ⟨ll20 (by show 2 ≤ 20; decide), fun v nv => ?_⟩⟩⟩
        have sc := same_upd (o := .lst ((newL (es.take (i + 1))).map V.str)) nc
        have eD : ((oldL (es.take (i + 1))).length : Int) = ((oldL (es.take i)).length : Int) + 1 := by rw [oN, List.length_append]; rfl
        have sv := same_upd (o := .tup [V.int (((oldL (es.take i)).length : Int) + 1), V.ref c]) nv
        refine ⟨v, _, _, rfl, upd_same, m - 1, by omega, by omega, by rw [List.length_append, hy]; rfl, (sm8.trans sc).trans sv, sv _ _ (sc _ _ hp8), ⟨_, _, _, by rw [eD]; rfl⟩, fun _ => ⟨ys, _, c, rfl, none_before (s4.trans sm8) nc, sv _ _ upd_same⟩⟩
      · obtain rfl : w1 = goW := e
        have d1 : decide (V.str goW = V.str "come") = false := by decide +kernel
        have d2 : decide (V.str goW = V.str "go") = true := by decide +kernel
        rw [if_pos (show goW ≠ coW by decide)] at oN
        rw [if_neg (show ¬ goW ≠ goW by decide), List.append_nil] at nN
        have oat := old_at he1 (show goW ≠ coW by decide)
        refine fun o7 => ⟨_, rfl, rfl, _, rfl, ?_⟩
        rw [show decide (V.str (goW, l1).fst = V.str (Str.ofString "come")) = _ from d1]
        refine iteT ⟨_, rfl, _, rfl, _, rfl, _, rfl, _, _, rfl, rfl, _, rfl, pl, _, rfl, SqL.of hpl6, fun q nq => ?_⟩
        rw [cut_oneS oat]
        have hq := upd_same (H := H6) (a := q) (o := .lst [V.str l1])
        have sq := same_upd (o := .lst [V.str l1]) nq
        generalize upd H6 q (.lst [V.str l1]) = H7 at hq sq ⊢
        refine ⟨_, rfl, ll20 (by show 1 ≤ 20; decide), fun u nu => ?_⟩
        have su := same_upd (o := .lst [V.str l1]) nu
        have hu := upd_same (H := H7) (a := u) (o := .lst [V.str l1])
        have hq' := su _ _ hq
        have sD := (s6.trans sq).trans su
        generalize upd H7 u (.lst [V.str l1]) = H8 at hu hq' sD ⊢
        have ok1 := (ho _ (List.mem_of_getElem? he1)).2
        refine ⟨.list [.str l1], .list [.str l1], .lst (SqL.of hq') (.cons (.str _) .nil), .lst (SqL.of hu) (.cons (.str _) .nil), one_shaped ok1, one_shaped ok1, _, rfl, ?_⟩
        rw [one_eqv]
        refine iteF ⟨_, rfl, _, _, rfl, rfl, ?_⟩
        refine fun o8 => ⟨_, rfl, rfl, _, rfl, ?_⟩
        rw [show decide (V.str (goW, l1).fst = V.str (Str.ofString "go")) = _ from d2]
        have sm8 := sm.trans sD
        have hp8 : H8 pr = some (.lst ((newL (es.take (i + 1))).map V.str)) := by rw [nN]; exact sD _ _ hpr'
        refine iteF ?_
        refine ⟨by rw [hy]; exact Nat.lt_of_lt_of_le hi (Nat.le_trans hs.len (by decide)), fun o9 => ⟨_, rfl, _, rfl, pr, _, rfl, .inl (SqL.of hp8), fun c nc => ⟨ll20 (by show 2 ≤ 20; decide), fun v nv => ?_⟩⟩⟩
        have sc := same_upd (o := .lst ((newL (es.take (i + 1))).map V.str)) nc
        have eD : ((oldL (es.take (i + 1))).length : Int) = ((oldL (es.take i)).length : Int) + 1 := by rw [oN, List.length_append]; rfl
        have sv := same_upd (o := .tup [V.int (((oldL (es.take i)).length : Int) + 1), V.ref c]) nv
        refine ⟨v, _, _, rfl, upd_same, m - 1, by omega, by omega, by rw [List.length_append, hy]; rfl, (sm8.trans sc).trans sv, sv _ _ (sc _ _ hp8), ⟨_, _, _, by rw [eD]; rfl⟩, fun _ => ⟨ys, _, c, rfl, none_before (s4.trans sm8) nc, sv _ _ upd_same⟩⟩
      · obtain rfl : w1 = coW := e
        have d1 : decide (V.str coW = V.str "come") = true := by decide +kernel
        have d2 : decide (V.str coW = V.str "go") = false := by decide +kernel
        rw [if_neg (show ¬ coW ≠ coW by decide), List.append_nil] at oN
        rw [if_pos (show coW ≠ goW by decide)] at nN
        refine fun o7 => ⟨_, rfl, rfl, _, rfl, ?_⟩
        rw [show decide (V.str (coW, l1).fst = V.str (Str.ofString "come")) = _ from d1]
        refine iteF ?_
        have sD := s6
        refine fun o8 => ⟨_, rfl, rfl, _, rfl, ?_⟩
        rw [show decide (V.str (coW, l1).fst = V.str (Str.ofString "go")) = _ from d2]
        have hpr8 := sD _ _ hpr'
        have nb : (newL (es.take (i + 1))).length ≤ 60 := Nat.le_trans (new_take_le _ _) hs.n
        refine iteT ⟨_, rfl, .inl ⟨rfl, _, SqL.of hpr8⟩, _, rfl, pr, _, _, rfl, rfl, hpr8, ?_, ?_⟩
        · rw [List.length_map]
          exact Nat.lt_of_le_of_lt (Nat.le_trans (new_take_le _ _) hs.n) (by decide)
        have sm8 : Same H4 (upd H6 pr (.lst ((newL (es.take i)).map V.str ++ [V.str l1]))) := fun b' o' h => by
          rw [upd_ne (ne_of_none h nr)]
          exact (sm.trans sD) _ _ h
        have hp8 : upd H6 pr (.lst ((newL (es.take i)).map V.str ++ [V.str l1])) pr = some (.lst ((newL (es.take (i + 1))).map V.str)) := by
          rw [upd_same, nN, List.map_append]; rfl
        generalize upd H6 pr (.lst ((newL (es.take i)).map V.str ++ [V.str l1])) = H9 at sm8 hp8 ⊢
        refine ⟨by rw [hy]; exact Nat.lt_of_lt_of_le hi (Nat.le_trans hs.len (by decide)), fun o9 => ⟨_, rfl, _, rfl, pr, _, rfl, .inl (SqL.of hp8), fun c nc => ⟨ll20 (by show 2 ≤ 20; decide), fun v nv => ?_⟩⟩⟩
        have sc := same_upd (o := .lst ((newL (es.take (i + 1))).map V.str)) nc
        have sv := same_upd (o := .tup [V.int ((oldL (es.take i)).length : Nat), V.ref c]) nv
        refine ⟨v, _, _, rfl, upd_same, m - 1, by omega, by omega, by rw [List.length_append, hy]; rfl, (sm8.trans sc).trans sv, sv _ _ (sc _ _ hp8), ⟨_, _, _, by rw [oN]; rfl⟩, fun _ => ⟨ys, _, c, rfl, none_before (s4.trans sm8) nc, sv _ _ upd_same⟩⟩
    · left
      refine ⟨⟨xs, SqL.of hps', by omega⟩, ?_⟩
      have ei : i = es.length := by omega
      rw [ei, List.take_length] at hlast
      refine fun o6 => ⟨_, rfl, _, rfl, pl, _, rfl, .inl (SqL.of hpl'), _, _, rfl, rfl, _, rfl, ?_⟩
      rw [List.length_map, ei, List.take_length, decide_eq_false (show ¬ (((oldL es).length : Int) < ((oldL es).length : Int)) by omega)]
      refine iteF ?_
      by_cases h0 : es = []
      · subst h0
        have : ys = [] := List.eq_nil_of_length_eq_zero (by rw [hy, ei]; rfl)
        subst this
        exact z0 rfl _ (s4.trans sm)
      · obtain ⟨ys0, v, l, rfl, nl', hl'⟩ := hlast (fun e => h0 (List.eq_nil_of_length_eq_zero e))
        exact z1 h0 _ _ _ _ (s4.trans sm) nl' hl'
end
end K17
namespace XR
open PySem L2
theorem slots_concat (i1 i2 iz : Nat) (σ : L2.St) (ys : XG.YL) (v1 v2 : V) : XG.slotsOf i1 i2 iz σ (ys ++ [(v1, v2)]) = ((σ.set i1 (some v1)).set i2 (some v2)).set iz (some v2) := by
  unfold XG.slotsOf
  rw [List.getLast?_concat]
def spApp (K : PySem.W.Frag) : Sp := fun vs H Q _ => ∃ (x y : V) (b : Bool) (es : List Ent), vs = [x, y] ∧ TxV K H x (oldL es) ∧ EnV K H y b es ∧ IsScr es ∧ OkE es ∧
  ∀ l H', Same H H' → H l = none → H' l = some (.lst ((newL es).map V.str)) → Q (.ref l) H'
end XR
namespace K17
open PySem L2 XR
section
variable {P : Program} {w : World} {K : PySem.W.Frag} {mg : Str → Option Value} {base : Heap}
abbrev sApp : Stmt := top 33
abbrev nApp : List Str := ["old", "entries", "result", "_", "told"]
theorem scApp : FnScope nApp ["old", "entries"] (defScope sApp) := ⟨rfl, rfl, rfl, by decide +kernel, rfl, by decide +kernel, by decide +kernel⟩
theorem ok_app {f fP : Addr} {fd fdP : FuncData} (F : Fun K "applied" "applied" sApp f fd)
    (FP : Fun K "played_entries" "played_entries" sPlay fP fdP) (GP : XG.GFn P w K mg base 5 fP fdP ["old", "entries"] (spPlay K)) (bP : Binds K fdP ["old", "entries"] []) (mP : mg "played_entries" = some (.ref fP)) : FnOk P w K mg base CX0 7 f fd ["old", "entries"] (spApp K) := by
  refine F.ok scApp (fun vs H Q E h => ?_) (fun cdv A outer s H vs Q E hr h => ?_)
  · obtain ⟨x, y, b, es, rfl, _⟩ := h
    rfl
  · obtain ⟨x, y, b, es, rfl, ht, he, hs, ho, z⟩ := h
    refine ⟨_, pss_cons (ps_set (i := 2) scApp.nd rfl (.inl rfl) (pe_lst pa_nil))
      (pss_cons (XG.ps_forGen (i1 := 3) (i2 := 4) (iz := 2) GP hr rfl rfl mP FP.kp bP (pa_cons (pv 0) (pa_cons (pv 1) pa_nil)) rfl rfl rfl scApp.nd rfl rfl rfl (by decide) (by decide) (by decide) rfl rfl rfl)
      (pss_one (ps_ret (pv 2)))), ?_⟩
    refine ⟨ll20 (by decide), fun pr nr => ?_⟩
    have sr := same_upd (o := .lst []) nr
    have hpr := upd_same (H := H) (a := pr) (o := .lst [])
    generalize upd H pr (.lst []) = H1 at sr hpr ⊢
    refine ⟨_, rfl, _, rfl, x, y, b, es, rfl, ht.same sr, he.same sr, hs, ho, fun e H' s' => ?_, fun ne ys v l H' s' nl hl => ?_⟩
    · subst e
      exact ⟨_, rfl, z pr H' (sr.trans s') nr (s' _ _ hpr)⟩
    · dsimp only
      rw [slots_concat]
      exact ⟨_, rfl, z l H' (sr.trans s') (none_before sr nl) hl⟩
end
end K17
namespace XR
open PySem L2
theorem DfV.nps {K : PySem.W.Frag} {H : Hp} {v : V} {ps : List (Nat × Nat)} (h : DfV K H v ps) : ∃ (t : Addr) (xs : List V), v = .ref t ∧ SqT K H t xs ∧ NPs K H xs ps := by
  obtain ⟨t, xs, rfl, ht, hl, hx⟩ := h.items
  refine ⟨t, xs, rfl, ht, hl, fun i q hq => ?_⟩
  have hi : i < xs.length := by rw [hl]; exact (List.getElem?_eq_some_iff.mp hq).1
  obtain ⟨q', r, e1, e2, e3⟩ := hx i _ (List.getElem?_eq_getElem hi)
  rw [hq] at e1
  cases e1
  exact ⟨r, by rw [List.getElem?_eq_getElem hi, e2], e3⟩
def tags (W : Str) (ss : List Str) : List Ent := ss.map fun s => (W, s)
theorem tagStep {W : Str} {H1 Hx : Hp} {D u : Addr} {rs : List Addr} {ss : List Str} {j : Nat} {ln : Str} (sx : Same H1 Hx) (nD : H1 D = none) (hD : Hx D = some (.lst (refs rs))) (hr : EsAt Hx rs (tags W (ss.take j))) (hln : ss[j]? = some ln) (nu : Hx u = none) (hl : ss.length ≤ 120) :
    upd Hx u (entO (W, ln)) D = some (.lst (refs rs)) ∧ (refs rs).length < sizeLine ∧ Same H1 (upd (upd Hx u (entO (W, ln))) D (.lst (refs rs ++ [V.ref u]))) ∧ ∃ rs', upd (upd Hx u (entO (W, ln))) D (.lst (refs rs ++ [V.ref u])) D = some (.lst (refs rs')) ∧ EsAt (upd (upd Hx u (entO (W, ln))) D (.lst (refs rs ++ [V.ref u]))) rs' (tags W (ss.take (j + 1))) := by
  obtain ⟨k1, k2, k3⟩ := esStep (e := (W, ln)) hD hr nu
  refine ⟨k1, ?_, fun b' o' h => ?_, rs ++ [u], k3, ?_⟩
  · unfold refs
    rw [List.length_map, hr.1]
    refine Nat.lt_of_le_of_lt (m := 120) ?_ (by decide)
    unfold tags
    rw [List.length_map]
    exact Nat.le_trans (take_le _ _) hl
  · rw [upd_ne (ne_of_none h nD)]
    exact same_upd nu _ _ (sx _ _ h)
  · rw [List.take_add_one, hln]
    unfold tags at k2 ⊢
    rw [List.map_append]
    exact k2
theorem keep_seg {ss : List Str} {k : Nat} (h : k ≤ ss.length) : tags kpW (seg ss k (k + 1)) = if k < ss.length then [(kpW, ss.getD k "")] else [] := by
  by_cases c : k < ss.length
  · rw [if_pos c, seg_cons (Nat.lt_succ_self _) c, seg_nil (Nat.le_refl _)]
    rfl
  · rw [if_neg c]
    unfold seg
    rw [List.drop_of_length_le (by omega), List.take_nil]
    rfl
theorem cut_segT (ss : List Str) {a b : Nat} (h1 : a ≤ b) (h2 : b ≤ ss.length + 1) : cutV (ss.map V.str) (some (a : Int)) (some (b : Int)) = (seg ss a b).map V.str := by
  unfold cutV HT.sIx seg
  simp only [if_neg (show ¬ (a : Int) < 0 by omega), if_neg (show ¬ (b : Int) < 0 by omega), List.length_map]
  by_cases c : a ≤ ss.length
  · rw [show min (a : Int).toNat ss.length = a by omega, ← List.map_drop, ← List.map_take]
    congr 1
    rcases Nat.lt_or_ge ss.length b with d | d
    · rw [show min (b : Int).toNat ss.length = ss.length by omega, List.take_of_length_le (by rw [List.length_drop]; exact Nat.le_refl _), List.take_of_length_le (by rw [List.length_drop]; omega)]
    · rw [show min (b : Int).toNat ss.length = b by omega]
  · rw [List.drop_of_length_le (l := ss) (by omega), List.drop_of_length_le (by rw [List.length_map]; omega)]
    simp
def spLScr (K : PySem.W.Frag) : Sp := fun vs H Q _ => ∃ (x1 x2 v : V) (ss1 ss2 : List Str) (ps : List (Nat × Nat)), vs = [x1, x2, v] ∧ LsAt H x1 ss1 ∧ LsAt H x2 ss2 ∧ DfV K H v ps ∧ IsDf ss1 ss2 ps ∧
  ∀ (l : Addr) (rs : List Addr) H', Same H H' → H l = none → H' l = some (.lst (refs rs)) → EsAt H' rs (scriptL ss1 ss2 ps) → Q (.ref l) H'
end XR
namespace K17
open PySem L2 XR
section
variable {P : Program} {w : World} {K : PySem.W.Frag} {mg : Str → Option Value} {base : Heap}
abbrev sLScr : Stmt := top 43
abbrev nLScr : List Str := ["_law_elder", "_law_newer", "_law_pairing", "_law_found", "_law_i", "_law_j", "_law_k", "_law_far", "_law_line"]
theorem scLScr : FnScope nLScr ["_law_elder", "_law_newer", "_law_pairing"] (defScope sLScr) := ⟨rfl, rfl, rfl, by decide +kernel, rfl, by decide +kernel, by decide +kernel⟩
theorem ok_lScr {f : Addr} {fd : FuncData} (F : Fun K "_law_script" "_law_script" sLScr f fd) (T : Blt mg) : FnOk P w K mg base CX0 1 f fd ["_law_elder", "_law_newer", "_law_pairing"] (spLScr K) := by
  refine F.ok scLScr (fun vs H Q E h => ?_) (fun cdv A outer s H vs Q E hr h => ?_)
  · obtain ⟨x1, x2, v, ss1, ss2, ps, rfl, _⟩ := h
    rfl
  · obtain ⟨x1, x2, v, ss1, ss2, ps, rfl, t1, t2, hv, hd, z⟩ := h
    refine ⟨_, pss_cons (ps_par3 (i := 3) (j := 4) (l := 5) rfl scLScr.nd rfl rfl rfl (by decide) (by decide) (by decide) rfl rfl rfl (pa_cons (pe_lst pa_nil) (pa_cons pe_int (pa_cons pe_int pa_nil))) rfl)
      (pss_cons (ps_for PassesOwn.never rfl (pi_list (pe_op op_cat (pe_callTy call_list_of (by rfl) (T.all "list" (by decide)) (by decide +kernel) (pa_cons (pv 2) pa_nil)) (pe_lst (pa_cons (pe_tup (pa_cons (pe_op op_add (pe_callB call_len_seq (by rfl) T.len PySem.boot_len (pa_cons (pv 0) pa_nil)) pe_int) (pa_cons (pe_op op_add (pe_callB call_len_seq (by rfl) T.len PySem.boot_len (pa_cons (pv 1) pa_nil)) pe_int) pa_nil))) pa_nil))))
        (pg_tup rfl (pgs_cons (pg_name (i := 6) scLScr.nd rfl (.inl rfl)) (pgs_cons (pg_name (i := 7) scLScr.nd rfl (.inl rfl)) pgs_nil)))
        (pss_cons (ps_set (i := 3) scLScr.nd rfl (.inl rfl) (pe_op op_cat (pv 3) (pe_lc (own := [("_law_line", 8)]) (g := gName 8) (tt := tYes) (te := tTup (tCons (tC (.str goW)) (tCons (tVar 8) tNil))) rfl scLScr.nd
            (pi_list (pe_slice sl_list (pv 0) (po_some (pe_op op_sub (pv 4) pe_int)) (po_some (pe_op op_sub (pv 6) pe_int))))
            (blkOk_by (own := [("_law_line", 8)]) (N := nLScr) (sc := defScope sLScr) (by decide +kernel)) (fun _ _ _ _ _ => pg_name (i := 8) scLScr.nd rfl (.inl rfl)) (fun _ _ _ _ _ => pts_nil) (fun _ _ _ _ _ => pe_tup (pa_cons pe_str (pa_cons (pv 8) pa_nil))))))
        (pss_cons (ps_set (i := 3) scLScr.nd rfl (.inl rfl) (pe_op op_cat (pv 3) (pe_lc (own := [("_law_line", 8)]) (g := gName 8) (tt := tYes) (te := tTup (tCons (tC (.str coW)) (tCons (tVar 8) tNil))) rfl scLScr.nd
            (pi_list (pe_slice sl_list (pv 1) (po_some (pe_op op_sub (pv 5) pe_int)) (po_some (pe_op op_sub (pv 7) pe_int))))
            (blkOk_by (own := [("_law_line", 8)]) (N := nLScr) (sc := defScope sLScr) (by decide +kernel)) (fun _ _ _ _ _ => pg_name (i := 8) scLScr.nd rfl (.inl rfl)) (fun _ _ _ _ _ => pts_nil) (fun _ _ _ _ _ => pe_tup (pa_cons pe_str (pa_cons (pv 8) pa_nil))))))
        (pss_cons (ps_set (i := 3) scLScr.nd rfl (.inl rfl) (pe_op op_cat (pv 3) (pe_lc (own := [("_law_line", 8)]) (g := gName 8) (tt := tYes) (te := tTup (tCons (tC (.str kpW)) (tCons (tVar 8) tNil))) rfl scLScr.nd
            (pi_list (pe_slice sl_list (pv 0) (po_some (pe_op op_sub (pv 6) pe_int)) (po_some (pv 6))))
            (blkOk_by (own := [("_law_line", 8)]) (N := nLScr) (sc := defScope sLScr) (by decide +kernel)) (fun _ _ _ _ _ => pg_name (i := 8) scLScr.nd rfl (.inl rfl)) (fun _ _ _ _ _ => pts_nil) (fun _ _ _ _ _ => pe_tup (pa_cons pe_str (pa_cons (pv 8) pa_nil))))))
        (pss_one (ps_par (i := 4) (j := 5) rfl scLScr.nd rfl rfl (by decide) rfl rfl (pa_cons (pe_op op_add (pv 6) pe_int) (pa_cons (pe_op op_add (pv 7) pe_int) pa_nil)) rfl))))))
      (pss_one (ps_ret (pv 3)))), ?_⟩
    have l60 := t1.le
    have m60 := t2.le
    have dl := df_len hd
    have df := dfFrom_of hd
    have gflat : (gapsL ss1.length ss2.length ps).flatMap (gapE ss1 ss2) = scriptL ss1 ss2 ps := gaps_scr ss1 ss2 ps 0 0 df
    have total : (scriptL ss1 ss2 ps).length ≤ 120 := (scr_is hd (t1.t (K := K)).lns (t2.t (K := K)).lns l60 m60).len
    have part : ∀ i, (((gapsL ss1.length ss2.length ps).take i).flatMap (gapE ss1 ss2)).length ≤ 120 := fun i => by
      refine Nat.le_trans ?_ total
      rw [← gflat]
      conv => rhs; rw [← List.take_append_drop i (gapsL ss1.length ss2.length ps), List.flatMap_append, List.length_append]
      exact Nat.le_add_right _ _
    refine ⟨ll20 (by decide), fun f0 nf => ⟨_, _, _, rfl, ?_⟩⟩
    have s0 := same_upd (o := .lst []) nf
    have hf0 := upd_same (H := H) (a := f0) (o := .lst [])
    generalize upd H f0 (.lst []) = H0 at s0 hf0 ⊢
    obtain ⟨t, xs, rfl, ht, np⟩ := hv.nps
    refine ⟨_, rfl, t, xs, rfl, .inr (XR.Same.tup s0 ht), fun q nq => ?_⟩
    have sq := same_upd (o := .lst xs) nq
    have hq := upd_same (H := H0) (a := q) (o := .lst xs)
    have hf1 := sq _ _ hf0
    have s1 := s0.trans sq
    generalize upd H0 q (.lst xs) = H1 at hq hf1 s1 ⊢
    obtain ⟨a1, rfl, h1, _⟩ := id t1
    obtain ⟨a2, rfl, h2, _⟩ := id t2
    refine ⟨_, rfl, a1, _, rfl, .inl (SqL.of (s1 _ _ h1)), _, _, rfl, rfl, _, rfl, a2, _, rfl, .inl (SqL.of (s1 _ _ h2)), _, _, rfl, rfl, ll20 (by show 2 ≤ 20; decide), fun e0 ne => ⟨ll20 (by show 1 ≤ 20; decide), fun b0 nb => ?_⟩⟩
    rw [List.length_map, List.length_map] at nb ⊢
    have se := same_upd (o := .tup [V.int ((ss1.length : Nat) + 1), V.int ((ss2.length : Nat) + 1)]) ne
    have he := upd_same (H := H1) (a := e0) (o := .tup [V.int ((ss1.length : Nat) + 1), V.int ((ss2.length : Nat) + 1)])
    generalize upd H1 e0 (.tup [V.int ((ss1.length : Nat) + 1), V.int ((ss2.length : Nat) + 1)]) = H2 at se he nb ⊢
    have sb := same_upd (o := .lst [V.ref e0]) nb
    have hb := upd_same (H := H2) (a := b0) (o := .lst [V.ref e0])
    have he2 := sb _ _ he
    have s2 := s1.trans (se.trans sb)
    have hq2 := (se.trans sb) _ _ hq
    have hf2 := (se.trans sb) _ _ hf1
    generalize upd H2 b0 (.lst [V.ref e0]) = H3 at hb he2 s2 hq2 hf2 ⊢
    have xl := np.1
    refine ⟨_, _, _, _, rfl, rfl, hq2, hb, Nat.le_trans (show xs.length + 1 ≤ 61 by omega) (by decide), fun l nl => ⟨l, rfl, ⟨_, SqL.of upd_same⟩, ?_⟩⟩
    have sl := same_upd (o := .lst (xs ++ [V.ref e0])) nl
    have hl := upd_same (H := H3) (a := l) (o := .lst (xs ++ [V.ref e0]))
    have he3 := sl _ _ he2
    have hf3 := sl _ _ hf2
    have s3 := s2.trans sl
    have nps : NPs K (upd H3 l (.lst (xs ++ [V.ref e0]))) (xs ++ [V.ref e0]) (ps ++ [(ss1.length + 1, ss2.length + 1)]) := (np.same s3).append (NPs.one (K := K) (q := (ss1.length + 1, ss2.length + 1)) (.inl (.inl he3)))
    generalize upd H3 l (.lst (xs ++ [V.ref e0])) = H4 at hl he3 hf3 s3 nps ⊢
    have glen : (gapsL ss1.length ss2.length ps).length = ps.length + 1 := gaps_len _ _ _ _
    have lB : (ps ++ [(ss1.length + 1, ss2.length + 1)] : List (Nat × Nat)).length = ps.length + 1 := by rw [List.length_append]; rfl
    have lX : (xs ++ [V.ref e0]).length = ps.length + 1 := by rw [List.length_append, xl]; rfl
    clear nl sl hb he2 hq2 sb se nb ne hq sq nq hf1 he hf2
    refine for_list (K := K) (a := l) (xs := xs ++ [V.ref e0]) (fun i σ H' => Same H4 H' ∧ ∃ (p : Addr) (rs : List Addr) (b : Nat × Nat) (x6 x7 x8 : Option V), (((0, 0) :: ps)[i]? = some b ∨ i = ps.length + 1) ∧ σ = [some (V.ref a1), some (V.ref a2), some (V.ref t), some (V.ref p), some (V.int ((b.1 : Int) + 1)), some (V.int ((b.2 : Int) + 1)), x6, x7, x8] ∧
        H' p = some (.lst (refs rs)) ∧ H p = none ∧ EsAt H' rs (((gapsL ss1.length ss2.length ps).take i).flatMap (gapE ss1 ss2)))
      ⟨fun _ _ h => h, f0, [], (0, 0), _, _, _, .inl rfl, rfl, hf3, nf, .nil⟩ (fun i σ H' _ hh => SqL.of (hh.1 _ _ hl)) ?_ ?_
    · rintro i x σ Ha hx ⟨sm, p, rsp, b, x6, x7, x8, hb, rfl, hfa, npp, hes⟩
      have hi : i < ps.length + 1 := by rw [← lX]; exact (List.getElem?_eq_some_iff.mp hx).1
      have hb : ((0, 0) :: ps)[i]? = some b := by
        rcases hb with h | h
        · exact h
        · omega
      obtain ⟨e, he⟩ : ∃ e, (ps ++ [(ss1.length + 1, ss2.length + 1)] : List (Nat × Nat))[i]? = some e := ⟨_, List.getElem?_eq_getElem (by omega)⟩
      obtain ⟨r, er, hr4⟩ := nps.2 i e he
      obtain rfl : x = V.ref r := Option.some.inj (hx.symm.trans er)
      have hgap := gaps_at ss1.length ss2.length ps (0, 0) i b e hb he
      have e1p : 1 ≤ e.1 ∧ 1 ≤ e.2 := by
        rcases List.mem_append.mp (List.mem_of_getElem? he) with h | h
        · have := hd.pos h; omega
        · rw [List.mem_singleton.mp h]; exact ⟨by simp, by simp⟩
      obtain ⟨d1, d2, d3, d4⟩ : b.1 ≤ e.1 - 1 ∧ e.1 - 1 ≤ ss1.length ∧ b.2 ≤ e.2 - 1 ∧ e.2 - 1 ≤ ss2.length := gaps_bd ss1 ss2 ps 0 0 df _ (List.mem_of_getElem? hgap)
      have hra : SqT K Ha r [.int (e.1 : Int), .int (e.2 : Int)] := XR.Same.tup sm hr4
      have next : ((0, 0) :: ps)[i + 1]? = some e ∨ i + 1 = ps.length + 1 := by
        by_cases c : i < ps.length
        · left
          rw [List.getElem?_append_left c] at he
          rw [List.getElem?_cons_succ]
          exact he
        · right; omega
      have tk : ((gapsL ss1.length ss2.length ps).take (i + 1)).flatMap (gapE ss1 ss2) = ((gapsL ss1.length ss2.length ps).take i).flatMap (gapE ss1 ss2) ++ tags goW (seg ss1 b.1 (e.1 - 1)) ++ tags coW (seg ss2 b.2 (e.2 - 1)) ++ tags kpW (seg ss1 (e.1 - 1) e.1) := by
        rw [List.take_add_one]
        unfold gapsL at hgap ⊢
        rw [hgap, List.flatMap_append]
        have e3 : tags kpW (seg ss1 (e.1 - 1) e.1) = if e.1 - 1 < ss1.length then [(kpW, ss1.getD (e.1 - 1) "")] else [] := by
          rw [← keep_seg d2, show e.1 - 1 + 1 = e.1 by omega]
        rw [e3]
        show _ ++ (gos _ ++ comes _ ++ _ ++ []) = _
        rw [List.append_nil, List.append_assoc, List.append_assoc, List.append_assoc]
        rfl
      have c1 : cutV (ss1.map V.str) (some ((b.1 : Int) + 1 - 1)) (some ((e.1 : Int) - 1)) = (seg ss1 b.1 (e.1 - 1)).map V.str := by
        rw [show ((b.1 : Int) + 1 - 1) = (b.1 : Int) by omega, show ((e.1 : Int) - 1) = ((e.1 - 1 : Nat) : Int) by omega]
        exact cut_segT ss1 d1 (by omega)
      have c2 : cutV (ss2.map V.str) (some ((b.2 : Int) + 1 - 1)) (some ((e.2 : Int) - 1)) = (seg ss2 b.2 (e.2 - 1)).map V.str := by
        rw [show ((b.2 : Int) + 1 - 1) = (b.2 : Int) by omega, show ((e.2 : Int) - 1) = ((e.2 - 1 : Nat) : Int) by omega]
        exact cut_segT ss2 d3 (by omega)
      have c3 : cutV (ss1.map V.str) (some ((e.1 : Int) - 1)) (some (e.1 : Int)) = (seg ss1 (e.1 - 1) e.1).map V.str := by
        rw [show ((e.1 : Int) - 1) = ((e.1 - 1 : Nat) : Int) by omega]
        exact cut_segT ss1 (by omega) (by omega)
      have pi1 := part (i + 1)
      rw [tk, List.length_append, List.length_append, List.length_append] at pi1
      have tl : ∀ W ss, (tags W ss).length = ss.length := fun W ss => List.length_map ..
      have q1 := tl goW (seg ss1 b.1 (e.1 - 1))
      have q2 := tl coW (seg ss2 b.2 (e.2 - 1))
      have q3 := tl kpW (seg ss1 (e.1 - 1) e.1)
      have sall := s3.trans sm
      refine ⟨r, _, rfl, hra, rfl, _, _, rfl, _, _, rfl, rfl, ?_⟩
      refine ⟨_, rfl, _, rfl, _, rfl, _, _, rfl, rfl, _, rfl, _, rfl, _, _, rfl, rfl, _, rfl, a1, _, rfl, SqL.of (sall _ _ h1), fun A nA => ⟨A, rfl, ⟨_, SqL.of upd_same⟩, ?_⟩⟩
      rw [c1]
      have sA := same_upd (o := .lst ((seg ss1 b.1 (e.1 - 1)).map V.str)) nA
      have hA := upd_same (H := Ha) (a := A) (o := .lst ((seg ss1 b.1 (e.1 - 1)).map V.str))
      have fA := sA _ _ hfa
      have eA := (hes).same sA
      have tA := sm.trans sA
      generalize upd Ha A (.lst ((seg ss1 b.1 (e.1 - 1)).map V.str)) = Haa at hA fA eA tA ⊢
      refine fun DA nDA => ?_
      have sDA := same_upd (o := .lst []) nDA
      refine lc_list (K := K) (a := A) (xs := (seg ss1 b.1 (e.1 - 1)).map V.str) (fun j Hx => Same Haa Hx ∧ ∃ rs, Hx DA = some (.lst (refs rs)) ∧ EsAt Hx rs (tags goW ((seg ss1 b.1 (e.1 - 1)).take j))) ⟨sDA, [], upd_same, .nil⟩ (fun j Hx _ hh => SqL.of (hh.1 _ _ hA)) ?_ ?_
      · rintro j x Hx hx ⟨sx, rs, hD, hr⟩
        obtain ⟨ln, rfl, hln⟩ := str_of_map hx
        refine ⟨rfl, ?_⟩
        unfold tYes
        dsimp only
        rw [if_pos rfl]
        refine ⟨_, rfl, ll20 (by show 2 ≤ 20; decide), fun u nu => ?_⟩
        obtain ⟨z1, z2, z3, z4⟩ := tagStep sx nDA hD hr hln nu (by omega)
        exact ⟨_, z1, z2, z3, z4⟩
      rintro Hab ⟨uA, rsA, hDA, EDA⟩
      rw [List.length_map, List.take_length] at EDA
      have gA := uA _ _ fA
      have kA := (eA.same uA).append EDA
      have vA := tA.trans uA
      have bdA : rsp.length + rsA.length ≤ 300 := by rw [(hes).1, EDA.1]; exact (by omega)
      refine ⟨p, DA, _, _, rfl, rfl, gA, hDA, ?_, fun pA npA => ?_⟩
      · unfold refs
        rw [List.length_map, List.length_map]
        exact Nat.le_trans bdA (by decide)
      have wA := same_upd (o := .lst (refs rsp ++ refs rsA)) npA
      have hpA := upd_same (H := Hab) (a := pA) (o := .lst (refs rsp ++ refs rsA))
      rw [refs_app] at wA hpA ⊢
      have xA := kA.same wA
      have yA := vA.trans wA
      have noneA : H pA = none := none_before (s3.trans vA) npA
      generalize upd Hab pA (.lst (refs (rsp ++ rsA))) = Hb at wA hpA xA yA ⊢
      refine ⟨_, rfl, _, rfl, _, rfl, _, _, rfl, rfl, _, rfl, _, rfl, _, _, rfl, rfl, _, rfl, a2, _, rfl, SqL.of ((s3.trans yA) _ _ h2), fun B nB => ⟨B, rfl, ⟨_, SqL.of upd_same⟩, ?_⟩⟩
      rw [c2]
      have sB := same_upd (o := .lst ((seg ss2 b.2 (e.2 - 1)).map V.str)) nB
      have hB := upd_same (H := Hb) (a := B) (o := .lst ((seg ss2 b.2 (e.2 - 1)).map V.str))
      have fB := sB _ _ hpA
      have eB := (xA).same sB
      have tB := yA.trans sB
      generalize upd Hb B (.lst ((seg ss2 b.2 (e.2 - 1)).map V.str)) = Hba at hB fB eB tB ⊢
      refine fun DB nDB => ?_
      have sDB := same_upd (o := .lst []) nDB
      refine lc_list (K := K) (a := B) (xs := (seg ss2 b.2 (e.2 - 1)).map V.str) (fun j Hx => Same Hba Hx ∧ ∃ rs, Hx DB = some (.lst (refs rs)) ∧ EsAt Hx rs (tags coW ((seg ss2 b.2 (e.2 - 1)).take j))) ⟨sDB, [], upd_same, .nil⟩ (fun j Hx _ hh => SqL.of (hh.1 _ _ hB)) ?_ ?_
      · rintro j x Hx hx ⟨sx, rs, hD, hr⟩
        obtain ⟨ln, rfl, hln⟩ := str_of_map hx
        refine ⟨rfl, ?_⟩
        unfold tYes
        dsimp only
        rw [if_pos rfl]
        refine ⟨_, rfl, ll20 (by show 2 ≤ 20; decide), fun u nu => ?_⟩
        obtain ⟨z1, z2, z3, z4⟩ := tagStep sx nDB hD hr hln nu (by omega)
        exact ⟨_, z1, z2, z3, z4⟩
      rintro Hbb ⟨uB, rsB, hDB, EDB⟩
      rw [List.length_map, List.take_length] at EDB
      have gB := uB _ _ fB
      have kB := (eB.same uB).append EDB
      have vB := tB.trans uB
      have bdB : (rsp ++ rsA).length + rsB.length ≤ 300 := by rw [(xA).1, EDB.1]; exact (by rw [List.length_append]; omega)
      refine ⟨pA, DB, _, _, rfl, rfl, gB, hDB, ?_, fun pB npB => ?_⟩
      · unfold refs
        rw [List.length_map, List.length_map]
        exact Nat.le_trans bdB (by decide)
      have wB := same_upd (o := .lst (refs (rsp ++ rsA) ++ refs rsB)) npB
      have hpB := upd_same (H := Hbb) (a := pB) (o := .lst (refs (rsp ++ rsA) ++ refs rsB))
      rw [refs_app] at wB hpB ⊢
      have xB := kB.same wB
      have yB := vB.trans wB
      have noneB : H pB = none := none_before (s3.trans vB) npB
      generalize upd Hbb pB (.lst (refs ((rsp ++ rsA) ++ rsB))) = Hc at wB hpB xB yB ⊢
      refine ⟨_, rfl, _, rfl, _, rfl, _, _, rfl, rfl, _, rfl, _, rfl, _, rfl, a1, _, rfl, SqL.of ((s3.trans yB) _ _ h1), fun C nC => ⟨C, rfl, ⟨_, SqL.of upd_same⟩, ?_⟩⟩
      rw [c3]
      have sC := same_upd (o := .lst ((seg ss1 (e.1 - 1) e.1).map V.str)) nC
      have hC := upd_same (H := Hc) (a := C) (o := .lst ((seg ss1 (e.1 - 1) e.1).map V.str))
      have fC := sC _ _ hpB
      have eC := (xB).same sC
      have tC := yB.trans sC
      generalize upd Hc C (.lst ((seg ss1 (e.1 - 1) e.1).map V.str)) = Hca at hC fC eC tC ⊢
      refine fun DC nDC => ?_
      have sDC := same_upd (o := .lst []) nDC
      refine lc_list (K := K) (a := C) (xs := (seg ss1 (e.1 - 1) e.1).map V.str) (fun j Hx => Same Hca Hx ∧ ∃ rs, Hx DC = some (.lst (refs rs)) ∧ EsAt Hx rs (tags kpW ((seg ss1 (e.1 - 1) e.1).take j))) ⟨sDC, [], upd_same, .nil⟩ (fun j Hx _ hh => SqL.of (hh.1 _ _ hC)) ?_ ?_
      · rintro j x Hx hx ⟨sx, rs, hD, hr⟩
        obtain ⟨ln, rfl, hln⟩ := str_of_map hx
        refine ⟨rfl, ?_⟩
        unfold tYes
        dsimp only
        rw [if_pos rfl]
        refine ⟨_, rfl, ll20 (by show 2 ≤ 20; decide), fun u nu => ?_⟩
        obtain ⟨z1, z2, z3, z4⟩ := tagStep sx nDC hD hr hln nu (by omega)
        exact ⟨_, z1, z2, z3, z4⟩
      rintro Hcb ⟨uC, rsC, hDC, EDC⟩
      rw [List.length_map, List.take_length] at EDC
      have gC := uC _ _ fC
      have kC := (eC.same uC).append EDC
      have vC := tC.trans uC
      have bdC : (rsp ++ rsA ++ rsB).length + rsC.length ≤ 300 := by rw [(xB).1, EDC.1]; exact (by rw [List.length_append, List.length_append]; omega)
      refine ⟨pB, DC, _, _, rfl, rfl, gC, hDC, ?_, fun pC npC => ?_⟩
      · unfold refs
        rw [List.length_map, List.length_map]
        exact Nat.le_trans bdC (by decide)
      have wC := same_upd (o := .lst (refs (rsp ++ rsA ++ rsB) ++ refs rsC)) npC
      have hpC := upd_same (H := Hcb) (a := pC) (o := .lst (refs (rsp ++ rsA ++ rsB) ++ refs rsC))
      rw [refs_app] at wC hpC ⊢
      have xC := kC.same wC
      have yC := vC.trans wC
      have noneC : H pC = none := none_before (s3.trans vC) npC
      generalize upd Hcb pC (.lst (refs ((rsp ++ rsA ++ rsB) ++ rsC))) = Hd at wC hpC xC yC ⊢
      refine ⟨_, rfl, _, _, rfl, rfl, _, rfl, _, _, rfl, rfl, _, _, rfl, yC, pC, _, e, _, _, _, next, rfl, hpC, noneC, ?_⟩
      rw [tk]
      exact xC
    · rintro σ Ha ⟨sm, p, rsp, b, x6, x7, x8, hb, rfl, hfa, npp, hes⟩
      rw [lX, ← glen, List.take_length, gflat] at hes
      exact ⟨_, rfl, z p rsp Ha (s3.trans sm) npp hfa hes⟩
end
end K17
namespace XR
open PySem L2
/-- a script as a list whose entries stand in the heap -/
def EsL (H : Hp) (x : V) (es : List Ent) : Prop := ∃ (p : Addr) (rs : List Addr), x = .ref p ∧ H p = some (.lst (refs rs)) ∧ EsAt H rs es
theorem EsL.same {H H' : Hp} {x : V} {es : List Ent} (s : Same H H') (h : EsL H x es) : EsL H' x es := let ⟨p, rs, a, b, c⟩ := h; ⟨p, rs, a, s _ _ b, c.same s⟩
theorem EsL.v {K : PySem.W.Frag} {H : Hp} {x : V} {es : List Ent} (h : EsL H x es) : EnV K H x true es := by
  obtain ⟨p, rs, rfl, h1, h2⟩ := h
  exact .lst (SqL.of h1) h2.dq
theorem EsL.items {H : Hp} {x : V} {es : List Ent} (h : EsL H x es) : ∃ (a : Addr) (xs : List V), x = .ref a ∧ H a = some (.lst xs) ∧ xs.length = es.length ∧ ∀ (i : Nat) (v : V), xs[i]? = some v → ∃ (e : Ent) (r : Addr), es[i]? = some e ∧ v = .ref r ∧ H r = some (entO e) := by
  obtain ⟨p, rs, rfl, h1, h2⟩ := h
  refine ⟨p, refs rs, rfl, h1, by unfold refs; rw [List.length_map, h2.1], fun i v hv => ?_⟩
  unfold refs at hv
  rw [List.getElem?_map] at hv
  obtain ⟨r, e1, rfl⟩ := Option.map_eq_some_iff.mp hv
  have hi : i < es.length := by rw [← h2.1]; exact (List.getElem?_eq_some_iff.mp e1).1
  obtain ⟨r', e2, e3⟩ := h2.2 i _ (List.getElem?_eq_getElem hi)
  rw [e1] at e2
  cases e2
  exact ⟨_, r, List.getElem?_eq_getElem hi, rfl, e3⟩
def turnKV : List (Key × V) := [(Sum.inr kpW, .str kpW), (Sum.inr goW, .str coW), (Sum.inr coW, .str goW)]
theorem turn_look {u : Str} (h : u = kpW ∨ u = goW ∨ u = coW) : valV (mergeK [] turnKV) (Sum.inr u) = some (.str (turnW u)) := by
  rcases h with rfl | rfl | rfl <;> decide +kernel
end XR
namespace K17
open PySem L2 XR
section
variable {P : Program} {w : World} {K : PySem.W.Frag} {mg : Str → Option Value} {base : Heap}
abbrev sLTurn : Stmt := top 44
abbrev nLTurn : List Str := ["_law_entries_now", "_law_words", "_law_word", "_law_line"]
theorem scLTurn : FnScope nLTurn ["_law_entries_now"] (defScope sLTurn) := ⟨rfl, rfl, rfl, by decide +kernel, rfl, by decide +kernel, by decide +kernel⟩
theorem ok_lTurn {f : Addr} {fd : FuncData} (F : Fun K "_law_turned" "_law_turned" sLTurn f fd) : FnOk P w K mg base CX0 1 f fd ["_law_entries_now"] (spTurnS K) := by
  refine F.ok scLTurn (fun vs H Q E h => ?_) (fun cdv A outer s H vs Q E hr h => ?_)
  · obtain ⟨x, b, es, rfl, _⟩ := h
    rfl
  · obtain ⟨x, b, es, rfl, he, hs, z⟩ := h
    have hu := hu_of hr
    refine ⟨_, pss_cons (ps_set (i := 1) scLTurn.nd rfl (.inr rfl) (pe_disp (pps_cons pe_str pe_str (pps_cons pe_str pe_str (pps_cons pe_str pe_str pps_nil))) (by rfl) (by rfl) (fun z => by cases z) (by decide)))
      (pss_one (ps_ret (pe_lc (own := [("_law_word", 2), ("_law_line", 3)]) (g := gTup K 2 (gCons (gName 2) (gCons (gName 3) gNil))) (tt := tYes) (te := tTup (tCons (tDGet (tVar 1) (tVar 2)) (tCons (tVar 3) tNil))) rfl scLTurn.nd (pi_wv (pv 0))
          (blkOk_by (own := [("_law_word", 2), ("_law_line", 3)]) (N := nLTurn) (sc := defScope sLTurn) (by decide +kernel))
          (fun _ _ _ _ _ => pg_tup rfl (pgs_cons (pg_name (i := 2) scLTurn.nd rfl (.inl rfl)) (pgs_cons (pg_name (i := 3) scLTurn.nd rfl (.inl rfl)) pgs_nil))) (fun _ _ _ _ _ => pts_nil)
          (fun _ _ _ _ _ => pe_tup (pa_cons (pe_dget hu (pv 1) (pv 2) (fun _ _ => rfl)) (pa_cons (pv 3) pa_nil)))))), ?_⟩
    intro p np
    have sp0 := same_upd (o := .dK []) np
    have hp0 := upd_same (H := H) (a := p) (o := .dK [])
    refine ⟨hp0, turnKV, rfl, by show 3 ≤ 15; decide, ?_⟩
    have s1 : Same H (upd (upd H p (.dK [])) p (.dK (mergeK [] turnKV))) := fun b' o' h => by
      rw [upd_ne (ne_of_none h np)]
      exact sp0 _ _ h
    have hd := upd_same (H := upd H p (.dK [])) (a := p) (o := .dK (mergeK [] turnKV))
    generalize upd (upd H p (.dK [])) p (.dK (mergeK [] turnKV)) = H1 at s1 hd ⊢
    obtain ⟨a, xs, rfl, hw, hl, hx⟩ := (he.same s1).items
    refine ⟨_, rfl, a, b, rfl, ⟨xs, hw⟩, fun D nD => ?_⟩
    have sD := same_upd (o := .lst []) nD
    refine lc_it walk_w (fun i H' => Same H1 H' ∧ ∃ rs, H' D = some (.lst (refs rs)) ∧ EsAt H' rs ((es.take i).map turnE)) ⟨sD, [], upd_same, .nil⟩ (fun i H' _ hh => hw.same hh.1) ?_ ?_
    · rintro i v Ha Hb hi ⟨sm, rs, hD, hps⟩ ⟨rfl, e2⟩
      obtain ⟨⟨w1, l1⟩, r, he1, rfl, hr1⟩ := hx i _ e2
      have hr2 := XR.Same.tup sm hr1
      refine ⟨r, _, rfl, hr2, rfl, _, _, rfl, _, _, rfl, rfl, rfl, ?_⟩
      unfold tYes
      dsimp only
      rw [if_pos rfl]
      have ghave : DGet Hb p (.str w1) (some (.str (turnW w1))) := by
        have := DGet.k (k := Sum.inr w1) (sm _ _ hd)
        rw [turn_look (hs.wd _ (List.mem_of_getElem? he1))] at this
        exact this
      refine ⟨_, rfl, _, rfl, p, _, rfl, ghave, _, rfl, ll20 (by show 2 ≤ 20; decide), fun u nu => ?_⟩
      have tk := take_snoc he1
      obtain ⟨k1, k2, k3⟩ := esStep (e := turnE (w1, l1)) hD hps nu
      have lb : rs.length ≤ 120 := by
        rw [hps.1, List.length_map, List.length_take]
        have := hs.len
        omega
      refine ⟨_, k1, ?_, fun b' o' h => ?_, rs ++ [u], k3, ?_⟩
      · unfold refs
        rw [List.length_map]
        exact Nat.lt_of_le_of_lt lb (by decide)
      · rw [upd_ne (ne_of_none h nD)]
        exact same_upd nu _ _ (sm _ _ h)
      · rw [tk, List.map_append]
        exact k2
    · rintro H2 ⟨s2, rs, hD, hps⟩
      rw [hl, List.take_length] at hps
      exact z D rs H2 (s1.trans s2) (none_before s1 nD) hD hps
abbrev sLTexts : Stmt := top 45
abbrev nLTexts : List Str := ["_law_entries_now", "_law_elder", "_law_word", "_law_line"]
theorem scLTexts : FnScope nLTexts ["_law_entries_now"] (defScope sLTexts) := ⟨rfl, rfl, rfl, by decide +kernel, rfl, by decide +kernel, by decide +kernel⟩
theorem ok_lTexts {f : Addr} {fd : FuncData} (F : Fun K "_law_texts" "_law_texts" sLTexts f fd) : FnOk P w K mg base CX0 1 f fd ["_law_entries_now"] (spTexts K) := by
  refine F.ok scLTexts (fun vs H Q E h => ?_) (fun cdv A outer s H vs Q E hr h => ?_)
  · obtain ⟨x, b, es, rfl, _⟩ := h
    rfl
  · obtain ⟨x, b, es, rfl, he, hs, z⟩ := h
    refine ⟨_, pss_cons (ps_setLc (i := 1) (own := [("_law_word", 2), ("_law_line", 3)]) (g := gTup K 2 (gCons (gName 2) (gCons (gName 3) gNil))) (tt := tTest (tOp rNe (tVar 2) (tC (.str "come")))) (te := tVar 3) rfl scLTexts.nd rfl rfl (sw_true rfl rfl rfl (by decide +kernel)) (pi_wv (pv 0))
          (blkOk_by (own := [("_law_word", 2), ("_law_line", 3)]) (N := nLTexts) (sc := defScope sLTexts) (by decide +kernel))
          (fun _ _ _ _ _ => pg_tup rfl (pgs_cons (pg_name (i := 2) scLTexts.nd rfl (.inl rfl)) (pgs_cons (pg_name (i := 3) scLTexts.nd rfl (.inl rfl)) pgs_nil))) (fun _ _ _ _ _ => pts_one (pt_cmpR op_ne (pv 2) pe_str (nomark _))) (fun _ _ _ _ _ => pv 3))
      (pss_one (ps_ret (pe_tup (pa_cons (pv 1) (pa_cons (pe_lc (own := [("_law_word", 2), ("_law_line", 3)]) (g := gTup K 2 (gCons (gName 2) (gCons (gName 3) gNil))) (tt := tTest (tOp rNe (tVar 2) (tC (.str "go")))) (te := tVar 3) rfl scLTexts.nd (pi_wv (pv 0))
          (blkOk_by (own := [("_law_word", 2), ("_law_line", 3)]) (N := nLTexts) (sc := defScope sLTexts) (by decide +kernel))
          (fun _ _ _ _ _ => pg_tup rfl (pgs_cons (pg_name (i := 2) scLTexts.nd rfl (.inl rfl)) (pgs_cons (pg_name (i := 3) scLTexts.nd rfl (.inl rfl)) pgs_nil))) (fun _ _ _ _ _ => pts_one (pt_cmpR op_ne (pv 2) pe_str (nomark _))) (fun _ _ _ _ _ => pv 3)) pa_nil))))), ?_⟩
    obtain ⟨a, xs, rfl, hw, hl, hx⟩ := he.items
    refine ⟨_, rfl, a, b, rfl, ⟨xs, hw⟩, fun D nD => ?_⟩
    have sD := same_upd (o := .lst []) nD
    refine lc_it walk_w (fun i H' => Same H H' ∧ H' D = some (.lst ((oldL (es.take i)).map V.str))) ⟨sD, upd_same⟩ (fun i H' _ hh => hw.same hh.1) ?_ ?_
    · rintro i v Ha Hb hi ⟨sm, hD⟩ ⟨rfl, e2⟩
      obtain ⟨⟨w1, l1⟩, r, he1, rfl, hr1⟩ := hx i _ e2
      have hr2 := XR.Same.tup sm hr1
      refine ⟨r, _, rfl, hr2, rfl, _, _, rfl, _, _, rfl, rfl, rfl, _, rfl, rfl, _, rfl, ?_⟩
      have tk := take_snoc he1
      have lb : (oldL (es.take i)).length ≤ 60 := Nat.le_trans (old_take_le _ _) hs.o
      rw [show decide (V.str (w1, l1).fst = V.str (Str.ofString "come")) = decide (w1 = coW) from decW w1 coW]
      by_cases c : w1 = coW
      · rw [decide_eq_true c]
        refine iteF ⟨sm, ?_⟩
        rw [tk, oldL_append, old_one, if_neg (fun h => h c), List.append_nil]
        exact hD
      · rw [decide_eq_false c]
        refine iteT ⟨_, rfl, _, hD, ?_, fun b' o' h => ?_, ?_⟩
        · rw [List.length_map]
          exact Nat.lt_of_le_of_lt lb (by decide)
        · rw [upd_ne (ne_of_none h nD)]
          exact sm _ _ h
        · rw [upd_same, tk, oldL_append, old_one, if_pos c, List.map_append]
          rfl
    · rintro H2 ⟨s2, hD⟩
      rw [hl, List.take_length] at hD
      refine ⟨_, rfl, _, rfl, a, b, rfl, ⟨xs, hw.same s2⟩, fun D2 nD2 => ?_⟩
      have sD2 := same_upd (o := .lst []) nD2
      refine lc_it walk_w (fun i H' => Same H2 H' ∧ H' D2 = some (.lst ((newL (es.take i)).map V.str))) ⟨sD2, upd_same⟩ (fun i H' _ hh => hw.same (s2.trans hh.1)) ?_ ?_
      · rintro i v Ha Hb hi ⟨sm, hD2⟩ ⟨rfl, e2⟩
        obtain ⟨⟨w1, l1⟩, r, he1, rfl, hr1⟩ := hx i _ e2
        have hr2 := XR.Same.tup (s2.trans sm) hr1
        refine ⟨r, _, rfl, hr2, rfl, _, _, rfl, _, _, rfl, rfl, rfl, _, rfl, rfl, _, rfl, ?_⟩
        have tk := take_snoc he1
        have lb : (newL (es.take i)).length ≤ 60 := Nat.le_trans (new_take_le _ _) hs.n
        rw [show decide (V.str (w1, l1).fst = V.str (Str.ofString "go")) = decide (w1 = goW) from decW w1 goW]
        by_cases c : w1 = goW
        · rw [decide_eq_true c]
          refine iteF ⟨sm, ?_⟩
          rw [tk, newL_append, XR.new_one, if_neg (fun h => h c), List.append_nil]
          exact hD2
        · rw [decide_eq_false c]
          refine iteT ⟨_, rfl, _, hD2, ?_, fun b' o' h => ?_, ?_⟩
          · rw [List.length_map]
            exact Nat.lt_of_le_of_lt lb (by decide)
          · rw [upd_ne (ne_of_none h nD2)]
            exact sm _ _ h
          · rw [upd_same, tk, newL_append, XR.new_one, if_pos c, List.map_append]
            rfl
      · rintro H3 ⟨s3, hD2⟩
        rw [hl, List.take_length] at hD2
        refine ⟨ll20 (by show 2 ≤ 20; decide), fun t nt => ?_⟩
        have st := same_upd (o := .tup [V.ref D, V.ref D2]) nt
        exact z t D D2 _ ((s2.trans s3).trans st) nD (none_before s2 nD2) (ne_of_none hD nD2) upd_same (st _ _ (s3 _ _ hD)) (st _ _ hD2)
end
end K17
namespace K17
open PySem L2 XR
section
variable {P : Program} {w : World} {K : PySem.W.Frag} {mg : Str → Option Value} {base : Heap}
abbrev sLPairs : Stmt := top 46
abbrev nLPairs : List Str := ["_law_entries_now", "_law_found", "_law_i", "_law_j", "_law_word", "_law_line"]
theorem scLPairs : FnScope nLPairs ["_law_entries_now"] (defScope sLPairs) := ⟨rfl, rfl, rfl, by decide +kernel, rfl, by decide +kernel, by decide +kernel⟩
theorem ok_lPairs {f : Addr} {fd : FuncData} (F : Fun K "_law_pairs" "_law_pairs" sLPairs f fd) (T : Blt mg) : FnOk P w K mg base CX0 1 f fd ["_law_entries_now"] (spDiffOf K) := by
  refine F.ok scLPairs (fun vs H Q E h => ?_) (fun cdv A outer s H vs Q E hr h => ?_)
  · obtain ⟨x, b, es, rfl, _⟩ := h
    rfl
  · obtain ⟨x, b, es, rfl, he, hs, z⟩ := h
    refine ⟨_, pss_cons (ps_par3 (i := 1) (j := 2) (l := 3) rfl scLPairs.nd rfl rfl rfl (by decide) (by decide) (by decide) rfl rfl rfl (pa_cons (pe_lst pa_nil) (pa_cons pe_int (pa_cons pe_int pa_nil))) rfl)
      (pss_cons (ps_for PassesOwn.never rfl (pi_wv (pv 0)) (pg_tup rfl (pgs_cons (pg_name (i := 4) scLPairs.nd rfl (.inl rfl)) (pgs_cons (pg_name (i := 5) scLPairs.nd rfl (.inl rfl)) pgs_nil)))
        (pss_cons (ps_par (i := 2) (j := 3) rfl scLPairs.nd rfl rfl (by decide) rfl rfl (pa_cons (pe_op op_add (pv 2) (pe_callTy call_int1 (by rfl) T.int (by decide +kernel) (pa_cons (pe_cmpR op_ne (pv 4) pe_str (nomark _)) pa_nil)))
            (pa_cons (pe_op op_add (pv 3) (pe_callTy call_int1 (by rfl) T.int (by decide +kernel) (pa_cons (pe_cmpR op_ne (pv 4) pe_str (nomark _)) pa_nil))) pa_nil)) rfl)
        (pss_one (ps_set (i := 1) scLPairs.nd rfl (.inl rfl) (pe_op op_cat (pv 1) (pe_op op_rep (pe_lst (pa_cons (pe_tup (pa_cons (pv 2) (pa_cons (pv 3) pa_nil))) pa_nil)) (pe_callTy call_int1 (by rfl) T.int (by decide +kernel) (pa_cons (pe_cmpR op_eq (pv 4) pe_str (nomark _)) pa_nil))))))))
      (pss_one (ps_ret (pe_callTy call_tuple_of (by rfl) (T.all "tuple" (by decide)) (by decide +kernel) (pa_cons (pv 1) pa_nil))))), ?_⟩
    obtain ⟨a, xs, rfl, hw, hl, hx⟩ := he.items
    refine ⟨ll20 (by decide), fun pf nf => ⟨_, _, _, rfl, ?_⟩⟩
    have sf := same_upd (o := .lst []) nf
    refine ⟨_, rfl, a, b, rfl, ⟨xs, hw.same sf⟩, ?_⟩
    refine for_it walk_w (fun i σ H' => Same H H' ∧ ∃ (p : Addr) (y4 y5 : Option V), σ = [some (V.ref a), some (V.ref p), some (V.int ((oldL (es.take i)).length : Int)), some (V.int ((newL (es.take i)).length : Int)), y4, y5] ∧ H p = none ∧ ∃ rs, H' p = some (.lst (refs rs)) ∧ PsAt H' rs (pairsFrom 0 0 (es.take i))) ⟨sf, pf, _, _, rfl, nf, [], upd_same, .nil⟩ (fun i σ H' _ hh => hw.same hh.1) ?_ ?_
    · rintro i v σ Ha Hb hi ⟨sm, p, y4, y5, rfl, npp, rs, hf, hps⟩ ⟨rfl, e2⟩
      obtain ⟨⟨w1, l1⟩, r, he1, rfl, hr1⟩ := hx i _ e2
      have hr2 := XR.Same.tup sm hr1
      have mem := List.mem_of_getElem? he1
      have tk := take_snoc he1
      have oN : (oldL (es.take (i + 1))).length = (oldL (es.take i)).length + (if w1 ≠ coW then 1 else 0) := by
        rw [tk, oldL_append, List.length_append, old_one]
        split <;> rfl
      have nN : (newL (es.take (i + 1))).length = (newL (es.take i)).length + (if w1 ≠ goW then 1 else 0) := by
        rw [tk, newL_append, List.length_append, XR.new_one]
        split <;> rfl
      have pN : pairsFrom 0 0 (es.take (i + 1)) = pairsFrom 0 0 (es.take i) ++ (if w1 = kpW then [((oldL (es.take i)).length + 1, (newL (es.take i)).length + 1)] else []) := by
        rw [tk, pr_snoc _ _ _ (hs.wd.take i), Nat.zero_add, Nat.zero_add]
      have lb : rs.length ≤ 120 := by
        rw [hps.1]
        refine Nat.le_trans (pairs_le _ _ _) ?_
        rw [List.length_take]
        have := hs.len
        omega
      have h1 : ((oldL (es.take (i + 1))).length : Int) = ((oldL (es.take i)).length : Int) + (if (!decide (V.str w1 = V.str coW)) = true then 1 else 0) := by
        rw [oN, decW]
        by_cases c : w1 = coW
        · rw [if_neg (fun h => h c), decide_eq_true c]; rfl
        · rw [if_pos c, decide_eq_false c]; rfl
      have h2 : ((newL (es.take (i + 1))).length : Int) = ((newL (es.take i)).length : Int) + (if (!decide (V.str w1 = V.str goW)) = true then 1 else 0) := by
        rw [nN, decW]
        by_cases c : w1 = goW
        · rw [if_neg (fun h => h c), decide_eq_true c]; rfl
        · rw [if_pos c, decide_eq_false c]; rfl
      refine ⟨r, _, rfl, hr2, rfl, _, _, rfl, _, _, rfl, rfl, ?_⟩
      refine ⟨_, rfl, _, rfl, rfl, .inr ⟨_, rfl, _, _, rfl, rfl, _, rfl, _, rfl, rfl, .inr ⟨_, rfl, _, _, rfl, rfl, _, _, rfl, ?_⟩⟩⟩
      have en : HO.tup [V.int (((oldL (es.take i)).length : Int) + (if (!decide (V.str w1 = V.str "come")) = true then 1 else 0)), V.int (((newL (es.take i)).length : Int) + (if (!decide (V.str w1 = V.str "go")) = true then 1 else 0))] = tupV ((oldL (es.take (i + 1))).length, (newL (es.take (i + 1))).length) := by
        show HO.tup [V.int (((oldL (es.take i)).length : Int) + (if (!decide (V.str w1 = V.str coW)) = true then 1 else 0)), V.int (((newL (es.take i)).length : Int) + (if (!decide (V.str w1 = V.str goW)) = true then 1 else 0))] = _
        rw [← h1, ← h2]; rfl
      refine ⟨_, rfl, _, rfl, _, rfl, ll20 (by show 2 ≤ 20; decide), fun u nu => ⟨ll20 (by show 1 ≤ 20; decide), fun q nq => ⟨_, rfl, rfl, .inr ⟨_, rfl, q, _, _, rfl, rfl, upd_same, ?_⟩⟩⟩⟩
      rw [show decide (V.str (w1, l1).fst = V.str (Str.ofString "keep")) = decide (w1 = kpW) from decW w1 kpW]
      rw [en]
      have su := same_upd (o := tupV ((oldL (es.take (i + 1))).length, (newL (es.take (i + 1))).length)) nu
      have hu1 := upd_same (H := Hb) (a := u) (o := tupV ((oldL (es.take (i + 1))).length, (newL (es.take (i + 1))).length))
      replace nq : upd Hb u (tupV ((oldL (es.take (i + 1))).length, (newL (es.take (i + 1))).length)) q = none := by
        rw [← en]; exact nq
      generalize upd Hb u (tupV ((oldL (es.take (i + 1))).length, (newL (es.take (i + 1))).length)) = H7 at su hu1 nq ⊢
      have sq := same_upd (o := .lst [V.ref u]) nq
      have hu2 := sq _ _ hu1
      have s7 := su.trans sq
      generalize upd H7 q (.lst [V.ref u]) = H8 at sq hu2 s7 ⊢
      by_cases c : w1 = kpW
      · subst c
        rw [if_pos (by decide)] at oN
        rw [if_pos (by decide)] at nN
        rw [if_pos rfl, ← oN, ← nN] at pN
        rw [decide_eq_true rfl, if_pos rfl]
        refine ⟨by decide, by decide, by show 1 ≤ sizeLine; decide, fun p1 np1 => ?_⟩
        have hp1 : upd H8 p1 (.lst (List.replicate (Int.toNat 1) [V.ref u]).flatten) p1 = some (.lst [V.ref u]) := upd_same
        have s1' : Same H8 (upd H8 p1 (.lst (List.replicate (Int.toNat 1) [V.ref u]).flatten)) := same_upd np1
        generalize upd H8 p1 (.lst (List.replicate (Int.toNat 1) [V.ref u]).flatten) = H9 at hp1 s1' ⊢
        have s79 := s7.trans s1'
        refine ⟨p, p1, _, _, rfl, rfl, s79 _ _ hf, hp1, ?_, fun g ng => ?_⟩
        · unfold refs
          rw [List.length_map]
          exact Nat.le_trans (show rs.length + 1 ≤ 121 by omega) (by decide)
        have sg := same_upd (o := .lst (refs rs ++ [V.ref u])) ng
        refine ⟨(sm.trans s79).trans sg, g, some (V.str kpW), some (V.str l1), ?_, none_before (sm.trans s79) ng, rs ++ [u], ?_, ?_⟩
        · rw [h1, h2]; rfl
        · rw [upd_same]; unfold refs; rw [List.map_append]; rfl
        · rw [pN]
          exact ((hps.same s79).snoc (s1' _ _ hu2)).same sg
      · rw [if_neg c, List.append_nil] at pN
        rw [decide_eq_false c, if_neg (by decide)]
        refine ⟨by decide, by decide, by show 0 ≤ sizeLine; decide, fun p1 np1 => ?_⟩
        have hp1 : upd H8 p1 (.lst (List.replicate (Int.toNat 0) [V.ref u]).flatten) p1 = some (.lst []) := upd_same
        have s1' : Same H8 (upd H8 p1 (.lst (List.replicate (Int.toNat 0) [V.ref u]).flatten)) := same_upd np1
        generalize upd H8 p1 (.lst (List.replicate (Int.toNat 0) [V.ref u]).flatten) = H9 at hp1 s1' ⊢
        have s79 := s7.trans s1'
        refine ⟨p, p1, _, _, rfl, rfl, s79 _ _ hf, hp1, ?_, fun g ng => ?_⟩
        · unfold refs
          rw [List.length_map]
          exact Nat.le_trans (show rs.length + 0 ≤ 121 by omega) (by decide)
        have sg := same_upd (o := .lst (refs rs ++ [])) ng
        refine ⟨(sm.trans s79).trans sg, g, some (V.str w1), some (V.str l1), ?_, none_before (sm.trans s79) ng, rs, ?_, ?_⟩
        · rw [h1, h2]; rfl
        · rw [upd_same]; rw [List.append_nil]
        · rw [pN]
          exact (hps.same s79).same sg
    · rintro σ H2 ⟨s2, p, y4, y5, rfl, npp, rs, hf, hps⟩
      rw [hl, List.take_length] at hps
      refine ⟨_, rfl, p, _, rfl, .inl ⟨SqL.of hf, fun u nu => ?_⟩⟩
      have su := same_upd (o := .tup (refs rs)) nu
      exact z u _ (s2.trans su) (none_before s2 nu) ⟨rs, upd_same, hps.same su⟩
end
end K17
namespace XR
open PySem L2
def wordAt (es : List Ent) (k : Nat) : Str := (es[k]?.map (·.1)).getD ""
def badAt (es : List Ent) (k : Nat) : Bool := decide (wordAt es k = coW) && decide (wordAt es (k + 1) = goW)
theorem wordAt_of {es : List Ent} {k : Nat} {e : Ent} (h : es[k]? = some e) : wordAt es k = e.1 := by unfold wordAt; rw [h]; rfl
theorem plain_any : ∀ es : List Ent, plainB es = !((List.range (es.length - 1)).map (badAt es)).any id
  | [] => rfl
  | [_] => rfl
  | e :: f :: r => by
    have ih := plain_any (f :: r)
    rw [plainB, ih]
    have e1 : (e :: f :: r).length - 1 = ((f :: r).length - 1) + 1 := by simp
    rw [e1, List.range_succ_eq_map, List.map_cons, List.map_map, List.any_cons]
    have e2 : (badAt (e :: f :: r)) ∘ Nat.succ = badAt (f :: r) := by
      funext k
      show badAt (e :: f :: r) (k + 1) = _
      unfold badAt wordAt
      rw [List.getElem?_cons_succ, List.getElem?_cons_succ]
    rw [e2]
    have e3 : badAt (e :: f :: r) 0 = (decide (e.1 = coW) && decide (f.1 = goW)) := rfl
    rw [e3, id, Bool.not_or]
def spLPlain (K : PySem.W.Frag) : Sp := fun vs H Q _ => ∃ (x : V) (es : List Ent), vs = [x] ∧ EsL H x es ∧ es.length ≤ 120 ∧ ∀ H', Same H H' → Q (.bl (plainB es)) H'
end XR
namespace K17
open PySem L2 XR
section
variable {P : Program} {w : World} {K : PySem.W.Frag} {mg : Str → Option Value} {base : Heap}
abbrev sLPlain : Stmt := top 47
abbrev nLPlain : List Str := ["_law_entries_now", "_law_k"]
theorem scLPlain : FnScope nLPlain ["_law_entries_now"] (defScope sLPlain) := ⟨rfl, rfl, rfl, by decide +kernel, rfl, by decide +kernel, by decide +kernel⟩
theorem ok_lPlain {f : Addr} {fd : FuncData} (F : Fun K "_law_is_plain" "_law_is_plain" sLPlain f fd) (T : Blt mg) (mA : mg "any" = none) : FnOk P w K mg base CX0 1 f fd ["_law_entries_now"] (spLPlain K) := by
  refine F.ok scLPlain (fun vs H Q E h => ?_) (fun cdv A outer s H vs Q E hr h => ?_)
  · obtain ⟨x, es, rfl, _⟩ := h
    rfl
  · obtain ⟨x, es, rfl, he, hlen, z⟩ := h
    refine ⟨_, pss_one (ps_ret (pe_not (pe_callB (cr_any rfl) (by rfl) mA (by decide +kernel) (pa_cons (pe_lc (own := [("_law_k", 1)]) (g := gName 1) (tt := tYes)
        (te := tAndV (tOp rEq (tOp (rIxT K) (tOp (rIxL K) (tVar 0) (tVar 1)) (tC (.int 0))) (tC (.str "come"))) (tOp rEq (tOp (rIxT K) (tOp (rIxL K) (tVar 0) (tOp (rI0 fun i j => V.int (i + j)) (tVar 1) (tC (.int 1)))) (tC (.int 0))) (tC (.str "go")))) rfl scLPlain.nd
        (pi_range1 rfl T.range (pa_cons (pe_op op_sub (pe_callB call_len_seq (by rfl) T.len PySem.boot_len (pa_cons (pv 0) pa_nil)) pe_int) pa_nil))
        (blkOk_by (own := [("_law_k", 1)]) (N := nLPlain) (sc := defScope sLPlain) (by decide +kernel))
        (fun _ _ _ _ _ => pg_name (i := 1) scLPlain.nd rfl (.inl rfl)) (fun _ _ _ _ _ => pts_nil)
        (fun _ _ _ _ _ => pe_and (pe_cmpR op_eq (pe_ix ix_tup (pe_ix ix_list (pv 0) (pv 1) (fun _ _ => rfl)) pe_int (fun _ _ => rfl)) pe_str (nomark _)) (pe_one (pe_cmpR op_eq (pe_ix ix_tup (pe_ix ix_list (pv 0) (pe_op op_add (pv 1) pe_int) (fun _ _ => rfl)) pe_int (fun _ _ => rfl)) pe_str (nomark _))))) pa_nil)))), ?_⟩
    obtain ⟨a, xs, rfl, ha, hl, hx⟩ := he.items
    refine ⟨_, rfl, a, xs, rfl, .inl (SqL.of ha), _, _, rfl, rfl, _, rfl, by omega, by omega, fun D nD => ?_⟩
    rw [hl]
    have hn : ((es.length : Int) - 1).toNat = es.length - 1 := by omega
    rw [hn]
    have sD := same_upd (o := .lst []) nD
    refine lc_range (n := es.length - 1) (fun i H' => Same H H' ∧ H' D = some (.lst (((List.range i).map (badAt es)).map V.bl))) ⟨sD, upd_same⟩ ?_ ?_
    · rintro i Ha hi ⟨sm, hD⟩
      have hi0 : i < xs.length := by omega
      have hi1 : i + 1 < xs.length := by omega
      obtain ⟨e0, r0, g0, j0, k0⟩ := hx i _ (List.getElem?_eq_getElem hi0)
      obtain ⟨e1, r1, g1, j1, k1⟩ := hx (i + 1) _ (List.getElem?_eq_getElem hi1)
      have a0 : atI xs (0 + (i : Int)) = some (V.ref r0) := by
        rw [Int.zero_add]
        exact atI_nat (by rw [List.getElem?_eq_getElem hi0, j0])
      have a1 : atI xs (0 + (i : Int) + 1) = some (V.ref r1) := by
        rw [Int.zero_add]
        exact atI_nat (j := i + 1) (by rw [List.getElem?_eq_getElem hi1, j1])
      have hs : SqL K Ha a xs := SqL.of (sm _ _ ha)
      have t0 : SqT K Ha r0 [.str e0.1, .str e0.2] := SqT.of (sm _ _ k0)
      have t1 : SqT K Ha r1 [.str e1.1, .str e1.2] := SqT.of (sm _ _ k1)
      have w0 := wordAt_of g0
      have w1 := wordAt_of g1
      have lenD : (((List.range i).map (badAt es)).map V.bl).length < sizeLine := by
        rw [List.length_map, List.length_map, List.length_range]
        exact Nat.lt_of_le_of_lt (show i ≤ 120 by omega) (by decide)
      have stp : ∀ v : Bool, badAt es i = v → Same H (upd Ha D (.lst (((List.range i).map (badAt es)).map V.bl ++ [V.bl v]))) ∧ upd Ha D (.lst (((List.range i).map (badAt es)).map V.bl ++ [V.bl v])) D = some (.lst (((List.range (i + 1)).map (badAt es)).map V.bl)) := fun v hv => by
        refine ⟨fun b' o' h => ?_, ?_⟩
        · rw [upd_ne (ne_of_none h nD)]
          exact sm _ _ h
        · rw [upd_same, List.range_succ, List.map_append, List.map_append, ← hv]
          rfl
      refine ⟨rfl, ?_⟩
      unfold tYes
      dsimp only
      rw [if_pos rfl]
      refine ⟨_, rfl, _, rfl, a, xs, _, _, rfl, rfl, hs, a0, r0, _, _, _, rfl, rfl, t0, atI_nat (j := 0) rfl, rfl, _, rfl, ?_⟩
      rw [show decide (V.str e0.1 = V.str "come") = decide (e0.1 = coW) from decW _ _]
      by_cases c : e0.1 = coW
      · rw [decide_eq_true c]
        refine iteT ⟨_, rfl, _, rfl, _, _, rfl, rfl, a, xs, _, _, rfl, rfl, hs, a1, r1, _, _, _, rfl, rfl, t1, atI_nat (j := 0) rfl, rfl, _, hD, lenD, ?_⟩
        exact stp _ (by unfold badAt; rw [w0, w1, decide_eq_true c, Bool.true_and]; exact (decW _ _).symm)
      · rw [decide_eq_false c]
        refine iteF ⟨_, hD, lenD, ?_⟩
        exact stp _ (by unfold badAt; rw [w0, decide_eq_false c, Bool.false_and])
    · rintro H2 ⟨s2, hD⟩
      refine ⟨D, _, rfl, SqL.of hD, _, rfl, ?_⟩
      rw [← plain_any]
      exact z H2 s2
end
end K17
namespace XR
open PySem L2
theorem tup_but {K : PySem.W.Frag} {H H' : Hp} {a r : Addr} {xs : List V} (h : SqT K H r xs) (p : PotAt H a) (b : But a H H') : SqT K H' r xs := by
  obtain ⟨p1, p2, hp, _⟩ := p
  rcases h with (h | ⟨q, h⟩) | h
  · exact .inl (.inl (b _ _ h (fun e => by rw [e, hp] at h; cases h)))
  · exact .inl (.inr ⟨q, b _ _ h (fun e => by rw [e, hp] at h; cases h)⟩)
  · exact .inr h
theorem EsAt.but {a : Addr} {H H' : Hp} {rs : List Addr} {es : List Ent} (b : But a H H') (hp : PotAt H a) (h : EsAt H rs es) : EsAt H' rs es :=
  ⟨h.1, fun i e he => let ⟨r, h1, h2⟩ := h.2 i e he; ⟨r, h1, b _ _ h2 (fun e => by obtain ⟨p, q, hp, _⟩ := hp; rw [e, hp] at h2; cases h2)⟩⟩
theorem EsL.but {a : Addr} {H H' : Hp} {x : V} {es : List Ent} (b : But a H H') (hp : PotAt H a) (n : ∀ p, x = .ref p → p ≠ a) (h : EsL H x es) : EsL H' x es := by
  obtain ⟨p, rs, rfl, h1, h2⟩ := h
  exact ⟨p, rs, rfl, b _ _ h1 (n p rfl), h2.but b hp⟩
def fourL : List Str := ["a", "b", "", "a b"]
/-- what the law draws -/
structure Drawn (es : List Ent) : Prop where
  wd : Wds es
  ln : ∀ e ∈ es, e.2 ∈ fourL
  le : es.length ≤ 20
theorem four_line : ∀ s ∈ fourL, isLine (.str s) = true ∧ PyData.strOk s = true := by decide +kernel
theorem Drawn.scr {es : List Ent} (h : Drawn es) : IsScr es := by
  have a : ∀ (p : Ent → Bool) (l : List Ent), ((l.filter p).map (·.2)).length ≤ l.length := fun p l => by rw [List.length_map]; exact List.length_filter_le _ _
  exact ⟨h.wd, fun e he => (four_line _ (h.ln e he)).1, Nat.le_trans (a _ _) (Nat.le_trans h.le (by decide)), Nat.le_trans (a _ _) (Nat.le_trans h.le (by decide))⟩
theorem word_ok {w : Str} (h : w = kpW ∨ w = goW ∨ w = coW) : PyData.strOk w = true := by
  rcases h with rfl | rfl | rfl <;> decide +kernel
theorem Drawn.ok {es : List Ent} (h : Drawn es) : OkE es := fun e he => ⟨word_ok (h.wd e he), (four_line _ (h.ln e he)).2⟩
theorem Drawn.snoc {es : List Ent} {e : Ent} (h : Drawn es) (h1 : e.1 = kpW ∨ e.1 = goW ∨ e.1 = coW) (h2 : e.2 ∈ fourL) (h3 : es.length < 20) : Drawn (es ++ [e]) := by
  refine ⟨fun x hx => ?_, fun x hx => ?_, by rw [List.length_append]; exact h3⟩
  · rcases List.mem_append.mp hx with q | q
    · exact h.wd x q
    · rw [List.mem_singleton.mp q]; exact h1
  · rcases List.mem_append.mp hx with q | q
    · exact h.ln x q
    · rw [List.mem_singleton.mp q]; exact h2
theorem Drawn.nil : Drawn [] := ⟨fun e h => (nomatch h), fun e h => (nomatch h), by decide⟩
def spLEnt : Sp := fun vs H Q _ => ∃ a, vs = [.ref a] ∧ PotAt H a ∧ ∀ p es H', PotAt H' a → But a H H' → H p = none → EsL H' (.ref p) es → Drawn es → Q (.ref p) H'
end XR
namespace K17
open PySem L2 XR
section
variable {P : Program} {w : World} {K : PySem.W.Frag} {mg : Str → Option Value} {base : Heap}
abbrev sLEnt : Stmt := top 48
abbrev nLEnt : List Str := ["_law_pot_here", "_law_size", "_law_found", "_law_turn"]
theorem scLEnt : FnScope nLEnt ["_law_pot_here"] (defScope sLEnt) := ⟨rfl, rfl, rfl, by decide +kernel, rfl, by decide +kernel, by decide +kernel⟩
theorem ok_lEnt {f fD fP : Addr} {fd fdD fdP : FuncData} (F : Fun K "_law_entries" "_law_entries" sLEnt f fd) (T : Blt mg) (D : Draws P w K mg base fD fP fdD fdP) : FnOk P w K mg base CX0 3 f fd ["_law_pot_here"] spLEnt := by
  refine F.ok scLEnt (fun vs H Q E h => ?_) (fun cdv A outer s H vs Q E hr h => ?_)
  · obtain ⟨a, rfl, _⟩ := h
    rfl
  · obtain ⟨a, rfl, hpot, z⟩ := h
    refine ⟨_, pss_cons (ps_par (i := 1) (j := 2) rfl scLEnt.nd rfl rfl (by decide) rfl rfl (pa_cons (pe_call D.GP hr rfl D.mP D.FP.kp D.bP .nil pass0 (pa_cons (pv 0) (pa_cons (pe_lst (pa_cons pe_int (pa_cons pe_int (pa_cons pe_int pa_nil)))) pa_nil))) (pa_cons (pe_lst pa_nil) pa_nil)) rfl)
      (pss_cons (ps_for PassesOwn.never rfl (pi_range1 rfl T.range (pa_cons (pe_call D.GD (hr.mono (by decide)) rfl D.mD D.FD.kp D.bD .nil pass0 (pa_cons (pv 0) (pa_cons (pe_op op_add (pv 1) pe_int) pa_nil))) pa_nil)) (pg_name (i := 3) scLEnt.nd rfl (.inl rfl))
        (pss_one (ps_expr (pe_bm PySem.F.plainAttrs_list PySem.F.slot_list_append PySem.F.type_list_append mt_append (pv 2) (pa_cons (pe_tup
          (pa_cons (pe_call D.GP hr rfl D.mP D.FP.kp D.bP .nil pass0 (pa_cons (pv 0) (pa_cons (pe_lst (pa_cons pe_str (pa_cons pe_str (pa_cons pe_str pa_nil)))) pa_nil)))
          (pa_cons (pe_call D.GP hr rfl D.mP D.FP.kp D.bP .nil pass0 (pa_cons (pv 0) (pa_cons (pe_lst (pa_cons pe_str (pa_cons pe_str (pa_cons pe_str (pa_cons pe_str pa_nil))))) pa_nil))) pa_nil))) pa_nil)))))
      (pss_one (ps_ret (pv 2)))), ?_⟩
    refine ⟨_, rfl, ll20 (by show 3 ≤ 20; decide), fun q nq => ?_⟩
    have sq := same_upd (o := .lst [V.int 4, V.int 9, V.int 20]) nq
    refine ⟨a, q, _, rfl, hpot.same sq, upd_same, hpot.ne nq, by show 0 < 3; decide, by show 3 ≤ 1000; decide, fun x H1 hx hp1 b1 => ?_⟩
    obtain ⟨sz, rfl, z1, z2⟩ : ∃ sz : Int, x = .int sz ∧ 0 ≤ sz ∧ sz ≤ 20 := by
      simp only [List.mem_cons, List.not_mem_nil, or_false] at hx
      rcases hx with rfl | rfl | rfl
      · exact ⟨_, rfl, by decide, by decide⟩
      · exact ⟨_, rfl, by decide, by decide⟩
      · exact ⟨_, rfl, by decide, by decide⟩
    have B1 : But a H H1 := (Same.but sq).trans b1
    refine ⟨ll20 (by decide), fun pf nf => ⟨_, _, rfl, ?_⟩⟩
    have sf := same_upd (o := .lst []) nf
    have hf := upd_same (H := H1) (a := pf) (o := .lst [])
    have af := hp1.ne nf
    have hp2 := hp1.same sf
    have B2 := B1.same sf
    have npf : H pf = none := by
      cases e : H pf with
      | none => rfl
      | some o => rw [B1 _ _ e af.symm] at nf; cases nf
    generalize upd H1 pf (.lst []) = H2 at hf hp2 B2 ⊢
    refine ⟨_, rfl, _, rfl, _, _, rfl, rfl, a, sz + 1, rfl, hp2, by omega, by omega, fun r H3 r0 r1 hp3 b3 => ?_⟩
    have hf3 := b3 _ _ hf af.symm
    refine ⟨r, rfl, by omega, by omega, ?_⟩
    refine for_range (n := r.toNat) (fun i σ H' => PotAt H' a ∧ But a H H' ∧ (∃ x3, σ = [some (V.ref a), some (V.int sz), some (V.ref pf), x3]) ∧ ∃ rs es, H' pf = some (.lst (refs rs)) ∧ EsAt H' rs es ∧ es.length = i ∧ Drawn es)
      ⟨hp3, B2.trans b3, ⟨_, rfl⟩, [], [], hf3, .nil, rfl, .nil⟩ ?_ ?_
    · rintro i σ Ha hi ⟨hp, hb, ⟨x3, rfl⟩, rs, es, hfa, he, hel, hdr⟩
      refine ⟨_, rfl, .inl ⟨rfl, _, SqL.of hfa⟩, _, rfl, ll20 (by show 3 ≤ 20; decide), fun q1 n1 => ?_⟩
      have s1 := same_upd (o := .lst [V.str "keep", V.str "go", V.str "come"]) n1
      refine ⟨a, q1, _, rfl, hp.same s1, upd_same, hp.ne n1, by show 0 < 3; decide, by show 3 ≤ 1000; decide, fun x Hb hx hpb bb => ?_⟩
      obtain ⟨w1, rfl, hw1⟩ : ∃ w1 : Str, x = .str w1 ∧ (w1 = kpW ∨ w1 = goW ∨ w1 = coW) := by
        simp only [List.mem_cons, List.not_mem_nil, or_false] at hx
        rcases hx with rfl | rfl | rfl
        · exact ⟨_, rfl, .inl rfl⟩
        · exact ⟨_, rfl, .inr (.inl rfl)⟩
        · exact ⟨_, rfl, .inr (.inr rfl)⟩
      have C1 : But a Ha Hb := (Same.but s1).trans bb
      refine ⟨_, rfl, ll20 (by show 4 ≤ 20; decide), fun q2 n2 => ?_⟩
      have s2 := same_upd (o := .lst [V.str "a", V.str "b", V.str "", V.str "a b"]) n2
      refine ⟨a, q2, _, rfl, hpb.same s2, upd_same, hpb.ne n2, by show 0 < 4; decide, by show 4 ≤ 1000; decide, fun y Hc hy hpc bc => ?_⟩
      obtain ⟨l1, rfl, hl1⟩ : ∃ l1 : Str, y = .str l1 ∧ l1 ∈ fourL := by
        simp only [List.mem_cons, List.not_mem_nil, or_false] at hy
        rcases hy with rfl | rfl | rfl | rfl
        · exact ⟨_, rfl, by decide⟩
        · exact ⟨_, rfl, by decide⟩
        · exact ⟨_, rfl, by decide⟩
        · exact ⟨_, rfl, by decide⟩
      have C2 : But a Ha Hc := C1.trans ((Same.but s2).trans bc)
      have hfc := C2 _ _ hfa af.symm
      have hec := he.but C2 hp
      refine ⟨ll20 (by show 2 ≤ 20; decide), fun u nu => ?_⟩
      obtain ⟨k1, k2, k3⟩ := esStep (e := (w1, l1)) hfc hec nu
      refine ⟨pf, _, _, rfl, rfl, k1, ?_, ?_⟩
      · unfold refs
        rw [List.length_map, he.1]
        exact Nat.lt_of_le_of_lt hdr.le (by decide)
      · refine ⟨(hpc.same (same_upd nu)).upd af, fun b' o' h n => ?_, ⟨_, rfl⟩, rs ++ [u], es ++ [(w1, l1)], k3, k2, by rw [List.length_append, hel]; rfl, hdr.snoc hw1 hl1 (by omega)⟩
        rw [upd_ne (ne_of_none h npf)]
        exact same_upd nu _ _ (C2 _ _ (hb _ _ h n) n)
    · rintro σ Ha ⟨hp, hb, ⟨x3, rfl⟩, rs, es, hfa, he, hel, hdr⟩
      exact ⟨_, rfl, z pf es Ha hp hb npf ⟨pf, rs, rfl, hfa, he⟩ hdr⟩
end
end K17
namespace XR
open PySem L2
def turn1 {α : Type} : List α → List α → List α
  | [], [a] => [a]
  | _, _ => []
theorem turn1_rel {vs : List V} {us : List Value} {zs : List V} {ws : List Value} (r : Vals vs us) (t : Vals zs ws) : Vals (turn1 vs zs) (turn1 us ws) := by
  cases r with
  | cons _ _ => exact .nil
  | nil =>
    cases t with
    | nil => exact .nil
    | cons a t => cases t with
      | nil => exact .cons a .nil
      | cons b t => exact .nil
theorem turn1_len {us ws : List Value} (h : (turn1 us ws).length = 1) : ∃ a, us = [] ∧ ws = [a] := by
  unfold turn1 at h
  split at h
  · exact ⟨_, rfl, rfl⟩
  · cases h
section
variable {K : PySem.W.Frag} {x qual : Str} {st : Stmt} {f : Addr} {fd : FuncData} {p1 : Str}
theorem kb1 (F : Fun K x qual st f fd) (h : ∀ (kV doc pm : Value) (an : Option Addr) (cdv ct a : Value), bindArgs (PySem.W.fnOf x qual (defArgs st) (defBody st) (defScope st) .none kV doc pm an cdv ct) ⟨[], [(p1, a)]⟩ = pure [(p1, a)]) :
    KBinds K fd [p1] [p1] turn1 turn1 := by
  obtain ⟨oc, od, kV, doc, pm, an, cdv, ct, osl, rfl, lk, hcd⟩ := F.ex
  refine ⟨fun s us ws _ hl => ?_, turn1_rel⟩
  obtain ⟨a, rfl, rfl⟩ := turn1_len hl
  exact .of_eq (h kV doc pm an cdv ct a)
end
def turn2 {α : Type} : List α → List α → List α
  | [], [a, b] => [b, a]
  | _, _ => []
theorem turn2_rel {vs : List V} {us : List Value} {zs : List V} {ws : List Value} (r : Vals vs us) (t : Vals zs ws) : Vals (turn2 vs zs) (turn2 us ws) := by
  cases r with
  | cons _ _ => exact .nil
  | nil =>
    cases t with
    | nil => exact .nil
    | cons a t => cases t with
      | nil => exact .nil
      | cons b t => cases t with
        | nil => exact .cons b (.cons a .nil)
        | cons d t => exact .nil
theorem turn2_len {us ws : List Value} (h : (turn2 us ws).length = 2) : ∃ a b, us = [] ∧ ws = [a, b] := by
  unfold turn2 at h
  split at h
  · exact ⟨_, _, rfl, rfl⟩
  · cases h
section
variable {K : PySem.W.Frag} {x qual : Str} {st : Stmt} {f : Addr} {fd : FuncData} {p1 p2 : Str}
theorem kb2 (F : Fun K x qual st f fd) (h : ∀ (kV doc pm : Value) (an : Option Addr) (cdv ct a b : Value), bindArgs (PySem.W.fnOf x qual (defArgs st) (defBody st) (defScope st) .none kV doc pm an cdv ct) ⟨[], [(p2, a), (p1, b)]⟩ = pure [(p1, b), (p2, a)]) :
    KBinds K fd [p1, p2] [p2, p1] turn2 turn2 := by
  obtain ⟨oc, od, kV, doc, pm, an, cdv, ct, osl, rfl, lk, hcd⟩ := F.ex
  refine ⟨fun s us ws _ hl => ?_, turn2_rel⟩
  obtain ⟨a, b, rfl, rfl⟩ := turn2_len hl
  exact .of_eq (h kV doc pm an cdv ct a b)
end
theorem same_over {H0 H' : Hp} {l : Addr} {o : HO} (n : H0 l = none) (s : Same H0 H') : Same H0 (upd H' l o) := fun b u e => by
  rw [upd_ne (ne_of_none e n)]
  exact s _ _ e
theorem Shw.lineB {n k : Nat} {d : PyData} (h : Shw n k d) (hn : n ≤ 100000) : d.shown.length ≤ sizeLine := Nat.le_trans h.len (Nat.le_trans hn (by decide))
/-- one def of the text, all that a call wants -/
structure OneF (P : Program) (w : World) (K : PySem.W.Frag) (mg : Str → Option Value) (base : Heap) (x : Str) (st : Stmt) (k : Nat) (ps : List Str) (sp : Sp) (f : Addr) (fd : FuncData) : Prop where
  F : Fun K x x st f fd
  G : FnOk P w K mg base CX0 k f fd ps sp
  b : Binds K fd ps []
  m : mg x = some (.ref f)
def allS : List Str := words ++ fourL
theorem all_ok : ∀ s ∈ allS, isLine (.str s) = true ∧ PyData.strOk s = true ∧ (PyData.str s).showable = true ∧ (PyData.str s).shown.length ≤ 8 ∧ (PyData.str s).depth ≤ 1 := by decide +kernel
/-- a script of what a law draws -/
structure Fine (es : List Ent) : Prop where
  s : IsScr es
  a : ∀ e ∈ es, e.2 ∈ allS
theorem Fine.ok {es : List Ent} (h : Fine es) : OkE es := fun e he => ⟨word_ok (h.s.wd e he), (all_ok _ (h.a e he)).2.1⟩
theorem Drawn.fine {es : List Ent} (h : Drawn es) : Fine es := ⟨h.scr, fun e he => List.mem_append_right _ (h.ln e he)⟩
theorem Fine.turn {es : List Ent} (h : Fine es) : Fine (es.map turnE) := ⟨h.s.turn, fun e he => by
  obtain ⟨f, hf, rfl⟩ := List.mem_map.mp he
  exact h.a f hf⟩
def AllS (ss : List Str) : Prop := ∀ s ∈ ss, s ∈ allS
theorem Fine.old {es : List Ent} (h : Fine es) : AllS (oldL es) := fun s hs => by
  obtain ⟨e, he, rfl⟩ := in_oldL hs
  exact h.a e he
theorem Fine.new {es : List Ent} (h : Fine es) : AllS (newL es) := fun s hs => by
  obtain ⟨e, he, rfl⟩ := in_newL hs
  exact h.a e he
theorem AllS.lns {ss : List Str} (h : AllS ss) : Lns ss := fun s hs => (all_ok _ (h s hs)).1
theorem AllS.of {ss : List Str} (h : Wd ss) : AllS ss := fun s hs => List.mem_append_left _ (h s hs)
theorem fine_scr {ss1 ss2 : List Str} {ps : List (Nat × Nat)} (h : IsDf ss1 ss2 ps) (a1 : AllS ss1) (a2 : AllS ss2) (k1 : ss1.length ≤ 60) (k2 : ss2.length ≤ 60) : Fine (scriptL ss1 ss2 ps) :=
  ⟨scr_is h a1.lns a2.lns k1 k2, fun e he => by
    rcases (scr_in ss1 ss2 ps 0 0 (dfFrom_of h) e he).2 with q | q
    · exact a1 _ q
    · exact a2 _ q⟩
theorem shw_word {w : Str} (h : w = kpW ∨ w = goW ∨ w = coW) : Shw 8 1 (.str w) := by
  rcases h with rfl | rfl | rfl <;> exact ⟨by decide +kernel, by decide +kernel, by decide +kernel⟩
theorem shw_lsA {ss : List Str} (w : AllS ss) (l : ss.length ≤ 60) : Shw 602 2 (lsD ss) := by
  refine Shw.list (n := 8) (k := 1) (m := 60) (fun d hd => ?_) (by rw [List.length_map]; exact l)
  obtain ⟨s, hs, rfl⟩ := List.mem_map.mp hd
  obtain ⟨_, _, a, b, c⟩ := all_ok s (w s hs)
  exact ⟨a, b, c⟩
theorem Fine.shw {es : List Ent} (h : Fine es) : Shw 3002 3 (enD true es) := by
  refine Shw.list (n := 23) (k := 2) (m := 120) (fun d hd => ?_) (by rw [List.length_map]; exact h.s.len)
  obtain ⟨e, he, rfl⟩ := List.mem_map.mp hd
  refine Shw.tuple (n := 8) (k := 1) (m := 2) (fun d hd => ?_) (Nat.le_refl 2)
  simp only [List.mem_cons, List.not_mem_nil, or_false] at hd
  rcases hd with rfl | rfl
  · exact shw_word (h.s.wd e he)
  · obtain ⟨_, _, a, b, c⟩ := all_ok _ (h.a e he)
    exact ⟨a, b, c⟩
def txsD (es : List Ent) : PyData := .tuple [lsD (oldL es), lsD (newL es)]
theorem Fine.shwT {es : List Ent} (h : Fine es) : Shw 1211 3 (txsD es) := by
  refine Shw.tuple (n := 602) (k := 2) (m := 2) (fun d hd => ?_) (Nat.le_refl 2)
  simp only [List.mem_cons, List.not_mem_nil, or_false] at hd
  rcases hd with rfl | rfl
  · exact shw_lsA h.old h.s.o
  · exact shw_lsA h.new h.s.n
theorem Fine.shwP {es : List Ent} (h : Fine es) : Shw 783 3 (dfD (pairsFrom 0 0 es)) := shw_df (isDf_from h.s.df).1 h.s.o h.s.n
/-- what is told of a script -/
def toldD (es : List Ent) : PyData := .list [txsD es, dfD (pairsFrom 0 0 es), .bool (plainB es), enD true (es.map turnE)]
theorem shw_bool (b : Bool) : Shw 8 1 (.bool b) := by
  cases b <;> exact ⟨by decide +kernel, by decide +kernel, by decide +kernel⟩
theorem Fine.shwD {es : List Ent} (h : Fine es) : Shw 12018 4 (toldD es) := by
  refine Shw.list (n := 3002) (k := 3) (m := 4) (fun d hd => ?_) (Nat.le_refl 4)
  simp only [List.mem_cons, List.not_mem_nil, or_false] at hd
  rcases hd with rfl | rfl | rfl | rfl
  · exact h.shwT.le (by decide) (by decide)
  · exact h.shwP.le (by decide) (by decide)
  · exact (shw_bool _).le (by decide) (by decide)
  · exact h.turn.shw
/-- two texts, the other way about -/
def backD (es : List Ent) : PyData := .list [lsD (newL es), lsD (oldL es)]
theorem Fine.shwB {es : List Ent} (h : Fine es) : Shw 1210 3 (backD es) := by
  refine Shw.list (n := 602) (k := 2) (m := 2) (fun d hd => ?_) (Nat.le_refl 2)
  simp only [List.mem_cons, List.not_mem_nil, or_false] at hd
  rcases hd with rfl | rfl
  · exact shw_lsA h.new h.s.n
  · exact shw_lsA h.old h.s.o
/-- texts and pairs -/
def tpD (es : List Ent) : PyData := .list [txsD es, dfD (pairsFrom 0 0 es)]
theorem Fine.shwTP {es : List Ent} (h : Fine es) : Shw 2428 4 (tpD es) := by
  refine Shw.list (n := 1211) (k := 3) (m := 2) (fun d hd => ?_) (Nat.le_refl 2)
  simp only [List.mem_cons, List.not_mem_nil, or_false] at hd
  rcases hd with rfl | rfl
  · exact h.shwT
  · exact h.shwP.le (by decide) (by decide)
theorem dq_ls {K : PySem.W.Frag} {H : Hp} {p : Addr} {ss : List Str} (h : H p = some (.lst (ss.map V.str))) : Dq K H (.ref p) (lsD ss) := .lst (SqL.of h) (dqStrs ss)
theorem dq_txs {K : PySem.W.Frag} {H : Hp} {t p1 p2 : Addr} {es : List Ent} (h : H t = some (.tup [.ref p1, .ref p2])) (h1 : H p1 = some (.lst ((oldL es).map V.str))) (h2 : H p2 = some (.lst ((newL es).map V.str))) : Dq K H (.ref t) (txsD es) :=
  .tup (.inl (.inl h)) (.cons (dq_ls h1) (.cons (dq_ls h2) .nil))
def spLER (K : PySem.W.Frag) : Sp := fun vs H Q _ => ∃ (x : V) (es : List Ent), vs = [x] ∧ EsL H x es ∧ Fine es ∧ ∀ H', Same H H' → Q (.bl true) H'
end XR
namespace K17
open PySem L2 XR
section
variable {P : Program} {w : World} {K : PySem.W.Frag} {mg : Str → Option Value} {base : Heap}
abbrev sLER : Stmt := top 49
abbrev nLER : List Str := ["_law_entries_now", "_law_texts_here", "_law_pairs_here", "_law_shown", "_law_turn", "_law_told", "_law_made", "_law_back", "_law_least"]
theorem scLER : FnScope nLER ["_law_entries_now"] (defScope sLER) := ⟨rfl, rfl, rfl, by decide +kernel, rfl, by decide +kernel, by decide +kernel⟩
theorem ok_lER {f fT fD fP fU fA fI fS fLT fLP fLI fLU : Addr} {fd fdT fdD fdP fdU fdA fdI fdS fdLT fdLP fdLI fdLU : FuncData} (F : Fun K "_law_entries_right" "_law_entries_right" sLER f fd) (T : Blt mg)
    (FT : OneF P w K mg base "texts_of" sTexts 5 ["entries"] (spTexts K) fT fdT) (kT : KBinds K fdT ["entries"] ["entries"] turn1 turn1)
    (FD : OneF P w K mg base "diff_of" sDiffOf 5 ["entries"] (spDiffOf K) fD fdD) (kD : KBinds K fdD ["entries"] ["entries"] turn1 turn1)
    (FP : OneF P w K mg base "is_plain" sPlain 7 ["entries"] (spPlain K) fP fdP) (kP : KBinds K fdP ["entries"] ["entries"] turn1 turn1)
    (FU : OneF P w K mg base "turned_script" sTurnS 5 ["entries"] (spTurnS K) fU fdU) (kU : KBinds K fdU ["entries"] ["entries"] turn1 turn1)
    (FA : OneF P w K mg base "applied" sApp 7 ["old", "entries"] (spApp K) fA fdA) (kA : KBinds K fdA ["old", "entries"] ["entries", "old"] turn2 turn2)
    (FI : OneF P w K mg base "is_script" sIsScr 4 ["value"] (spIsScr K) fI fdI)
    (FS : OneF P w K mg base "script_of" sScrOf 6 ["old", "new", "diff"] (spScrOf K) fS fdS)
    (LT : OneF P w K mg base "_law_texts" sLTexts 1 ["_law_entries_now"] (spTexts K) fLT fdLT)
    (LP : OneF P w K mg base "_law_pairs" sLPairs 1 ["_law_entries_now"] (spDiffOf K) fLP fdLP)
    (LI : OneF P w K mg base "_law_is_plain" sLPlain 1 ["_law_entries_now"] (spLPlain K) fLI fdLI)
    (LU : OneF P w K mg base "_law_turned" sLTurn 1 ["_law_entries_now"] (spTurnS K) fLU fdLU) : FnG P w K mg base 8 f fd ["_law_entries_now"] (spLER K) := by
  refine okG F scLER (fun vs H Q E h => ?_) (fun cdv A outer s H vs Q E hr hg h => ?_)
  · obtain ⟨x, es, rfl, _⟩ := h
    rfl
  · obtain ⟨x, es, rfl, he, hf, z⟩ := h
    have hr1 := hr.mono (show 1 ≤ 7 by decide)
    have hr4 := hr.mono (show 4 ≤ 7 by decide)
    have hr5 := hr.mono (show 5 ≤ 7 by decide)
    have hr6 := hr.mono (show 6 ≤ 7 by decide)
    refine ⟨_, pss_cons (ps_par (i := 1) (j := 2) rfl scLER.nd rfl rfl (by decide) rfl rfl (pa_cons (pe_call LT.G hr1 rfl LT.m LT.F.kp LT.b .nil pass0 (pa_cons (pv 0) pa_nil)) (pa_cons (pe_call LP.G hr1 rfl LP.m LP.F.kp LP.b .nil pass0 (pa_cons (pv 0) pa_nil)) pa_nil)) rfl)
      (pss_cons (ps_set (i := 3) scLER.nd rfl (.inl rfl) (pe_callB (call_reprQ hg hr.units) (by rfl) (T.all "repr" (by decide)) (by decide +kernel) (pa_cons (pv 0) pa_nil)))
      (pss_cons (ps_for PassesOwn.never rfl (pi_range1 rfl T.range (pa_cons pe_int pa_nil)) (pg_name (i := 4) scLER.nd rfl (.inl rfl))
        (pss_cons (ps_set (i := 5) scLER.nd rfl (.inl rfl) (pe_lst (pa_cons (pe_call FT.G hr5 rfl FT.m FT.F.kp FT.b .nil pass0 (pa_cons (pv 0) pa_nil))
            (pa_cons (pe_call FD.G hr5 rfl FD.m FD.F.kp FD.b .nil pass0 (pa_cons (pe_callTy call_tuple_of (by rfl) (T.all "tuple" (by decide)) (by decide +kernel) (pa_cons (pv 0) pa_nil)) pa_nil))
            (pa_cons (pe_call FP.G hr rfl FP.m FP.F.kp FP.b .nil pass0 (pa_cons (pv 0) pa_nil)) (pa_cons (pe_call FU.G hr5 rfl FU.m FU.F.kp FU.b .nil pass0 (pa_cons (pv 0) pa_nil)) pa_nil))))))
        (pss_cons (ps_if (pt_cmpR op_ne (pe_callB (call_reprQ hg hr.units) (by rfl) (T.all "repr" (by decide)) (by decide +kernel) (pa_cons (pv 5) pa_nil))
            (pe_callB (call_reprQ hg hr.units) (by rfl) (T.all "repr" (by decide)) (by decide +kernel) (pa_cons (pe_lst (pa_cons (pv 1) (pa_cons (pv 2) (pa_cons (pe_call LI.G hr1 rfl LI.m LI.F.kp LI.b .nil pass0 (pa_cons (pv 0) pa_nil)) (pa_cons (pe_call LU.G hr1 rfl LU.m LU.F.kp LU.b .nil pass0 (pa_cons (pv 0) pa_nil)) pa_nil))))) pa_nil)) (nomark _)) (pss_one (ps_ret pe_bl)) pss_nil)
        (pss_cons (ps_expr (pe_bm PySem.F.plainAttrs_list PySem.F.slot_list_append PySem.F.type_list_append mt_append (pe_ix ix_tup (pe_ix ix_list (pv 5) pe_int (fun _ _ => rfl)) pe_int (fun _ _ => rfl)) (pa_cons pe_non pa_nil)))
        (pss_cons (ps_expr (pe_bm PySem.F.plainAttrs_list PySem.F.slot_list_append PySem.F.type_list_append mt_append (pe_ix ix_list (pv 5) pe_int (fun _ _ => rfl)) (pa_cons pe_non pa_nil)))
        (pss_one (ps_if (pt_cmpR op_ne (pe_callB (call_reprQ hg hr.units) (by rfl) (T.all "repr" (by decide)) (by decide +kernel) (pa_cons (pe_ix ix_tup (pe_ix ix_list (pv 5) pe_int (fun _ _ => rfl)) pe_int (fun _ _ => rfl)) pa_nil))
            (pe_callB (call_reprQ hg hr.units) (by rfl) (T.all "repr" (by decide)) (by decide +kernel) (pa_cons (pe_ix ix_tup (pv 1) pe_int (fun _ _ => rfl)) pa_nil)) (nomark _)) (pss_one (ps_ret pe_bl)) pss_nil)))))))
      (pss_cons (ps_par (i := 6) (j := 7) rfl scLER.nd rfl rfl (by decide) rfl rfl (pa_cons (pe_call FA.G hr rfl FA.m FA.F.kp FA.b .nil pass0 (pa_cons (pe_ix ix_tup (pv 1) pe_int (fun _ _ => rfl)) (pa_cons (pv 0) pa_nil)))
          (pa_cons (pe_call FA.G hr rfl FA.m FA.F.kp FA.b .nil pass0 (pa_cons (pe_ix ix_tup (pv 1) pe_int (fun _ _ => rfl)) (pa_cons (pe_call FU.G hr5 rfl FU.m FU.F.kp FU.b .nil pass0 (pa_cons (pv 0) pa_nil)) pa_nil))) pa_nil)) rfl)
      (pss_cons (ps_if (PW.pt (pw_or (pt_cmpR op_ne (pe_callB (call_reprQ hg hr.units) (by rfl) (T.all "repr" (by decide)) (by decide +kernel) (pa_cons (pe_lst (pa_cons (pv 6) (pa_cons (pv 7) pa_nil))) pa_nil))
            (pe_callB (call_reprQ hg hr.units) (by rfl) (T.all "repr" (by decide)) (by decide +kernel) (pa_cons (pe_lst (pa_cons (pe_ix ix_tup (pv 1) pe_int (fun _ _ => rfl)) (pa_cons (pe_ix ix_tup (pv 1) pe_int (fun _ _ => rfl)) pa_nil))) pa_nil)) (nomark _))
          (pw_or (pt_not (pt_val (pe_call FI.G hr4 rfl FI.m FI.F.kp FI.b .nil pass0 (pa_cons (pv 0) pa_nil))))
          (pw_or1 (pt_cmpR op_ne (pe_callB (call_reprQ hg hr.units) (by rfl) (T.all "repr" (by decide)) (by decide +kernel) (pa_cons (pv 0) pa_nil)) (pv 3) (nomark _)))))) (pss_one (ps_ret pe_bl)) pss_nil)
      (pss_cons (ps_expr (pe_bm PySem.F.plainAttrs_list PySem.F.slot_list_append PySem.F.type_list_append mt_append (pv 6) (pa_cons pe_non pa_nil)))
      (pss_cons (ps_set (i := 8) scLER.nd rfl (.inl rfl) (pe_call FS.G hr6 rfl FS.m FS.F.kp FS.b .nil pass0 (pa_cons (pe_ix ix_tup (pv 1) pe_int (fun _ _ => rfl)) (pa_cons (pe_ix ix_tup (pv 1) pe_int (fun _ _ => rfl)) (pa_cons (pv 2) pa_nil)))))
      (pss_cons (ps_if (pt_cmpR op_ne (pe_callB (call_reprQ hg hr.units) (by rfl) (T.all "repr" (by decide)) (by decide +kernel) (pa_cons (pe_callKw FA.G hr rfl FA.m FA.F.kp kA (fun σ => passP σ) (pk_cons (pe_callTy call_tuple_of (by rfl) (T.all "tuple" (by decide)) (by decide +kernel) (pa_cons (pv 0) pa_nil)) (pk_cons (pe_callTy call_tuple_of (by rfl) (T.all "tuple" (by decide)) (by decide +kernel) (pa_cons (pe_ix ix_tup (pv 1) pe_int (fun _ _ => rfl)) pa_nil)) pk_nil))) pa_nil))
          (pe_callB (call_reprQ hg hr.units) (by rfl) (T.all "repr" (by decide)) (by decide +kernel) (pa_cons (pe_ix ix_tup (pv 1) pe_int (fun _ _ => rfl)) pa_nil)) (nomark _)) (pss_one (ps_ret pe_bl)) pss_nil)
      (pss_cons (ps_if (pt_not (pt_val (pe_callKw FP.G hr rfl FP.m FP.F.kp kP (fun σ => passP σ) (pk_cons (pv 8) pk_nil)))) (pss_one (ps_ret pe_bl)) pss_nil)
      (pss_cons (ps_if (pt_cmpR op_ne (pe_callB (call_reprQ hg hr.units) (by rfl) (T.all "repr" (by decide)) (by decide +kernel) (pa_cons (pe_lst (pa_cons (pe_callKw FT.G hr5 rfl FT.m FT.F.kp kT (fun σ => passP σ) (pk_cons (pv 8) pk_nil)) (pa_cons (pe_callKw FD.G hr5 rfl FD.m FD.F.kp kD (fun σ => passP σ) (pk_cons (pv 8) pk_nil)) pa_nil))) pa_nil))
          (pe_callB (call_reprQ hg hr.units) (by rfl) (T.all "repr" (by decide)) (by decide +kernel) (pa_cons (pe_lst (pa_cons (pv 1) (pa_cons (pv 2) pa_nil))) pa_nil)) (nomark _)) (pss_one (ps_ret pe_bl)) pss_nil)
      (pss_cons (ps_if (pt_cmpR op_ne (pe_call FP.G hr rfl FP.m FP.F.kp FP.b .nil pass0 (pa_cons (pv 0) pa_nil)) (pe_cmpR (op_eqD hr.units) (pv 0) (pv 8) (nomark _)) (nomark _)) (pss_one (ps_ret pe_bl)) pss_nil)
      (pss_one (ps_ret (pe_cmpR op_eq (pe_callB (call_reprQ hg hr.units) (by rfl) (T.all "repr" (by decide)) (by decide +kernel) (pa_cons (pe_callKw FU.G hr5 rfl FU.m FU.F.kp kU (fun σ => passP σ) (pk_cons (pe_call FU.G hr5 rfl FU.m FU.F.kp FU.b .nil pass0 (pa_cons (pv 0) pa_nil)) pk_nil)) pa_nil)) (pv 3) (nomark _)))))))))))))), ?_⟩
    have hs := hf.s
    have ho := hf.ok
    have SE := hf.shw
    have ST := hf.shwD
    have SP := hf.shwTP
    have SB := hf.shwB
    have SN := shw_lsA hf.new hs.n
    obtain ⟨a, rs, rfl, ha, hes⟩ := id he
    refine ⟨_, rfl, _, true, es, rfl, he.v, hs, fun t0 p1 p2 H1 s1 n1 n2 n12 ht0 hp1 hp2 => ?_⟩
    refine ⟨_, rfl, _, true, es, rfl, (he.same s1).v, hs, fun u0 H2 s2 nu0 hu0 => ⟨_, _, rfl, ?_⟩⟩
    have s12 := s1.trans s2
    replace ht0 := s2 _ _ ht0
    replace hp1 := s2 _ _ hp1
    replace hp2 := s2 _ _ hp2
    refine ⟨_, rfl, _, enD true es, rfl, (he.same s12).v, SE.ok, SE.lineB (by decide), SE.low (by decide), ?_⟩
    refine ⟨2, rfl, by decide, by decide, ?_⟩
    refine for_range (n := 2) (fun i σ H' => Same H2 H' ∧ ∃ (y4 y5 y6 y7 y8 : Option V), σ = [some (V.ref a), some (V.ref t0), some (V.ref u0), some (V.str (enD true es).shown), y4, y5, y6, y7, y8]) ⟨fun _ _ h => h, _, _, _, _, _, rfl⟩ ?_ ?_
    · rintro i σ Hi hi ⟨si, y4, y5, y6, y7, y8, rfl⟩
      have sH := s12.trans si
      refine ⟨_, rfl, _, true, es, rfl, (he.same sH).v, hs, fun t1 q1 q2 Ha sa m1 m2 m12 ht1 hq1 hq2 => ?_⟩
      have sHa := sH.trans sa
      refine ⟨_, rfl, a, _, rfl, .inl ⟨SqL.of (sHa _ _ ha), fun v nv => ?_⟩⟩
      have sv := same_upd (o := .tup (refs rs)) nv
      have hv := upd_same (H := Ha) (a := v) (o := .tup (refs rs))
      have sHb := sHa.trans sv
      have sib := sa.trans sv
      replace ht1 := sv _ _ ht1
      replace hq1 := sv _ _ hq1
      replace hq2 := sv _ _ hq2
      generalize upd Ha v (.tup (refs rs)) = Hb at sv hv sHb sib ht1 hq1 hq2 ⊢
      have ev : EnV K Hb (.ref v) false es := .tup (SqT.of hv) (hes.same sHb).dq
      refine ⟨_, false, es, rfl, ev, hs, fun u1 Hc sc nu1 hu1 => ?_⟩
      have sHc := sHb.trans sc
      refine ⟨_, rfl, _, true, es, rfl, (he.same sHc).v, hs, ho, fun Hd sd => ?_⟩
      have sHd := sHc.trans sd
      have scd := sc.trans sd
      refine ⟨_, rfl, _, true, es, rfl, (he.same sHd).v, hs, fun l1 rl He se nl hl hrl => ⟨ll20 (by show 4 ≤ 20; decide), fun b nb => ?_⟩⟩
      have hq1d := scd _ _ hq1
      have hq2d := scd _ _ hq2
      have ht1d := scd _ _ ht1
      have l1q1 : q1 ≠ l1 := ne_of_none hq1d nl
      have l1q2 : q2 ≠ l1 := ne_of_none hq2d nl
      have l1t1 : t1 ≠ l1 := ne_of_none ht1d nl
      have bq1 : q1 ≠ b := ne_of_none (se _ _ hq1d) nb
      have bl1 : l1 ≠ b := ne_of_none hl nb
      have t1q1 : t1 ≠ q1 := fun e => by rw [e, hq1d] at ht1d; cases ht1d
      have sb := same_upd (o := .lst [V.ref t1, V.ref u1, V.bl (plainB es), V.ref l1]) nb
      have hb := upd_same (H := He) (a := b) (o := .lst [V.ref t1, V.ref u1, V.bl (plainB es), V.ref l1])
      have sdf := se.trans sb
      have sHf := sHd.trans sdf
      have nlH : Hi l1 = none := none_before (sib.trans scd) nl
      have sif := (sib.trans scd).trans sdf
      have hq1f := sdf _ _ hq1d
      have hq2f := sdf _ _ hq2d
      have ht1f := sdf _ _ ht1d
      have hu1f := (hu1.same sd).same sdf
      have hlf := sb _ _ hl
      have hrlf := hrl.same sb
      generalize upd He b (.lst [V.ref t1, V.ref u1, V.bl (plainB es), V.ref l1]) = Hf at sb hb sdf sHf sif hq1f hq2f ht1f hu1f hlf hrlf ⊢
      refine ⟨_, rfl, _, toldD es, rfl, .lst (SqL.of hb) (.cons (dq_txs ht1f hq1f hq2f) (.cons hu1f.v (.cons (.bl _) (.cons (.lst (SqL.of hlf) hrlf.dq) .nil)))), ST.ok, ST.lineB (by decide), ST.low (by decide), ?_⟩
      have sif2 := si.trans sif
      refine ⟨_, rfl, _, rfl, _, rfl, _, es, rfl, he.same sHf, hs.len, fun Hg sg => ?_⟩
      have sHg := sHf.trans sg
      refine ⟨_, rfl, _, true, es, rfl, (he.same sHg).v, hs, fun l2 rl2 Hh sh nl2 hl2 hrl2 => ⟨ll20 (by show 4 ≤ 20; decide), fun b2 nb2 => ?_⟩⟩
      have sfh := sg.trans sh
      have sb2 := same_upd (o := .lst [V.ref t0, V.ref u0, V.bl (plainB es), V.ref l2]) nb2
      have hb2 := upd_same (H := Hh) (a := b2) (o := .lst [V.ref t0, V.ref u0, V.bl (plainB es), V.ref l2])
      have sfk := sfh.trans sb2
      have hl2k := sb2 _ _ hl2
      have hrl2k := hrl2.same sb2
      generalize upd Hh b2 (.lst [V.ref t0, V.ref u0, V.bl (plainB es), V.ref l2]) = Hk at hb2 sfk hl2k hrl2k ⊢
      have s2k := sif2.trans sfk
      refine ⟨_, toldD es, rfl, .lst (SqL.of hb2) (.cons (dq_txs (s2k _ _ ht0) (s2k _ _ hp1) (s2k _ _ hp2)) (.cons (hu0.same s2k).v (.cons (.bl _) (.cons (.lst (SqL.of hl2k) hrl2k.dq) .nil)))), ST.ok, ST.lineB (by decide), ST.low (by decide), rfl, _, rfl, ?_⟩
      rw [decide_eq_true rfl]
      refine iteF ?_
      have hbk := sfk _ _ hb
      have ht1k := sfk _ _ ht1f
      have hq1k := sfk _ _ hq1f
      have hq2k := sfk _ _ hq2f
      have hlk := sfk _ _ hlf
      refine ⟨_, rfl, b, _, _, _, rfl, rfl, SqL.of hbk, atI_nat (j := 0) rfl, t1, _, _, _, rfl, rfl, SqT.of ht1k, atI_nat (j := 0) rfl, .inl ⟨rfl, _, SqL.of hq1k⟩, q1, _, _, rfl, rfl, hq1k, ?_, ?_⟩
      · rw [List.length_map]
        exact Nat.lt_of_le_of_lt hs.o (by decide)
      have sA : Same H2 (upd Hk q1 (.lst ((oldL es).map V.str ++ [V.non]))) := same_over (none_before si m1) s2k
      have kb : upd Hk q1 (.lst ((oldL es).map V.str ++ [V.non])) b = some (.lst [V.ref t1, V.ref u1, V.bl (plainB es), V.ref l1]) := by rw [upd_ne bq1.symm]; exact hbk
      have kt : upd Hk q1 (.lst ((oldL es).map V.str ++ [V.non])) t1 = some (.tup [V.ref q1, V.ref q2]) := by rw [upd_ne t1q1]; exact ht1k
      have kq : upd Hk q1 (.lst ((oldL es).map V.str ++ [V.non])) q2 = some (.lst ((newL es).map V.str)) := by rw [upd_ne m12.symm]; exact hq2k
      have kl : upd Hk q1 (.lst ((oldL es).map V.str ++ [V.non])) l1 = some (.lst (refs rl)) := by rw [upd_ne l1q1.symm]; exact hlk
      generalize upd Hk q1 (.lst ((oldL es).map V.str ++ [V.non])) = Hl at sA kb kt kq kl ⊢
      refine ⟨_, rfl, b, _, _, _, rfl, rfl, SqL.of kb, atI_nat (j := 3) rfl, .inl ⟨rfl, _, SqL.of kl⟩, l1, _, _, rfl, rfl, kl, ?_, ?_⟩
      · unfold refs
        rw [List.length_map, hrl.1, List.length_map]
        exact Nat.lt_of_le_of_lt hs.len (by decide)
      have sB : Same H2 (upd Hl l1 (.lst (refs rl ++ [V.non]))) := same_over (none_before si nlH) sA
      have jb : upd Hl l1 (.lst (refs rl ++ [V.non])) b = some (.lst [V.ref t1, V.ref u1, V.bl (plainB es), V.ref l1]) := by rw [upd_ne bl1.symm]; exact kb
      have jt : upd Hl l1 (.lst (refs rl ++ [V.non])) t1 = some (.tup [V.ref q1, V.ref q2]) := by rw [upd_ne l1t1]; exact kt
      have jq : upd Hl l1 (.lst (refs rl ++ [V.non])) q2 = some (.lst ((newL es).map V.str)) := by rw [upd_ne l1q2]; exact kq
      generalize upd Hl l1 (.lst (refs rl ++ [V.non])) = Hm at sB jb jt jq ⊢
      refine ⟨_, rfl, b, _, _, _, rfl, rfl, SqL.of jb, atI_nat (j := 0) rfl, t1, _, _, _, rfl, rfl, SqT.of jt, atI_nat (j := 1) rfl, _, lsD (newL es), rfl, dq_ls jq, SN.ok, SN.lineB (by decide), SN.low (by decide), ?_⟩
      refine ⟨_, rfl, t0, _, _, _, rfl, rfl, SqT.of (sB _ _ ht0), atI_nat (j := 1) rfl, _, lsD (newL es), rfl, dq_ls (sB _ _ hp2), SN.ok, SN.lineB (by decide), SN.low (by decide), rfl, _, rfl, ?_⟩
      rw [decide_eq_true rfl]
      exact iteF ⟨sB, _, _, _, _, _, rfl⟩
    · rintro σ H3 ⟨s3, y4, y5, y6, y7, y8, rfl⟩
      have sH := s12.trans s3
      have ht := s3 _ _ ht0
      have hpa := s3 _ _ hp1
      have hpb := s3 _ _ hp2
      have hu := hu0.same s3
      have heH := he.same sH
      have tx1 : TxV K H3 (.ref p1) (oldL es) := lst_textL (SqL.of hpa) hs.lo hs.o
      have tx2 : TxV K H3 (.ref p2) (newL es) := lst_textL (SqL.of hpb) hs.lnw hs.n
      have sH3 : Same H H3 := sH
      refine ⟨_, rfl, t0, _, _, _, rfl, rfl, SqT.of ht, atI_nat (j := 0) rfl, _, rfl, _, _, true, es, rfl, tx1, heH.v, hs, ho, fun lm H4 s4 nm hm => ?_⟩
      refine ⟨_, rfl, t0, _, _, _, rfl, rfl, SqT.of (s4 _ _ ht), atI_nat (j := 1) rfl, _, rfl, _, true, es, rfl, (heH.same s4).v, hs, fun lt rt H5 s5 nt hlt hrt => ?_⟩
      have s45 := s4.trans s5
      have htr := hf.turn
      have tx2' : TxV K H5 (.ref p2) (oldL (es.map turnE)) := by rw [turn_old hs.wd]; exact tx2.same s45
      refine ⟨_, _, true, es.map turnE, rfl, tx2', (EsL.v ⟨lt, rt, rfl, hlt, hrt⟩), htr.s, htr.ok, fun lb H6 s6 nlb hlb => ⟨_, _, rfl, ?_⟩⟩
      rw [turn_new hs.wd] at hlb
      have s46 := s45.trans s6
      have hm6 := (s5.trans s6) _ _ hm
      refine ⟨_, rfl, _, rfl, ll20 (by show 2 ≤ 20; decide), fun g ng => ?_⟩
      have sg := same_upd (o := .lst [V.ref lm, V.ref lb]) ng
      have hg' := upd_same (H := H6) (a := g) (o := .lst [V.ref lm, V.ref lb])
      have s47 := s46.trans sg
      have hm7 := sg _ _ hm6
      have hlb7 := sg _ _ hlb
      generalize upd H6 g (.lst [V.ref lm, V.ref lb]) = H7 at hg' s47 hm7 hlb7 ⊢
      refine ⟨_, backD es, rfl, .lst (SqL.of hg') (.cons (dq_ls hm7) (.cons (dq_ls hlb7) .nil)), SB.ok, SB.lineB (by decide), SB.low (by decide), ?_⟩
      refine ⟨_, rfl, t0, _, _, _, rfl, rfl, SqT.of (s47 _ _ ht), atI_nat (j := 1) rfl, _, rfl, t0, _, _, _, rfl, rfl, SqT.of (s47 _ _ ht), atI_nat (j := 0) rfl, ll20 (by show 2 ≤ 20; decide), fun g2 ng2 => ?_⟩
      have sg2 := same_upd (o := .lst [V.ref p2, V.ref p1]) ng2
      have hg2 := upd_same (H := H7) (a := g2) (o := .lst [V.ref p2, V.ref p1])
      have s48 := s47.trans sg2
      have hm8 := sg2 _ _ hm7
      generalize upd H7 g2 (.lst [V.ref p2, V.ref p1]) = H8 at hg2 s48 hm8 ⊢
      refine ⟨_, backD es, rfl, .lst (SqL.of hg2) (.cons (dq_ls (s48 _ _ hpb)) (.cons (dq_ls (s48 _ _ hpa)) .nil)), SB.ok, SB.lineB (by decide), SB.low (by decide), rfl, _, rfl, ?_⟩
      rw [decide_eq_true rfl]
      refine iteF ⟨_, rfl, _, true, es, rfl, (heH.same s48).v, hs, fun H9 s9 => ⟨_, rfl, iteF ?_⟩⟩
      have s49 := s48.trans s9
      have hm9 := s9 _ _ hm8
      refine ⟨_, rfl, _, enD true es, rfl, (heH.same s49).v, SE.ok, SE.lineB (by decide), SE.low (by decide), _, rfl, rfl, _, rfl, ?_⟩
      rw [decide_eq_true rfl]
      refine iteF ?_
      refine ⟨_, rfl, .inl ⟨rfl, _, SqL.of hm9⟩, lm, _, _, rfl, rfl, hm9, ?_, ?_⟩
      · rw [List.length_map]
        exact Nat.lt_of_le_of_lt hs.n (by decide)
      have sA : Same H3 (upd H9 lm (.lst ((newL es).map V.str ++ [V.non]))) := same_over nm s49
      generalize upd H9 lm (.lst ((newL es).map V.str ++ [V.non])) = G0 at sA ⊢
      clear s4 s5 s45 s6 s46 s47 s48 s9 s49 hm hm6 hm7 hm8 hm9 sg sg2
      have df := (isDf_from hs.df).1
      refine ⟨_, rfl, t0, _, _, _, rfl, rfl, SqT.of (sA _ _ ht), atI_nat (j := 0) rfl, _, rfl, t0, _, _, _, rfl, rfl, SqT.of (sA _ _ ht), atI_nat (j := 1) rfl, _, rfl, _, _, _, oldL es, newL es, pairsFrom 0 0 es, rfl, tx1.same sA, tx2.same sA, (hu.same sA).v, df, fun ll rl G1 g1 nl hl hrl => ?_⟩
      have hfs : Fine (scriptL (oldL es) (newL es) (pairsFrom 0 0 es)) := fine_scr df hf.old hf.new hs.o hs.n
      have dfr := dfFrom_of df
      have hold : oldL (scriptL (oldL es) (newL es) (pairsFrom 0 0 es)) = oldL es := scr_old _ _ _ _ _ dfr
      have hnew : newL (scriptL (oldL es) (newL es) (pairsFrom 0 0 es)) = newL es := scr_new _ _ _ _ _ dfr
      have hprs : pairsFrom 0 0 (scriptL (oldL es) (newL es) (pairsFrom 0 0 es)) = pairsFrom 0 0 es := scr_pairs _ _ _ _ _ dfr
      have hpl : plainB (scriptL (oldL es) (newL es) (pairsFrom 0 0 es)) = true := scr_plain _ _ _ _ _
      have heq := plain_iff hs.wd
      have hel : EsL G1 (.ref ll) (scriptL (oldL es) (newL es) (pairsFrom 0 0 es)) := ⟨ll, rl, rfl, hl, hrl⟩
      clear hl hrl dfr
      generalize scriptL (oldL es) (newL es) (pairsFrom 0 0 es) = sc at hfs hold hnew hprs hpl heq hel ⊢
      have sB := sA.trans g1
      refine ⟨_, rfl, a, _, rfl, .inl ⟨SqL.of ((sH3.trans sB) _ _ ha), fun v nv => ?_⟩⟩
      have sv := same_upd (o := .tup (refs rs)) nv
      have hv := upd_same (H := G1) (a := v) (o := .tup (refs rs))
      have g2 := sv
      have sC := sB.trans sv
      generalize upd G1 v (.tup (refs rs)) = G2 at hv sC g2 ⊢
      refine ⟨_, rfl, t0, _, _, _, rfl, rfl, SqT.of (sC _ _ ht), atI_nat (j := 0) rfl, p1, _, rfl, .inl ⟨SqL.of (sC _ _ hpa), fun v2 nv2 => ?_⟩⟩
      have sv2 := same_upd (o := .tup ((oldL es).map V.str)) nv2
      have hv2 := upd_same (H := G2) (a := v2) (o := .tup ((oldL es).map V.str))
      have g3 := g2.trans sv2
      have sD := sC.trans sv2
      have hv' := sv2 _ _ hv
      generalize upd G2 v2 (.tup ((oldL es).map V.str)) = G3 at hv2 g3 sD hv' ⊢
      have ev : EnV K G3 (.ref v) false es := .tup (SqT.of hv') (hes.same (sH3.trans sD)).dq
      have tv : TxV K G3 (.ref v2) (oldL es) := tup_textL (SqT.of hv2) hs.lo hs.o
      refine ⟨.ref v2, .ref v, false, es, rfl, tv, ev, hs, ho, fun lo G4 g4 no hlo => ?_⟩
      have g14 := g3.trans g4
      have sE := sB.trans g14
      refine ⟨_, lsD (newL es), rfl, dq_ls hlo, SN.ok, SN.lineB (by decide), SN.low (by decide), ?_⟩
      refine ⟨_, rfl, t0, _, _, _, rfl, rfl, SqT.of (sE _ _ ht), atI_nat (j := 1) rfl, _, lsD (newL es), rfl, dq_ls (sE _ _ hpb), SN.ok, SN.lineB (by decide), SN.low (by decide), rfl, _, rfl, ?_⟩
      rw [decide_eq_true rfl]
      refine iteF ?_
      refine ⟨_, rfl, .ref ll, true, sc, rfl, (hel.same g14).v, hfs.s, hfs.ok, fun G5 g5 => ⟨_, rfl, ?_⟩⟩
      rw [hpl]
      refine iteF ?_
      have g15 := g14.trans g5
      refine ⟨_, rfl, .ref ll, true, sc, rfl, (hel.same g15).v, hfs.s, fun t5 p5 p6 G6 g6 _ _ _ ht5 hp5 hp6 => ?_⟩
      have g16 := g15.trans g6
      refine ⟨_, rfl, .ref ll, true, sc, rfl, (hel.same g16).v, hfs.s, fun u5 G7 g7 _ hu5 => ⟨ll20 (by show 2 ≤ 20; decide), fun h5 nh5 => ?_⟩⟩
      rw [hold] at hp5
      rw [hnew] at hp6
      rw [hprs] at hu5
      have sh5 := same_upd (o := .lst [V.ref t5, V.ref u5]) nh5
      have hh5 := upd_same (H := G7) (a := h5) (o := .lst [V.ref t5, V.ref u5])
      have g78 := g7.trans sh5
      have ht5' := g78 _ _ ht5
      have hp5' := g78 _ _ hp5
      have hp6' := g78 _ _ hp6
      have hu5' := hu5.same sh5
      have g18 := g16.trans g78
      generalize upd G7 h5 (.lst [V.ref t5, V.ref u5]) = G8 at hh5 ht5' hp5' hp6' hu5' g18 ⊢
      refine ⟨_, tpD es, rfl, .lst (SqL.of hh5) (.cons (dq_txs ht5' hp5' hp6') (.cons hu5'.v .nil)), SP.ok, SP.lineB (by decide), SP.low (by decide), ?_⟩
      refine ⟨_, rfl, _, rfl, ll20 (by show 2 ≤ 20; decide), fun h6 nh6 => ?_⟩
      have sh6 := same_upd (o := .lst [V.ref t0, V.ref u0]) nh6
      have hh6 := upd_same (H := G8) (a := h6) (o := .lst [V.ref t0, V.ref u0])
      have g19 := g18.trans sh6
      generalize upd G8 h6 (.lst [V.ref t0, V.ref u0]) = G9 at hh6 g19 ⊢
      have sF := sB.trans g19
      refine ⟨_, tpD es, rfl, .lst (SqL.of hh6) (.cons (dq_txs (sF _ _ ht) (sF _ _ hpa) (sF _ _ hpb)) (.cons (hu.same sF).v .nil)), SP.ok, SP.lineB (by decide), SP.low (by decide), rfl, _, rfl, ?_⟩
      rw [decide_eq_true rfl]
      refine iteF ?_
      refine ⟨_, rfl, _, true, es, rfl, (heH.same sF).v, hs, ho, fun Ga ga => ?_⟩
      have g1a := g19.trans ga
      have sG := sB.trans g1a
      obtain ⟨ax, xs, ex, hax, lx, ix⟩ := ((heH.same sG).v (K := K)).items
      obtain ⟨ay, ys, ey, hay, ly, iy⟩ := ((hel.same g1a).v (K := K)).items
      have dx : Dp K Ga (.ref a) (.list (es.map entD)) := by rw [ex]; exact .lst hax (ents_dp lx ix)
      have dy : Dp K Ga (.ref ll) (.list (sc.map entD)) := by rw [ey]; exact .lst hay (ents_dp ly iy)
      refine ⟨_, rfl, _, rfl, .list (es.map entD), .list (sc.map entD), dx, dy, ents_shaped ho, ents_shaped hfs.ok, rfl, _, rfl, ?_⟩
      rw [show PyData.eqv (.list (es.map entD)) (.list (sc.map entD)) = PyData.eqvAll (es.map entD) (sc.map entD) from by simp [PyData.eqv], eqv_ents, ← heq, decide_eq_true rfl]
      refine iteF ?_
      refine ⟨_, rfl, _, true, es, rfl, (heH.same sG).v, hs, fun l7 r7 Gb gb n7 h7 e7 => ?_⟩
      refine ⟨_, true, es.map turnE, rfl, EsL.v ⟨l7, r7, rfl, h7, e7⟩, htr.s, fun l8 r8 Gc gc n8 h8 e8 => ?_⟩
      rw [turn_twice hs.wd] at e8
      refine ⟨_, enD true es, rfl, EsL.v ⟨l8, r8, rfl, h8, e8⟩, SE.ok, SE.lineB (by decide), SE.low (by decide), _, rfl, rfl, ?_⟩
      rw [decide_eq_true rfl]
      exact z Gc (sH3.trans (sG.trans (gb.trans gc)))
end
end K17
namespace XR
open PySem L2
def threeD (ss1 ss2 : List Str) (ps : List (Nat × Nat)) : PyData := .list [lsD ss1, lsD ss2, dfD ps]
theorem shw_three {ss1 ss2 : List Str} {ps : List (Nat × Nat)} (w1 : Wd ss1) (w2 : Wd ss2) (l1 : ss1.length ≤ 60) (l2 : ss2.length ≤ 60) (h : IsDf ss1 ss2 ps) : Shw 2357 4 (threeD ss1 ss2 ps) := by
  refine Shw.list (n := 783) (k := 3) (m := 3) (fun d hd => ?_) (Nat.le_refl 3)
  simp only [List.mem_cons, List.not_mem_nil, or_false] at hd
  rcases hd with rfl | rfl | rfl
  · exact (shw_ls w1 l1).le (by decide) (by decide)
  · exact (shw_ls w2 l2).le (by decide) (by decide)
  · exact shw_df h l1 l2
def spLRt (K : PySem.W.Frag) : Sp := fun vs H Q _ => ∃ (x1 x2 v : V) (ss1 ss2 : List Str) (ps : List (Nat × Nat)), vs = [x1, x2, v] ∧ LsAt H x1 ss1 ∧ LsAt H x2 ss2 ∧ DfV K H v ps ∧ IsDf ss1 ss2 ps ∧ ∀ H', Same H H' → Q (.bl true) H'
end XR
namespace K17
open PySem L2 XR
section
variable {P : Program} {w : World} {K : PySem.W.Frag} {mg : Str → Option Value} {base : Heap}
abbrev sLRt : Stmt := top 50
abbrev nLRt : List Str := ["_law_elder", "_law_newer", "_law_pairing", "_law_due", "_law_shown", "_law_turn", "_law_told"]
theorem scLRt : FnScope nLRt ["_law_elder", "_law_newer", "_law_pairing"] (defScope sLRt) := ⟨rfl, rfl, rfl, by decide +kernel, rfl, by decide +kernel, by decide +kernel⟩
theorem ok_lRt {f fT fD fP fS fLS fER : Addr} {fd fdT fdD fdP fdS fdLS fdER : FuncData} (F : Fun K "_law_right" "_law_right" sLRt f fd) (T : Blt mg)
    (FT : OneF P w K mg base "texts_of" sTexts 5 ["entries"] (spTexts K) fT fdT)
    (FD : OneF P w K mg base "diff_of" sDiffOf 5 ["entries"] (spDiffOf K) fD fdD)
    (FP : OneF P w K mg base "is_plain" sPlain 7 ["entries"] (spPlain K) fP fdP)
    (FS : OneF P w K mg base "script_of" sScrOf 6 ["old", "new", "diff"] (spScrOf K) fS fdS) (kS : KBinds K fdS ["old", "new", "diff"] ["diff", "new", "old"] turn3 turn3)
    (LS : OneF P w K mg base "_law_script" sLScr 1 ["_law_elder", "_law_newer", "_law_pairing"] (spLScr K) fLS fdLS)
    (FE : Fun K "_law_entries_right" "_law_entries_right" sLER fER fdER) (GE : FnG P w K mg base 8 fER fdER ["_law_entries_now"] (spLER K)) (bE : Binds K fdER ["_law_entries_now"] []) (mE : mg "_law_entries_right" = some (.ref fER)) :
    FnG P w K mg base 9 f fd ["_law_elder", "_law_newer", "_law_pairing"] (spLRt K) := by
  refine okG F scLRt (fun vs H Q E h => ?_) (fun cdv A outer s H vs Q E hr hg h => ?_)
  · obtain ⟨x1, x2, v, ss1, ss2, ps, rfl, _⟩ := h
    rfl
  · obtain ⟨x1, x2, v, ss1, ss2, ps, rfl, k1, k2, hv, hd, z⟩ := h
    have hr1 := hr.mono (show 1 ≤ 8 by decide)
    have hr5 := hr.mono (show 5 ≤ 8 by decide)
    have hr6 := hr.mono (show 6 ≤ 8 by decide)
    have hr7 := hr.mono (show 7 ≤ 8 by decide)
    refine ⟨_, pss_cons (ps_par (i := 3) (j := 4) rfl scLRt.nd rfl rfl (by decide) rfl rfl (pa_cons (pe_call LS.G hr1 rfl LS.m LS.F.kp LS.b .nil pass0 (pa_cons (pv 0) (pa_cons (pv 1) (pa_cons (pv 2) pa_nil))))
          (pa_cons (pe_callB (call_reprQ hg hr.units) (by rfl) (T.all "repr" (by decide)) (by decide +kernel) (pa_cons (pe_lst (pa_cons (pv 0) (pa_cons (pv 1) (pa_cons (pv 2) pa_nil)))) pa_nil)) pa_nil)) rfl)
      (pss_cons (ps_for PassesOwn.never rfl (pi_range1 rfl T.range (pa_cons pe_int pa_nil)) (pg_name (i := 5) scLRt.nd rfl (.inl rfl))
        (pss_cons (ps_set (i := 6) scLRt.nd rfl (.inl rfl) (pe_call FS.G hr6 rfl FS.m FS.F.kp FS.b .nil pass0 (pa_cons (pv 0) (pa_cons (pv 1) (pa_cons (pv 2) pa_nil)))))
        (pss_cons (ps_if (PW.pt (pw_or (pt_cmpR op_ne (pe_callB (call_reprQ hg hr.units) (by rfl) (T.all "repr" (by decide)) (by decide +kernel) (pa_cons (pv 6) pa_nil)) (pe_callB (call_reprQ hg hr.units) (by rfl) (T.all "repr" (by decide)) (by decide +kernel) (pa_cons (pv 3) pa_nil)) (nomark _))
          (pw_or1 (pt_cmpR op_ne (pe_callB (call_reprQ hg hr.units) (by rfl) (T.all "repr" (by decide)) (by decide +kernel) (pa_cons (pe_callKw FS.G hr6 rfl FS.m FS.F.kp kS (fun σ => passP σ) (pk_cons (pv 2) (pk_cons (pe_callTy call_tuple_of (by rfl) (T.all "tuple" (by decide)) (by decide +kernel) (pa_cons (pv 1) pa_nil)) (pk_cons (pv 0) pk_nil)))) pa_nil))
            (pe_callB (call_reprQ hg hr.units) (by rfl) (T.all "repr" (by decide)) (by decide +kernel) (pa_cons (pv 3) pa_nil)) (nomark _))))) (pss_one (ps_ret pe_bl)) pss_nil)
        (pss_one (ps_expr (pe_bm PySem.F.plainAttrs_list PySem.F.slot_list_append PySem.F.type_list_append mt_append (pv 6) (pa_cons pe_non pa_nil))))))
      )
      (pss_cons (ps_if (PW.pt (pw_or (pt_cmpR op_ne (pe_callB (call_reprQ hg hr.units) (by rfl) (T.all "repr" (by decide)) (by decide +kernel) (pa_cons (pe_lst (pa_cons (pv 0) (pa_cons (pv 1) (pa_cons (pv 2) pa_nil)))) pa_nil)) (pv 4) (nomark _))
          (pw_or1 (pt_cmpR op_ne (pe_callB (call_reprQ hg hr.units) (by rfl) (T.all "repr" (by decide)) (by decide +kernel) (pa_cons (pe_call FT.G hr5 rfl FT.m FT.F.kp FT.b .nil pass0 (pa_cons (pv 3) pa_nil)) pa_nil))
            (pe_callB (call_reprQ hg hr.units) (by rfl) (T.all "repr" (by decide)) (by decide +kernel) (pa_cons (pe_tup (pa_cons (pe_callTy call_list_of (by rfl) (T.all "list" (by decide)) (by decide +kernel) (pa_cons (pv 0) pa_nil)) (pa_cons (pe_callTy call_list_of (by rfl) (T.all "list" (by decide)) (by decide +kernel) (pa_cons (pv 1) pa_nil)) pa_nil))) pa_nil)) (nomark _))))) (pss_one (ps_ret pe_bl)) pss_nil)
      (pss_cons (ps_if (pt_cmpR (op_neD hr.units) (pe_call FD.G hr5 rfl FD.m FD.F.kp FD.b .nil pass0 (pa_cons (pv 3) pa_nil)) (pv 2) (nomark _)) (pss_one (ps_ret pe_bl)) pss_nil)
      (pss_one (ps_ret (pe_and (pe_call FP.G hr7 rfl FP.m FP.F.kp FP.b .nil pass0 (pa_cons (pv 3) pa_nil)) (pe_one (pe_callG GE hg hr rfl mE FE.kp bE (pa_cons (pv 3) pa_nil))))))))), ?_⟩
    have l1 := k1.le
    have l2 := k2.le
    have S3 := shw_three k1.wd k2.wd l1 l2 hd
    have hfs : Fine (scriptL ss1 ss2 ps) := fine_scr hd (.of k1.wd) (.of k2.wd) l1 l2
    have dfr := dfFrom_of hd
    have hold : oldL (scriptL ss1 ss2 ps) = ss1 := scr_old _ _ _ _ _ dfr
    have hnew : newL (scriptL ss1 ss2 ps) = ss2 := scr_new _ _ _ _ _ dfr
    have hprs : pairsFrom 0 0 (scriptL ss1 ss2 ps) = ps := scr_pairs _ _ _ _ _ dfr
    have hpl : plainB (scriptL ss1 ss2 ps) = true := scr_plain _ _ _ _ _
    have SE := hfs.shw
    have ST := hfs.shwT
    have dq3 : ∀ {G : Hp} {p : Addr}, G p = some (.lst [x1, x2, v]) → LsAt G x1 ss1 → LsAt G x2 ss2 → DfV K G v ps → Dq K G (.ref p) (threeD ss1 ss2 ps) := fun {G p} h j1 j2 j3 => by
      obtain ⟨a1, rfl, _⟩ := id j1
      obtain ⟨a2, rfl, _⟩ := id j2
      exact .lst (SqL.of h) (.cons j1.dq (.cons j2.dq (.cons j3 .nil)))
    refine ⟨_, rfl, _, rfl, _, rfl, x1, x2, v, ss1, ss2, ps, rfl, k1, k2, hv, hd, fun d0 r0 H1 s1 nd hd0 hr0 => ?_⟩
    have hdue : EsL H1 (.ref d0) (scriptL ss1 ss2 ps) := ⟨d0, r0, rfl, hd0, hr0⟩
    clear hd0 hr0
    refine ⟨_, rfl, _, rfl, _, rfl, ll20 (by show 3 ≤ 20; decide), fun b nb => ?_⟩
    have sb := same_upd (o := .lst [x1, x2, v]) nb
    have hb := upd_same (H := H1) (a := b) (o := .lst [x1, x2, v])
    have s2 := s1.trans sb
    replace hdue := hdue.same sb
    generalize upd H1 b (.lst [x1, x2, v]) = H2 at hb s2 hdue ⊢
    clear sb nb s1
    have hdd := hdue.v (K := K)
    refine ⟨_, threeD ss1 ss2 ps, rfl, dq3 hb (k1.same s2) (k2.same s2) (hv.same s2), S3.ok, S3.lineB (by decide), S3.low (by decide), _, _, rfl, ?_⟩
    refine ⟨2, rfl, by decide, by decide, ?_⟩
    refine for_range (n := 2) (fun i σ H' => Same H2 H' ∧ ∃ (y5 y6 : Option V), σ = [some x1, some x2, some v, some (V.ref d0), some (V.str (threeD ss1 ss2 ps).shown), y5, y6]) ⟨fun _ _ h => h, _, _, rfl⟩ ?_ ?_
    · rintro i σ Hi hi ⟨si, y5, y6, rfl⟩
      have sH := s2.trans si
      refine ⟨_, rfl, _, rfl, _, rfl, x1, x2, v, ss1, ss2, ps, rfl, (k1.same sH).t, (k2.same sH).t, hv.same sH, hd, fun l rl Ha sa nl hl hrl => ?_⟩
      refine ⟨_, rfl, _, enD true (scriptL ss1 ss2 ps), rfl, EsL.v ⟨l, rl, rfl, hl, hrl⟩, SE.ok, SE.lineB (by decide), SE.low (by decide), ?_⟩
      refine ⟨_, rfl, _, enD true (scriptL ss1 ss2 ps), rfl, hdd.same (si.trans sa), SE.ok, SE.lineB (by decide), SE.low (by decide), rfl, _, rfl, ?_⟩
      rw [decide_eq_true rfl]
      refine iteF ?_
      have sHa := sH.trans sa
      obtain ⟨a2, rfl, ha2, _, _⟩ := id k2
      refine ⟨_, rfl, _, rfl, a2, _, rfl, .inl ⟨SqL.of (sHa _ _ ha2), fun tv ntv => ?_⟩⟩
      have stv := same_upd (o := .tup (ss2.map V.str)) ntv
      have htv := upd_same (H := Ha) (a := tv) (o := .tup (ss2.map V.str))
      have sHb := sHa.trans stv
      have sib := si.trans (sa.trans stv)
      have hlb := stv _ _ hl
      generalize upd Ha tv (.tup (ss2.map V.str)) = Hb at stv htv sHb sib hlb ⊢
      refine ⟨_, rfl, x1, .ref tv, v, ss1, ss2, ps, rfl, (k1.same sHb).t, tup_textL (SqT.of htv) (AllS.of k2.wd).lns l2, hv.same sHb, hd, fun l3 rl3 Hc sc nl3 hl3 hrl3 => ?_⟩
      refine ⟨_, enD true (scriptL ss1 ss2 ps), rfl, EsL.v ⟨l3, rl3, rfl, hl3, hrl3⟩, SE.ok, SE.lineB (by decide), SE.low (by decide), ?_⟩
      refine ⟨_, rfl, _, enD true (scriptL ss1 ss2 ps), rfl, hdd.same (sib.trans sc), SE.ok, SE.lineB (by decide), SE.low (by decide), rfl, _, rfl, ?_⟩
      rw [decide_eq_true rfl]
      refine iteF ?_
      have hlc := sc _ _ hlb
      refine ⟨_, rfl, .inl ⟨rfl, _, SqL.of hlc⟩, l, _, _, rfl, rfl, hlc, ?_, ?_⟩
      · unfold refs
        rw [List.length_map, hrl.1]
        exact Nat.lt_of_le_of_lt hfs.s.len (by decide)
      exact ⟨same_over (none_before si nl) (sib.trans sc), _, _, rfl⟩
    · rintro σ H3 ⟨s3, y5, y6, rfl⟩
      have sH := s2.trans s3
      have hdu := hdue.same s3
      refine ⟨_, rfl, _, rfl, _, rfl, ll20 (by show 3 ≤ 20; decide), fun b1 nb1 => ?_⟩
      have sb1 := same_upd (o := .lst [x1, x2, v]) nb1
      have hb1 := upd_same (H := H3) (a := b1) (o := .lst [x1, x2, v])
      have sH4 := sH.trans sb1
      replace hdu := hdu.same sb1
      generalize upd H3 b1 (.lst [x1, x2, v]) = H4 at hb1 sH4 hdu ⊢
      refine ⟨_, threeD ss1 ss2 ps, rfl, dq3 hb1 (k1.same sH4) (k2.same sH4) (hv.same sH4), S3.ok, S3.lineB (by decide), S3.low (by decide), _, rfl, rfl, _, rfl, ?_⟩
      rw [decide_eq_true rfl]
      refine iteF ?_
      refine ⟨_, rfl, _, true, _, rfl, hdu.v, hfs.s, fun t5 p5 p6 H5 s5 _ _ _ ht5 hp5 hp6 => ?_⟩
      have sH5 := sH4.trans s5
      refine ⟨_, txsD (scriptL ss1 ss2 ps), rfl, dq_txs ht5 hp5 hp6, ST.ok, ST.lineB (by decide), ST.low (by decide), ?_⟩
      obtain ⟨a1, rfl, ha1, _, _⟩ := id k1
      obtain ⟨a2, rfl, ha2, _, _⟩ := id k2
      refine ⟨_, rfl, a1, _, rfl, .inl (SqL.of (sH5 _ _ ha1)), fun g1 ng1 => ?_⟩
      have sg1 := same_upd (o := .lst (ss1.map V.str)) ng1
      have hg1 := upd_same (H := H5) (a := g1) (o := .lst (ss1.map V.str))
      have sH6 := sH5.trans sg1
      have s6 := s5.trans sg1
      generalize upd H5 g1 (.lst (ss1.map V.str)) = H6 at hg1 sH6 s6 ⊢
      refine ⟨_, rfl, a2, _, rfl, .inl (SqL.of (sH6 _ _ ha2)), fun g2 ng2 => ?_⟩
      have sg2 := same_upd (o := .lst (ss2.map V.str)) ng2
      have hg2 := upd_same (H := H6) (a := g2) (o := .lst (ss2.map V.str))
      have hg1' := sg2 _ _ hg1
      have sH7 := sH6.trans sg2
      have s7 := s6.trans sg2
      generalize upd H6 g2 (.lst (ss2.map V.str)) = H7 at hg2 hg1' sH7 s7 ⊢
      refine ⟨ll20 (by show 2 ≤ 20; decide), fun g3 ng3 => ?_⟩
      have sg3 := same_upd (o := .tup [V.ref g1, V.ref g2]) ng3
      have hg3 := upd_same (H := H7) (a := g3) (o := .tup [V.ref g1, V.ref g2])
      have hg1'' := sg3 _ _ hg1'
      have hg2' := sg3 _ _ hg2
      have sH8 := sH7.trans sg3
      have s8 := s7.trans sg3
      generalize upd H7 g3 (.tup [V.ref g1, V.ref g2]) = H8 at hg3 hg1'' hg2' sH8 s8 ⊢
      refine ⟨_, txsD (scriptL ss1 ss2 ps), rfl, dq_txs hg3 (by rw [hold]; exact hg1'') (by rw [hnew]; exact hg2'), ST.ok, ST.lineB (by decide), ST.low (by decide), rfl, _, rfl, ?_⟩
      rw [decide_eq_true rfl]
      refine iteF ?_
      refine ⟨_, rfl, _, true, _, rfl, (hdu.same s8).v, hfs.s, fun u H9 s9 nu hu => ?_⟩
      rw [hprs] at hu
      have s89 := s8.trans s9
      refine ⟨_, rfl, dfD ps, dfD ps, hu.v.dp, (hv.same (sH8.trans s9)).dp, (df_lay _).2, (df_lay _).2, _, rfl, ?_⟩
      rw [SeqAt.eqv_refl _ (df_lay _).1]
      refine iteF ?_
      refine ⟨_, rfl, _, true, _, rfl, (hdu.same s89).v, hfs.s, hfs.ok, fun Ha sa => ⟨_, rfl, ?_⟩⟩
      rw [hpl]
      refine iteT ⟨_, rfl, .ref d0, _, rfl, hdu.same (s89.trans sa), hfs, fun Hb sb => ?_⟩
      exact z Hb ((sH8.trans s9).trans (sa.trans sb))
end
end K17
namespace XR
open PySem L2
def spLaw (K : PySem.W.Frag) : Sp := fun vs H Q _ => ∃ (a : Addr) (ns : List Int), vs = [.ref a] ∧ SqL K H a (ns.map V.int) ∧ ns.length ≤ 63 ∧ ∀ H', Q (.bl true) H'
theorem But.same_of {p : Addr} {H H1 H2 : Hp} (b : But p H1 H2) (s : Same H H1) (n : H p = none) : Same H H2 := fun q o h => b _ _ (s _ _ h) (ne_of_none h n)
end XR
namespace K17
open PySem L2 XR
section
variable {P : Program} {w : World} {K : PySem.W.Frag} {mg : Str → Option Value} {base : Heap}
abbrev sLaw : Stmt := top 51
theorem scLaw : FnScope ["_law_script_here", "_law_k", "_law_pot_here", "_law_turn", "_law_elder", "_law_newer", "_law_pairing"] ["_law_script_here"] (defScope sLaw) := ⟨rfl, rfl, rfl, by decide +kernel, rfl, by decide +kernel, by decide +kernel⟩
theorem ok_law {f fPot fTw fDf fR fE fL fD fP : Addr} {fd fdPot fdTw fdDf fdR fdE fdL fdD fdP : FuncData} (F : Fun K "law" "law" sLaw f fd) (T : Blt mg) (D : Draws P w K mg base fD fP fdD fdP)
    (FPot : Fun K "_law_pot" "_law_pot" sPot fPot fdPot) (GPot : FnOk P w K mg base CX0 1 fPot fdPot ["_law_script_here", "_law_index"] (spPot K)) (bPot : Binds K fdPot ["_law_script_here", "_law_index"] []) (mPot : mg "_law_pot" = some (.ref fPot))
    (FTw : Fun K "_law_two" "_law_two" sTwo fTw fdTw) (GTw : FnOk P w K mg base CX0 4 fTw fdTw ["_law_pot_here", "_law_most"] spTwo) (bTw : Binds K fdTw ["_law_pot_here", "_law_most"] []) (mTw : mg "_law_two" = some (.ref fTw))
    (FDf : Fun K "_law_diff" "_law_diff" sDiff fDf fdDf) (GDf : FnOk P w K mg base CX0 3 fDf fdDf ["_law_pot_here", "_law_elder", "_law_newer"] spDiffX) (bDf : Binds K fdDf ["_law_pot_here", "_law_elder", "_law_newer"] []) (mDf : mg "_law_diff" = some (.ref fDf))
    (FL : Fun K "_law_entries" "_law_entries" sLEnt fL fdL) (GL : FnOk P w K mg base CX0 3 fL fdL ["_law_pot_here"] spLEnt) (bL : Binds K fdL ["_law_pot_here"] []) (mL : mg "_law_entries" = some (.ref fL))
    (FE : Fun K "_law_entries_right" "_law_entries_right" sLER fE fdE) (GE : FnG P w K mg base 8 fE fdE ["_law_entries_now"] (spLER K)) (bE : Binds K fdE ["_law_entries_now"] []) (mE : mg "_law_entries_right" = some (.ref fE))
    (FR : Fun K "_law_right" "_law_right" sLRt fR fdR) (GR : FnG P w K mg base 9 fR fdR ["_law_elder", "_law_newer", "_law_pairing"] (spLRt K)) (bR : Binds K fdR ["_law_elder", "_law_newer", "_law_pairing"] []) (mR : mg "_law_right" = some (.ref fR)) :
    FnG P w K mg base 10 f fd ["_law_script_here"] (spLaw K) := by
  refine okG F scLaw (fun vs H Q E h => ?_) (fun cdv A outer s H vs Q E hr hg h => ?_)
  · obtain ⟨a, ns, rfl, _⟩ := h
    rfl
  · obtain ⟨a, ns, rfl, hS, hn, z⟩ := h
    have hr1 := hr.mono (show 1 ≤ 9 by decide)
    have hr3 := hr.mono (show 3 ≤ 9 by decide)
    have hr4 := hr.mono (show 4 ≤ 9 by decide)
    have hr8 := hr.mono (show 8 ≤ 9 by decide)
    refine ⟨_, pss_cons (ps_for PassesOwn.never rfl (pi_range1 rfl T.range (pa_cons (pe_callB (call_max2 rfl) (by rfl) T.max (by decide +kernel) (pa_cons pe_int (pa_cons (pe_callB (call_min2 rfl) (by rfl) T.min (by decide +kernel) (pa_cons pe_int (pa_cons (pe_callB call_len_seq (by rfl) T.len PySem.boot_len (pa_cons (pv 0) pa_nil)) pa_nil))) pa_nil))) pa_nil)) (pg_name (i := 1) scLaw.nd rfl (.inl rfl))
        (pss_cons (ps_set (i := 2) scLaw.nd rfl (.inl rfl) (pe_call GPot hr1 rfl mPot FPot.kp bPot .nil pass0 (pa_cons (pv 0) (pa_cons (pv 1) pa_nil))))
        (pss_one (ps_for PassesOwn.never rfl (pi_range1 rfl T.range (pa_cons pe_int pa_nil)) (pg_name (i := 3) scLaw.nd rfl (.inl rfl))
          (pss_cons (ps_asg (pe_call GTw hr4 rfl mTw FTw.kp bTw .nil pass0 (pa_cons (pv 2) (pa_cons (pe_call D.GP (hr.mono (by decide)) rfl D.mP D.FP.kp D.bP .nil pass0 (pa_cons (pv 2) (pa_cons (pe_lst (pa_cons pe_int (pa_cons pe_int (pa_cons pe_int (pa_cons pe_int pa_nil))))) pa_nil))) pa_nil))) (pg_tup rfl (pgs_cons (pg_name (i := 4) scLaw.nd rfl (.inl rfl)) (pgs_cons (pg_name (i := 5) scLaw.nd rfl (.inl rfl)) pgs_nil))))
          (pss_cons (ps_for PassesOwn.never rfl (pi_list (pe_lst (pa_cons (pe_call GDf hr3 rfl mDf FDf.kp bDf .nil pass0 (pa_cons (pv 2) (pa_cons (pv 4) (pa_cons (pv 5) pa_nil)))) (pa_cons (pe_tup pa_nil) pa_nil)))) (pg_name (i := 6) scLaw.nd rfl (.inl rfl))
            (pss_one (ps_if (pt_not (pt_val (pe_callG GR hg hr rfl mR FR.kp bR (pa_cons (pv 4) (pa_cons (pv 5) (pa_cons (pv 6) pa_nil)))))) (pss_one (ps_ret pe_bl)) pss_nil)))
          (pss_one (ps_if (PW.pt (pw_or (pt_not (pt_val (pe_callG GE hg hr8 rfl mE FE.kp bE (pa_cons (pe_call GL hr3 rfl mL FL.kp bL .nil pass0 (pa_cons (pv 2) pa_nil)) pa_nil)))) (pw_or1 (pt_not (pt_val (pe_callG GE hg hr8 rfl mE FE.kp bE (pa_cons (pe_lst pa_nil) pa_nil))))))) (pss_one (ps_ret pe_bl)) pss_nil))))))))
      (pss_one (ps_ret pe_bl)), ?_⟩
    have hbd : ∀ L : Int, 0 ≤ L → 1 ≤ (if (if L < 6 then L else 6) > 1 then (if L < 6 then L else 6) else 1) ∧ (if (if L < 6 then L else 6) > 1 then (if L < 6 then L else 6) else 1) ≤ 6 := by
      intro L hL
      split <;> split <;> omega
    refine ⟨_, rfl, a, _, rfl, .inl hS, _, _, rfl, _, _, rfl, ?_⟩
    obtain ⟨b1, b2⟩ := hbd ((ns.map V.int).length : Int) (by omega)
    revert b1 b2
    generalize (if (if ((ns.map V.int).length : Int) < 6 then ((ns.map V.int).length : Int) else 6) > 1 then (if ((ns.map V.int).length : Int) < 6 then ((ns.map V.int).length : Int) else 6) else 1) = m
    intro b1 b2
    refine ⟨m, rfl, by omega, by omega, ?_⟩
    refine for_range (n := m.toNat) (fun k σ H' => Same H H' ∧ ∃ y1 y2 y3 y4 y5 y6, σ = [some (V.ref a), y1, y2, y3, y4, y5, y6]) ⟨fun _ _ h => h, _, _, _, _, _, _, rfl⟩ ?_ ?_
    · rintro j σ H' hj ⟨sm, y1, y2, y3, y4, y5, y6, rfl⟩
      refine ⟨_, rfl, _, rfl, a, ns, j, by rw [Int.zero_add]; rfl, sm.seq hS, hn, by omega, fun p H1 s1 n1 hp1 => ?_⟩
      have np : H p = none := by
        cases e : H p with
        | none => rfl
        | some o => rw [sm _ _ e] at n1; cases n1
      refine ⟨3, rfl, by decide, by decide, ?_⟩
      refine for_range (n := 3) (fun i σ H2 => PotAt H2 p ∧ But p H1 H2 ∧ ∃ z3 z4 z5 z6, σ = [some (V.ref a), some (V.int (0 + (j : Int))), some (V.ref p), z3, z4, z5, z6]) ⟨hp1, But.refl p H1, _, _, _, _, rfl⟩ ?_ ?_
      · rintro i σ H2 hi ⟨hp2, c2, z3, z4, z5, z6, rfl⟩
        refine ⟨_, rfl, _, rfl, ll20 (by show 4 ≤ 20; decide), fun q nq => ?_⟩
        have sq := same_upd (o := .lst [V.int 3, V.int 12, V.int 12, V.int 60]) nq
        have hq := upd_same (H := H2) (a := q) (o := .lst [V.int 3, V.int 12, V.int 12, V.int 60])
        have pq := hp2.ne nq
        have hpq := hp2.same sq
        generalize upd H2 q (.lst [V.int 3, V.int 12, V.int 12, V.int 60]) = G0 at sq hq hpq ⊢
        refine ⟨p, q, _, rfl, hpq, hq, pq, by show 0 < 4; decide, by show 4 ≤ 1000; decide, fun x G1 hx hpx bx => ?_⟩
        obtain ⟨mo, rfl, mo1, mo2⟩ : ∃ mo : Int, x = .int mo ∧ 0 ≤ mo ∧ mo ≤ 60 := by
          simp only [List.mem_cons, List.not_mem_nil, or_false] at hx
          rcases hx with rfl | rfl | rfl | rfl
          · exact ⟨3, rfl, by decide, by decide⟩
          · exact ⟨12, rfl, by decide, by decide⟩
          · exact ⟨12, rfl, by decide, by decide⟩
          · exact ⟨60, rfl, by decide, by decide⟩
        have c2' := (c2.same sq).trans bx
        refine ⟨p, mo, rfl, hpx, mo1, mo2, fun t a1 a2 ss1 ss2 H3 hp3 c3 nt na1 na2 ht h1 h2 w1 w2 l1 l2 => ?_⟩
        have k1 : LsAt H3 (.ref a1) ss1 := ⟨a1, rfl, h1, w1, by omega⟩
        have k2 : LsAt H3 (.ref a2) ss2 := ⟨a2, rfl, h2, w2, by omega⟩
        have C3 := c2'.trans c3
        refine ⟨t, _, rfl, .inl (.inl ht), rfl, _, _, rfl, _, _, rfl, rfl, ?_⟩
        refine ⟨_, rfl, _, rfl, _, rfl, p, a1, a2, ss1, ss2, rfl, hp3, k1.at, k2.at, k1.le, k2.le, fun t1 ps H4 hp4 c4 n4 x4 d4 => ?_⟩
        have C4 := C3.trans c4
        replace k1 := k1.but c4 hp3
        replace k2 := k2.but c4 hp3
        have v1 := x4.v (K := K)
        refine ⟨by show 0 ≤ sizeLine; exact Nat.zero_le _, fun t2 n5 => ?_⟩
        have s5 := same_upd (o := .tup []) n5
        have h5 := upd_same (H := H4) (a := t2) (o := .tup [])
        replace hp4 := hp4.same s5
        replace C4 := C4.same s5
        replace k1 := k1.same s5
        replace k2 := k2.same s5
        replace v1 := v1.same s5
        have v2 : DfV K (upd H4 t2 (.tup [])) (.ref t2) [] := .tup (.inl (.inl h5)) .nil
        generalize upd H4 t2 (.tup []) = G5 at hp4 C4 k1 k2 v1 v2 ⊢
        refine ⟨ll20 (by show 2 ≤ 20; decide), fun l nl => ⟨l, rfl, ⟨_, SqL.of upd_same⟩, ?_⟩⟩
        have sl := same_upd (o := .lst [V.ref t1, V.ref t2]) nl
        have hl := upd_same (H := G5) (a := l) (o := .lst [V.ref t1, V.ref t2])
        replace hp4 := hp4.same sl
        replace C4 := C4.same sl
        replace k1 := k1.same sl
        replace k2 := k2.same sl
        replace v1 := v1.same sl
        replace v2 := v2.same sl
        generalize upd G5 l (.lst [V.ref t1, V.ref t2]) = G6 at hl hp4 C4 k1 k2 v1 v2 ⊢
        refine for_list (K := K) (a := l) (xs := [V.ref t1, V.ref t2]) (fun _ σ H' => Same G6 H' ∧ ∃ z6, σ = [some (V.ref a), some (V.int (0 + (j : Int))), some (V.ref p), some (V.int (0 + (i : Int))), some (V.ref a1), some (V.ref a2), z6]) ⟨fun _ _ h => h, _, rfl⟩ (fun _ σ H' _ hh => SqL.of (hh.1 _ _ hl)) ?_ ?_
        · rintro i2 x σ Ha hx ⟨sa, z6, rfl⟩
          obtain ⟨qs, vx, dx⟩ : ∃ qs, DfV K Ha x qs ∧ IsDf ss1 ss2 qs := by
            rcases i2 with _ | _ | i2
            · cases Option.some.inj hx
              exact ⟨ps, v1.same sa, d4⟩
            · cases Option.some.inj hx
              exact ⟨[], v2.same sa, .nil⟩
            · simp at hx
          exact ⟨_, rfl, _, rfl, _, rfl, .ref a1, .ref a2, x, ss1, ss2, qs, rfl, k1.same sa, k2.same sa, vx, dx, fun H7 s7 => ⟨true, rfl, iteF ⟨sa.trans s7, _, rfl⟩⟩⟩
        · rintro σ Ha ⟨sa, z6, rfl⟩
          have hpa := hp4.same sa
          have Ca := C4.same sa
          refine ⟨_, rfl, p, rfl, hpa, fun g es Hb hpb bb ng hel dr => ?_⟩
          refine ⟨.ref g, es, rfl, hel, dr.fine, fun Hc sc => ⟨true, rfl, iteF ⟨ll20 (by decide), fun g2 ng2 => ?_⟩⟩⟩
          have sg2 := same_upd (o := .lst []) ng2
          have hg2 := upd_same (H := Hc) (a := g2) (o := .lst [])
          have fin := sc.trans sg2
          refine ⟨.ref g2, [], rfl, ⟨g2, [], rfl, hg2, .nil⟩, Drawn.nil.fine, fun Hd sd => ⟨true, rfl, iteF ⟨hpb.same (fin.trans sd), (Ca.trans bb).same (fin.trans sd), _, _, _, _, rfl⟩⟩⟩
      · rintro σ H2 ⟨hp2, c2, z3, z4, z5, z6, rfl⟩
        exact ⟨c2.same_of (sm.trans s1) np, _, _, _, _, _, _, rfl⟩
    · rintro σ H' ⟨sm, y1, y2, y3, y4, y5, y6, rfl⟩
      exact z _
end
end K17
/-! What the heap behind the top says of an own class of exceptions with one field, in one structure. -/
namespace XR
open PySem L2
open PySem.W (ksFn XL)
def fileIs (P : Program) (K : PySem.W.Frag) (a : Addr) : Bool := match K.lookup a with
  | some ⟨_, _, .fields vs, _⟩ => match (vs[2]? : Option Value) with
    | some (.str file _) => (P.main.file : Str) == file
    | _ => false
  | _ => false
def holdsCls (K : PySem.W.Frag) (a C : Addr) : Bool := match K.lookup a with
  | some ⟨_, _, .cell (some (.ref c)), _⟩ => c == C
  | _ => false
theorem fileIs_of {P : Program} {K : PySem.W.Frag} {a : Addr} (h : fileIs P K a = true) : ∃ x y vs c file tf, K.lookup a = some ⟨x, y, .fields vs, c⟩ ∧ vs[2]? = some (.str file tf) ∧ ((P.main.file : Str) == file) = true := by
  unfold fileIs at h
  split at h
  · rename_i x y vs c e
    split at h
    · rename_i file tf e2
      exact ⟨x, y, vs, c, file, tf, e, e2, h⟩
    · cases h
  · cases h
theorem holdsCls_of {K : PySem.W.Frag} {a C : Addr} (h : holdsCls K a C = true) : ∃ x y c, K.lookup a = some ⟨x, y, .cell (some (.ref C)), c⟩ := by
  unfold holdsCls at h
  split at h
  · rename_i x y c z e
    have : c = C := by simpa using h
    subst this
    exact ⟨x, y, z, e⟩
  · cases h
/-- B: the built-in class above; q: the name of __init__; fld: the field; f, c, d: where __init__, its cell and its code stand -/
structure ClsF (P : Program) (K : PySem.W.Frag) (B newId initId : String) (bmB : List Value) (q fld : Str) (C f c d : Addr) : Prop where
  kp : PySem.W.keepIn K (.ref C) = true
  ei : PySem.W.excInitIn K C bmB newId = true
  ov : PySem.W.excOver K C bmB = true
  di : PySem.W.hasDictIn K C = true
  sa : PySem.W.findIn K (.ref C) "__setattr__" = some (some (.builtin "object.__setattr__"))
  su : PySem.W.ks_superIn K C C "__init__" = some (some (.builtin initId))
  sb : PySem.W.subIn K (.ref C) (.type B) = some true
  me : PySem.W.mroIn K C (.ref C) = some true
  fn : PySem.W.isFn K (.ref f) = true
  cod : PySem.W.codeIn K (.ref d) q = true
  cfl : fileIs P K d = true
  cel : holdsCls K c C = true
  tk : PySem.W.takerIn K C fld = some none
  nf : PySem.W.findIn K (.ref C) fld = some none
  cls : (PySem.W.clsIn K C).isSome = true
  ga : PySem.W.findIn K (.ref C) "__getattribute__" = some (some (.builtin "BaseException.__getattribute__"))
  gt : PySem.W.findIn K (.ref C) "__getattr__" = some none
  sB : PySem.W.subIn K (.ref C) (.type "BaseException") = some true
  ca : PySem.W.findIn K (.ref C) "__class__" = some (some (.builtin "object.__class__"))
  mo : PySem.W.mroIn K C (.type "object") = some true
  tP : PySem.W.typeIn K (.ref C) = some (.type "type")
  op : PySem.W.nsIn K cStatics "thirdparty.any" = some none
  sp : PySem.W.specialIn K (.builtin "object.__class__") "__get__" = some (some (.builtin "getset_descriptor.__get__"))
  tks : PySem.W.takesIn K (.builtin "object.__class__") = some true
theorem xok_of {P : Program} {K : PySem.W.Frag} {mg : Str → Option Value} {B newId initId : String} {bmB : List Value} {x q fld : Str} {C f c d : Addr} (S : ClsF P K B newId initId bmB q fld C f c d) (g : mg x = some (.ref C))
    (mx : MkX K P C none 1 (fvOne fld)) : XOk P K mg x C 1 (fvOne fld) where
  mx := mx
  ne := fun vs _ h => nomatch h
  kp := S.kp
  bP := S.sB
  tP := S.tP
  g := g
  rd := ⟨S.cls, S.ga, S.gt, S.sB, S.di, S.ca, S.sp, S.tks, S.mo⟩
  nf := fun vs y hy => by
    have e : y = (fld, vs.getD 0 .non) := by simpa [fvOne] using hy
    rw [e]
    exact S.nf
end XR
namespace K17
open PySem L2 XR
open PySem.W (ksFn XL)
abbrev prg : Program := PySem.Challenge.rw_alldiffs_k17_whole_scripts_there_and_bac.prog
abbrev ini (i : Nat) : Stmt := inClass (top i) 0
abbrev iFn (i : Nat) (qual : Str) (kV doc pm : Value) (an : Option Addr) (cda : Addr) (ct : Value) (cc : Addr) : FuncData :=
  ksFn "__init__" qual (defArgs (ini i)) (defBody (ini i)) (defScope (ini i)) .none kV doc pm an (.ref cda) ct cc
def CInit (K : PySem.W.Frag) (i : Nat) (q : Str) (f cc cda : Addr) : Prop := ∃ oc od osl kV doc pm an ct, K.lookup f = some ⟨oc, od, .func (iFn i q kV doc pm an cda ct cc), osl⟩
section
variable {K : PySem.W.Frag} {C fI cc cda : Addr} {B newId initId : String} {bmB : List Value} {kV doc pm ct : Value} {an : Option Addr}
theorem mkc_InvalidText (X : XCls K prg C fI cc cda B newId initId bmB (iFn 2 "InvalidText.__init__" kV doc pm an cda ct cc)) (tk : PySem.W.takerIn K C "value" = some none) : MkX K prg C none 1 (fvOne "value") := by
    refine ⟨by decide, fI, cc, cda, B, newId, initId, bmB, _, "this is no text: a list of at most 60 lines", 0, ⟨7, 8, 7, 13⟩, ⟨7, 8, 7, 15⟩, ⟨7, 8, 7, 24⟩, ⟨7, 25, 7, 70⟩, ⟨7, 8, 7, 71⟩, ⟨7, 8, 7, 71⟩, fun us => [⟨"value", "value", us.getD 0 .none, ⟨8, 8, 8, 12⟩, ⟨8, 8, 8, 18⟩, ⟨8, 21, 8, 26⟩, ⟨8, 8, 8, 26⟩⟩], fun us => [("value", us.getD 0 .none)], X, fun us hl => ?_⟩
    match us, hl with
    | [u], _ =>
      refine ⟨⟨⟨_, _, _, _, _, _, _, _, _, _, rfl, ⟨_, rfl, rfl⟩, rfl, rfl, rfl, rfl, fun L => ⟨_, rfl⟩, by decide +kernel, rfl, rfl, fun L x hx => ?_⟩, by decide +kernel⟩, by show 1 ≤ 900; decide, fun e s => .of_eq rfl, fun e x hx => ?_, fun e => rfl, fun e x hx => ?_, fun vs r => ?_⟩
      · cases hx with
        | head => exact ⟨rfl, rfl, rfl⟩
        | tail _ h => cases h
      · cases hx with
        | head => rfl
        | tail _ hx =>
          cases hx with
          | head => rfl
          | tail _ hx => cases hx
      · cases hx with
        | head => exact ⟨rfl, tk⟩
        | tail _ h => cases h
      · cases r with
        | cons a b =>
          cases b
          exact .cons ⟨rfl, a⟩ .nil
theorem xok_InvalidText {mg : Str → Option Value} {h : Heap} (X : K.In h) (G : h.Ns mainGlobals mg) (g : PySem.W.nsIn K mainGlobals "InvalidText" = some (some (.ref C))) (a : PySem.W.findIn K (.ref C) "__init__" = some (some (.ref fI))) (i : CInit K 2 "InvalidText.__init__" fI cc cda)
    (S : ClsF prg K "ValueError" "ValueError.__new__" "ValueError.__init__" [.type "ValueError", .type "Exception", .type "BaseException", .type "object"] "InvalidText.__init__" "value" C fI cc cda) : XOk prg K mg "InvalidText" C 1 (fvOne "value") := by
  obtain ⟨oc, od, osl, kV, doc, pm, an, ct, lk⟩ := i
  exact xok_of S (PySem.W.mg_of X G g) (mkc_InvalidText ⟨PySem.F.excBase_ValueError, PySem.F.store_ValueError, PySem.W.kxs_ValueError, S.ei, S.ov, S.di, S.sa, S.su, S.sb, S.me, S.op, a, S.fn, ⟨oc, od, osl, lk⟩, S.cod, fileIs_of S.cfl, holdsCls_of S.cel, S.kp⟩ S.tk)
theorem mkc_InvalidDiff (X : XCls K prg C fI cc cda B newId initId bmB (iFn 3 "InvalidDiff.__init__" kV doc pm an cda ct cc)) (tk : PySem.W.takerIn K C "value" = some none) : MkX K prg C none 1 (fvOne "value") := by
    refine ⟨by decide, fI, cc, cda, B, newId, initId, bmB, _, "this is no diff of these texts", 0, ⟨12, 8, 12, 13⟩, ⟨12, 8, 12, 15⟩, ⟨12, 8, 12, 24⟩, ⟨12, 25, 12, 57⟩, ⟨12, 8, 12, 58⟩, ⟨12, 8, 12, 58⟩, fun us => [⟨"value", "value", us.getD 0 .none, ⟨13, 8, 13, 12⟩, ⟨13, 8, 13, 18⟩, ⟨13, 21, 13, 26⟩, ⟨13, 8, 13, 26⟩⟩], fun us => [("value", us.getD 0 .none)], X, fun us hl => ?_⟩
    match us, hl with
    | [u], _ =>
      refine ⟨⟨⟨_, _, _, _, _, _, _, _, _, _, rfl, ⟨_, rfl, rfl⟩, rfl, rfl, rfl, rfl, fun L => ⟨_, rfl⟩, by decide +kernel, rfl, rfl, fun L x hx => ?_⟩, by decide +kernel⟩, by show 1 ≤ 900; decide, fun e s => .of_eq rfl, fun e x hx => ?_, fun e => rfl, fun e x hx => ?_, fun vs r => ?_⟩
      · cases hx with
        | head => exact ⟨rfl, rfl, rfl⟩
        | tail _ h => cases h
      · cases hx with
        | head => rfl
        | tail _ hx =>
          cases hx with
          | head => rfl
          | tail _ hx => cases hx
      · cases hx with
        | head => exact ⟨rfl, tk⟩
        | tail _ h => cases h
      · cases r with
        | cons a b =>
          cases b
          exact .cons ⟨rfl, a⟩ .nil
theorem xok_InvalidDiff {mg : Str → Option Value} {h : Heap} (X : K.In h) (G : h.Ns mainGlobals mg) (g : PySem.W.nsIn K mainGlobals "InvalidDiff" = some (some (.ref C))) (a : PySem.W.findIn K (.ref C) "__init__" = some (some (.ref fI))) (i : CInit K 3 "InvalidDiff.__init__" fI cc cda)
    (S : ClsF prg K "ValueError" "ValueError.__new__" "ValueError.__init__" [.type "ValueError", .type "Exception", .type "BaseException", .type "object"] "InvalidDiff.__init__" "value" C fI cc cda) : XOk prg K mg "InvalidDiff" C 1 (fvOne "value") := by
  obtain ⟨oc, od, osl, kV, doc, pm, an, ct, lk⟩ := i
  exact xok_of S (PySem.W.mg_of X G g) (mkc_InvalidDiff ⟨PySem.F.excBase_ValueError, PySem.F.store_ValueError, PySem.W.kxs_ValueError, S.ei, S.ov, S.di, S.sa, S.su, S.sb, S.me, S.op, a, S.fn, ⟨oc, od, osl, lk⟩, S.cod, fileIs_of S.cfl, holdsCls_of S.cel, S.kp⟩ S.tk)
theorem mkc_InvalidScript (X : XCls K prg C fI cc cda B newId initId bmB (iFn 4 "InvalidScript.__init__" kV doc pm an cda ct cc)) (tk : PySem.W.takerIn K C "index" = some none) : MkX K prg C none 1 (fvOne "index") := by
    refine ⟨by decide, fI, cc, cda, B, newId, initId, bmB, _, "this is no script, or it does not fit: see the field index", 0, ⟨17, 8, 17, 13⟩, ⟨17, 8, 17, 15⟩, ⟨17, 8, 17, 24⟩, ⟨17, 25, 17, 85⟩, ⟨17, 8, 17, 86⟩, ⟨17, 8, 17, 86⟩, fun us => [⟨"index", "index", us.getD 0 .none, ⟨18, 8, 18, 12⟩, ⟨18, 8, 18, 18⟩, ⟨18, 21, 18, 26⟩, ⟨18, 8, 18, 26⟩⟩], fun us => [("index", us.getD 0 .none)], X, fun us hl => ?_⟩
    match us, hl with
    | [u], _ =>
      refine ⟨⟨⟨_, _, _, _, _, _, _, _, _, _, rfl, ⟨_, rfl, rfl⟩, rfl, rfl, rfl, rfl, fun L => ⟨_, rfl⟩, by decide +kernel, rfl, rfl, fun L x hx => ?_⟩, by decide +kernel⟩, by show 1 ≤ 900; decide, fun e s => .of_eq rfl, fun e x hx => ?_, fun e => rfl, fun e x hx => ?_, fun vs r => ?_⟩
      · cases hx with
        | head => exact ⟨rfl, rfl, rfl⟩
        | tail _ h => cases h
      · cases hx with
        | head => rfl
        | tail _ hx =>
          cases hx with
          | head => rfl
          | tail _ hx => cases hx
      · cases hx with
        | head => exact ⟨rfl, tk⟩
        | tail _ h => cases h
      · cases r with
        | cons a b =>
          cases b
          exact .cons ⟨rfl, a⟩ .nil
theorem xok_InvalidScript {mg : Str → Option Value} {h : Heap} (X : K.In h) (G : h.Ns mainGlobals mg) (g : PySem.W.nsIn K mainGlobals "InvalidScript" = some (some (.ref C))) (a : PySem.W.findIn K (.ref C) "__init__" = some (some (.ref fI))) (i : CInit K 4 "InvalidScript.__init__" fI cc cda)
    (S : ClsF prg K "ValueError" "ValueError.__new__" "ValueError.__init__" [.type "ValueError", .type "Exception", .type "BaseException", .type "object"] "InvalidScript.__init__" "index" C fI cc cda) : XOk prg K mg "InvalidScript" C 1 (fvOne "index") := by
  obtain ⟨oc, od, osl, kV, doc, pm, an, ct, lk⟩ := i
  exact xok_of S (PySem.W.mg_of X G g) (mkc_InvalidScript ⟨PySem.F.excBase_ValueError, PySem.F.store_ValueError, PySem.W.kxs_ValueError, S.ei, S.ov, S.di, S.sa, S.su, S.sb, S.me, S.op, a, S.fn, ⟨oc, od, osl, lk⟩, S.cod, fileIs_of S.cfl, holdsCls_of S.cel, S.kp⟩ S.tk)
end
theorem all_mk {w : World} {K : PySem.W.Frag} {h : Heap} {mg : Str → Option Value} {fa : Addr} (X : K.In h) (G : h.Ns mainGlobals mg) (hfa : mg "law" = some (.ref fa))
    {C_InvalidText f_InvalidText c_InvalidText d_InvalidText : Addr} (a_InvalidText : PySem.W.nsIn K mainGlobals "InvalidText" = some (some (.ref C_InvalidText))) (b_InvalidText : PySem.W.findIn K (.ref C_InvalidText) "__init__" = some (some (.ref f_InvalidText))) (i_InvalidText : CInit K 2 "InvalidText.__init__" f_InvalidText c_InvalidText d_InvalidText)
    (S_InvalidText : ClsF prg K "ValueError" "ValueError.__new__" "ValueError.__init__" [.type "ValueError", .type "Exception", .type "BaseException", .type "object"] "InvalidText.__init__" "value" C_InvalidText f_InvalidText c_InvalidText d_InvalidText)
    {C_InvalidDiff f_InvalidDiff c_InvalidDiff d_InvalidDiff : Addr} (a_InvalidDiff : PySem.W.nsIn K mainGlobals "InvalidDiff" = some (some (.ref C_InvalidDiff))) (b_InvalidDiff : PySem.W.findIn K (.ref C_InvalidDiff) "__init__" = some (some (.ref f_InvalidDiff))) (i_InvalidDiff : CInit K 3 "InvalidDiff.__init__" f_InvalidDiff c_InvalidDiff d_InvalidDiff)
    (S_InvalidDiff : ClsF prg K "ValueError" "ValueError.__new__" "ValueError.__init__" [.type "ValueError", .type "Exception", .type "BaseException", .type "object"] "InvalidDiff.__init__" "value" C_InvalidDiff f_InvalidDiff c_InvalidDiff d_InvalidDiff)
    {C_InvalidScript f_InvalidScript c_InvalidScript d_InvalidScript : Addr} (a_InvalidScript : PySem.W.nsIn K mainGlobals "InvalidScript" = some (some (.ref C_InvalidScript))) (b_InvalidScript : PySem.W.findIn K (.ref C_InvalidScript) "__init__" = some (some (.ref f_InvalidScript))) (i_InvalidScript : CInit K 4 "InvalidScript.__init__" f_InvalidScript c_InvalidScript d_InvalidScript)
    (S_InvalidScript : ClsF prg K "ValueError" "ValueError.__new__" "ValueError.__init__" [.type "ValueError", .type "Exception", .type "BaseException", .type "object"] "InvalidScript.__init__" "index" C_InvalidScript f_InvalidScript c_InvalidScript d_InvalidScript)
    {g_whole : Addr} {od_whole an_whole : Option Addr} {sl_whole : Array (Option Value)} {oc_whole kV_whole dc_whole pm_whole cd_whole ct_whole : Value}
    (u_whole : PySem.W.nsIn K mainGlobals "is_whole" = some (some (.ref g_whole))) (l_whole : K.lookup g_whole = some ⟨oc_whole, od_whole, .func (PySem.W.fnOf "is_whole" "is_whole" (defArgs sWhole) (defBody sWhole) (defScope sWhole) .none kV_whole dc_whole pm_whole an_whole cd_whole ct_whole), sl_whole⟩) (v_whole : PySem.W.codeIn K cd_whole "is_whole" = true) (k_whole : PySem.W.keepIn K (.ref g_whole) = true)
    {g_list : Addr} {od_list an_list : Option Addr} {sl_list : Array (Option Value)} {oc_list kV_list dc_list pm_list cd_list ct_list : Value}
    (u_list : PySem.W.nsIn K mainGlobals "is_list" = some (some (.ref g_list))) (l_list : K.lookup g_list = some ⟨oc_list, od_list, .func (PySem.W.fnOf "is_list" "is_list" (defArgs sIsList) (defBody sIsList) (defScope sIsList) .none kV_list dc_list pm_list an_list cd_list ct_list), sl_list⟩) (v_list : PySem.W.codeIn K cd_list "is_list" = true) (k_list : PySem.W.keepIn K (.ref g_list) = true)
    {g_tup : Addr} {od_tup an_tup : Option Addr} {sl_tup : Array (Option Value)} {oc_tup kV_tup dc_tup pm_tup cd_tup ct_tup : Value}
    (u_tup : PySem.W.nsIn K mainGlobals "is_tuple" = some (some (.ref g_tup))) (l_tup : K.lookup g_tup = some ⟨oc_tup, od_tup, .func (PySem.W.fnOf "is_tuple" "is_tuple" (defArgs sIsTuple) (defBody sIsTuple) (defScope sIsTuple) .none kV_tup dc_tup pm_tup an_tup cd_tup ct_tup), sl_tup⟩) (v_tup : PySem.W.codeIn K cd_tup "is_tuple" = true) (k_tup : PySem.W.keepIn K (.ref g_tup) = true)
    {g_spot : Addr} {od_spot an_spot : Option Addr} {sl_spot : Array (Option Value)} {oc_spot kV_spot dc_spot pm_spot cd_spot ct_spot : Value}
    (u_spot : PySem.W.nsIn K mainGlobals "is_spot" = some (some (.ref g_spot))) (l_spot : K.lookup g_spot = some ⟨oc_spot, od_spot, .func (PySem.W.fnOf "is_spot" "is_spot" (defArgs sSpot) (defBody sSpot) (defScope sSpot) .none kV_spot dc_spot pm_spot an_spot cd_spot ct_spot), sl_spot⟩) (v_spot : PySem.W.codeIn K cd_spot "is_spot" = true) (k_spot : PySem.W.keepIn K (.ref g_spot) = true)
    {g_line : Addr} {od_line an_line : Option Addr} {sl_line : Array (Option Value)} {oc_line kV_line dc_line pm_line cd_line ct_line : Value}
    (u_line : PySem.W.nsIn K mainGlobals "is_line" = some (some (.ref g_line))) (l_line : K.lookup g_line = some ⟨oc_line, od_line, .func (PySem.W.fnOf "is_line" "is_line" (defArgs sLine) (defBody sLine) (defScope sLine) .none kV_line dc_line pm_line an_line cd_line ct_line), sl_line⟩) (v_line : PySem.W.codeIn K cd_line "is_line" = true) (k_line : PySem.W.keepIn K (.ref g_line) = true)
    {g_text : Addr} {od_text an_text : Option Addr} {sl_text : Array (Option Value)} {oc_text kV_text dc_text pm_text cd_text ct_text : Value}
    (u_text : PySem.W.nsIn K mainGlobals "is_text" = some (some (.ref g_text))) (l_text : K.lookup g_text = some ⟨oc_text, od_text, .func (PySem.W.fnOf "is_text" "is_text" (defArgs sIsText) (defBody sIsText) (defScope sIsText) .none kV_text dc_text pm_text an_text cd_text ct_text), sl_text⟩) (v_text : PySem.W.codeIn K cd_text "is_text" = true) (k_text : PySem.W.keepIn K (.ref g_text) = true)
    {g_check : Addr} {od_check an_check : Option Addr} {sl_check : Array (Option Value)} {oc_check kV_check dc_check pm_check cd_check ct_check : Value}
    (u_check : PySem.W.nsIn K mainGlobals "check_texts" = some (some (.ref g_check))) (l_check : K.lookup g_check = some ⟨oc_check, od_check, .func (PySem.W.fnOf "check_texts" "check_texts" (defArgs sCheck) (defBody sCheck) (defScope sCheck) .none kV_check dc_check pm_check an_check cd_check ct_check), sl_check⟩) (v_check : PySem.W.codeIn K cd_check "check_texts" = true) (k_check : PySem.W.keepIn K (.ref g_check) = true)
    {g_pair : Addr} {od_pair an_pair : Option Addr} {sl_pair : Array (Option Value)} {oc_pair kV_pair dc_pair pm_pair cd_pair ct_pair : Value}
    (u_pair : PySem.W.nsIn K mainGlobals "is_pair" = some (some (.ref g_pair))) (l_pair : K.lookup g_pair = some ⟨oc_pair, od_pair, .func (PySem.W.fnOf "is_pair" "is_pair" (defArgs sPair) (defBody sPair) (defScope sPair) .none kV_pair dc_pair pm_pair an_pair cd_pair ct_pair), sl_pair⟩) (v_pair : PySem.W.codeIn K cd_pair "is_pair" = true) (k_pair : PySem.W.keepIn K (.ref g_pair) = true)
    {g_rise : Addr} {od_rise an_rise : Option Addr} {sl_rise : Array (Option Value)} {oc_rise kV_rise dc_rise pm_rise cd_rise ct_rise : Value}
    (u_rise : PySem.W.nsIn K mainGlobals "is_rising" = some (some (.ref g_rise))) (l_rise : K.lookup g_rise = some ⟨oc_rise, od_rise, .func (PySem.W.fnOf "is_rising" "is_rising" (defArgs sRising) (defBody sRising) (defScope sRising) .none kV_rise dc_rise pm_rise an_rise cd_rise ct_rise), sl_rise⟩) (v_rise : PySem.W.codeIn K cd_rise "is_rising" = true) (k_rise : PySem.W.keepIn K (.ref g_rise) = true)
    {g_isdiff : Addr} {od_isdiff an_isdiff : Option Addr} {sl_isdiff : Array (Option Value)} {oc_isdiff kV_isdiff dc_isdiff pm_isdiff cd_isdiff ct_isdiff : Value}
    (u_isdiff : PySem.W.nsIn K mainGlobals "is_diff" = some (some (.ref g_isdiff))) (l_isdiff : K.lookup g_isdiff = some ⟨oc_isdiff, od_isdiff, .func (PySem.W.fnOf "is_diff" "is_diff" (defArgs sIsDiff) (defBody sIsDiff) (defScope sIsDiff) .none kV_isdiff dc_isdiff pm_isdiff an_isdiff cd_isdiff ct_isdiff), sl_isdiff⟩) (v_isdiff : PySem.W.codeIn K cd_isdiff "is_diff" = true) (k_isdiff : PySem.W.keepIn K (.ref g_isdiff) = true)
    {g_checkd : Addr} {od_checkd an_checkd : Option Addr} {sl_checkd : Array (Option Value)} {oc_checkd kV_checkd dc_checkd pm_checkd cd_checkd ct_checkd : Value}
    (u_checkd : PySem.W.nsIn K mainGlobals "check_diff" = some (some (.ref g_checkd))) (l_checkd : K.lookup g_checkd = some ⟨oc_checkd, od_checkd, .func (PySem.W.fnOf "check_diff" "check_diff" (defArgs sCheckD) (defBody sCheckD) (defScope sCheckD) .none kV_checkd dc_checkd pm_checkd an_checkd cd_checkd ct_checkd), sl_checkd⟩) (v_checkd : PySem.W.codeIn K cd_checkd "check_diff" = true) (k_checkd : PySem.W.keepIn K (.ref g_checkd) = true)
    {g_gaps : Addr} {od_gaps an_gaps : Option Addr} {sl_gaps : Array (Option Value)} {oc_gaps kV_gaps dc_gaps pm_gaps cd_gaps ct_gaps : Value}
    (u_gaps : PySem.W.nsIn K mainGlobals "gaps_of" = some (some (.ref g_gaps))) (l_gaps : K.lookup g_gaps = some ⟨oc_gaps, od_gaps, .func (PySem.W.fnOf "gaps_of" "gaps_of" (defArgs sGaps) (defBody sGaps) (defScope sGaps) .none kV_gaps dc_gaps pm_gaps an_gaps cd_gaps ct_gaps), sl_gaps⟩) (v_gaps : PySem.W.codeIn K cd_gaps "gaps_of" = true) (k_gaps : PySem.W.keepIn K (.ref g_gaps) = true)
    {g_entry : Addr} {od_entry an_entry : Option Addr} {sl_entry : Array (Option Value)} {oc_entry kV_entry dc_entry pm_entry cd_entry ct_entry : Value}
    (u_entry : PySem.W.nsIn K mainGlobals "is_entry" = some (some (.ref g_entry))) (l_entry : K.lookup g_entry = some ⟨oc_entry, od_entry, .func (PySem.W.fnOf "is_entry" "is_entry" (defArgs sEntry) (defBody sEntry) (defScope sEntry) .none kV_entry dc_entry pm_entry an_entry cd_entry ct_entry), sl_entry⟩) (v_entry : PySem.W.codeIn K cd_entry "is_entry" = true) (k_entry : PySem.W.keepIn K (.ref g_entry) = true)
    {g_flaw : Addr} {od_flaw an_flaw : Option Addr} {sl_flaw : Array (Option Value)} {oc_flaw kV_flaw dc_flaw pm_flaw cd_flaw ct_flaw : Value}
    (u_flaw : PySem.W.nsIn K mainGlobals "first_flaw" = some (some (.ref g_flaw))) (l_flaw : K.lookup g_flaw = some ⟨oc_flaw, od_flaw, .func (PySem.W.fnOf "first_flaw" "first_flaw" (defArgs sFlaw) (defBody sFlaw) (defScope sFlaw) .none kV_flaw dc_flaw pm_flaw an_flaw cd_flaw ct_flaw), sl_flaw⟩) (v_flaw : PySem.W.codeIn K cd_flaw "first_flaw" = true) (k_flaw : PySem.W.keepIn K (.ref g_flaw) = true)
    {g_isscr : Addr} {od_isscr an_isscr : Option Addr} {sl_isscr : Array (Option Value)} {oc_isscr kV_isscr dc_isscr pm_isscr cd_isscr ct_isscr : Value}
    (u_isscr : PySem.W.nsIn K mainGlobals "is_script" = some (some (.ref g_isscr))) (l_isscr : K.lookup g_isscr = some ⟨oc_isscr, od_isscr, .func (PySem.W.fnOf "is_script" "is_script" (defArgs sIsScr) (defBody sIsScr) (defScope sIsScr) .none kV_isscr dc_isscr pm_isscr an_isscr cd_isscr ct_isscr), sl_isscr⟩) (v_isscr : PySem.W.codeIn K cd_isscr "is_script" = true) (k_isscr : PySem.W.keepIn K (.ref g_isscr) = true)
    {g_chks : Addr} {od_chks an_chks : Option Addr} {sl_chks : Array (Option Value)} {oc_chks kV_chks dc_chks pm_chks cd_chks ct_chks : Value}
    (u_chks : PySem.W.nsIn K mainGlobals "check_script" = some (some (.ref g_chks))) (l_chks : K.lookup g_chks = some ⟨oc_chks, od_chks, .func (PySem.W.fnOf "check_script" "check_script" (defArgs sChkS) (defBody sChkS) (defScope sChkS) .none kV_chks dc_chks pm_chks an_chks cd_chks ct_chks), sl_chks⟩) (v_chks : PySem.W.codeIn K cd_chks "check_script" = true) (k_chks : PySem.W.keepIn K (.ref g_chks) = true)
    {g_scrof : Addr} {od_scrof an_scrof : Option Addr} {sl_scrof : Array (Option Value)} {oc_scrof kV_scrof dc_scrof pm_scrof cd_scrof ct_scrof : Value}
    (u_scrof : PySem.W.nsIn K mainGlobals "script_of" = some (some (.ref g_scrof))) (l_scrof : K.lookup g_scrof = some ⟨oc_scrof, od_scrof, .func (PySem.W.fnOf "script_of" "script_of" (defArgs sScrOf) (defBody sScrOf) (defScope sScrOf) .none kV_scrof dc_scrof pm_scrof an_scrof cd_scrof ct_scrof), sl_scrof⟩) (v_scrof : PySem.W.codeIn K cd_scrof "script_of" = true) (k_scrof : PySem.W.keepIn K (.ref g_scrof) = true)
    {g_diffof : Addr} {od_diffof an_diffof : Option Addr} {sl_diffof : Array (Option Value)} {oc_diffof kV_diffof dc_diffof pm_diffof cd_diffof ct_diffof : Value}
    (u_diffof : PySem.W.nsIn K mainGlobals "diff_of" = some (some (.ref g_diffof))) (l_diffof : K.lookup g_diffof = some ⟨oc_diffof, od_diffof, .func (PySem.W.fnOf "diff_of" "diff_of" (defArgs sDiffOf) (defBody sDiffOf) (defScope sDiffOf) .none kV_diffof dc_diffof pm_diffof an_diffof cd_diffof ct_diffof), sl_diffof⟩) (v_diffof : PySem.W.codeIn K cd_diffof "diff_of" = true) (k_diffof : PySem.W.keepIn K (.ref g_diffof) = true)
    {g_texts : Addr} {od_texts an_texts : Option Addr} {sl_texts : Array (Option Value)} {oc_texts kV_texts dc_texts pm_texts cd_texts ct_texts : Value}
    (u_texts : PySem.W.nsIn K mainGlobals "texts_of" = some (some (.ref g_texts))) (l_texts : K.lookup g_texts = some ⟨oc_texts, od_texts, .func (PySem.W.fnOf "texts_of" "texts_of" (defArgs sTexts) (defBody sTexts) (defScope sTexts) .none kV_texts dc_texts pm_texts an_texts cd_texts ct_texts), sl_texts⟩) (v_texts : PySem.W.codeIn K cd_texts "texts_of" = true) (k_texts : PySem.W.keepIn K (.ref g_texts) = true)
    {g_plain : Addr} {od_plain an_plain : Option Addr} {sl_plain : Array (Option Value)} {oc_plain kV_plain dc_plain pm_plain cd_plain ct_plain : Value}
    (u_plain : PySem.W.nsIn K mainGlobals "is_plain" = some (some (.ref g_plain))) (l_plain : K.lookup g_plain = some ⟨oc_plain, od_plain, .func (PySem.W.fnOf "is_plain" "is_plain" (defArgs sPlain) (defBody sPlain) (defScope sPlain) .none kV_plain dc_plain pm_plain an_plain cd_plain ct_plain), sl_plain⟩) (v_plain : PySem.W.codeIn K cd_plain "is_plain" = true) (k_plain : PySem.W.keepIn K (.ref g_plain) = true)
    {g_turns : Addr} {od_turns an_turns : Option Addr} {sl_turns : Array (Option Value)} {oc_turns kV_turns dc_turns pm_turns cd_turns ct_turns : Value}
    (u_turns : PySem.W.nsIn K mainGlobals "turned_script" = some (some (.ref g_turns))) (l_turns : K.lookup g_turns = some ⟨oc_turns, od_turns, .func (PySem.W.fnOf "turned_script" "turned_script" (defArgs sTurnS) (defBody sTurnS) (defScope sTurnS) .none kV_turns dc_turns pm_turns an_turns cd_turns ct_turns), sl_turns⟩) (v_turns : PySem.W.codeIn K cd_turns "turned_script" = true) (k_turns : PySem.W.keepIn K (.ref g_turns) = true)
    {g_play : Addr} {od_play an_play : Option Addr} {sl_play : Array (Option Value)} {oc_play kV_play dc_play pm_play cd_play ct_play : Value}
    (u_play : PySem.W.nsIn K mainGlobals "played_entries" = some (some (.ref g_play))) (l_play : K.lookup g_play = some ⟨oc_play, od_play, .func (PySem.W.fnOf "played_entries" "played_entries" (defArgs sPlay) (defBody sPlay) (defScope sPlay) .none kV_play dc_play pm_play an_play cd_play ct_play), sl_play⟩) (v_play : PySem.W.codeIn K cd_play "played_entries" = true) (k_play : PySem.W.keepIn K (.ref g_play) = true)
    {g_app : Addr} {od_app an_app : Option Addr} {sl_app : Array (Option Value)} {oc_app kV_app dc_app pm_app cd_app ct_app : Value}
    (u_app : PySem.W.nsIn K mainGlobals "applied" = some (some (.ref g_app))) (l_app : K.lookup g_app = some ⟨oc_app, od_app, .func (PySem.W.fnOf "applied" "applied" (defArgs sApp) (defBody sApp) (defScope sApp) .none kV_app dc_app pm_app an_app cd_app ct_app), sl_app⟩) (v_app : PySem.W.codeIn K cd_app "applied" = true) (k_app : PySem.W.keepIn K (.ref g_app) = true)
    {g_pot : Addr} {od_pot an_pot : Option Addr} {sl_pot : Array (Option Value)} {oc_pot kV_pot dc_pot pm_pot cd_pot ct_pot : Value}
    (u_pot : PySem.W.nsIn K mainGlobals "_law_pot" = some (some (.ref g_pot))) (l_pot : K.lookup g_pot = some ⟨oc_pot, od_pot, .func (PySem.W.fnOf "_law_pot" "_law_pot" (defArgs sPot) (defBody sPot) (defScope sPot) .none kV_pot dc_pot pm_pot an_pot cd_pot ct_pot), sl_pot⟩) (v_pot : PySem.W.codeIn K cd_pot "_law_pot" = true) (k_pot : PySem.W.keepIn K (.ref g_pot) = true)
    {g_draw : Addr} {od_draw an_draw : Option Addr} {sl_draw : Array (Option Value)} {oc_draw kV_draw dc_draw pm_draw cd_draw ct_draw : Value}
    (u_draw : PySem.W.nsIn K mainGlobals "_law_draw" = some (some (.ref g_draw))) (l_draw : K.lookup g_draw = some ⟨oc_draw, od_draw, .func (PySem.W.fnOf "_law_draw" "_law_draw" (defArgs sDraw) (defBody sDraw) (defScope sDraw) .none kV_draw dc_draw pm_draw an_draw cd_draw ct_draw), sl_draw⟩) (v_draw : PySem.W.codeIn K cd_draw "_law_draw" = true) (k_draw : PySem.W.keepIn K (.ref g_draw) = true)
    {g_pick : Addr} {od_pick an_pick : Option Addr} {sl_pick : Array (Option Value)} {oc_pick kV_pick dc_pick pm_pick cd_pick ct_pick : Value}
    (u_pick : PySem.W.nsIn K mainGlobals "_law_pick" = some (some (.ref g_pick))) (l_pick : K.lookup g_pick = some ⟨oc_pick, od_pick, .func (PySem.W.fnOf "_law_pick" "_law_pick" (defArgs sPick) (defBody sPick) (defScope sPick) .none kV_pick dc_pick pm_pick an_pick cd_pick ct_pick), sl_pick⟩) (v_pick : PySem.W.codeIn K cd_pick "_law_pick" = true) (k_pick : PySem.W.keepIn K (.ref g_pick) = true)
    {g_ltext : Addr} {od_ltext an_ltext : Option Addr} {sl_ltext : Array (Option Value)} {oc_ltext kV_ltext dc_ltext pm_ltext cd_ltext ct_ltext : Value}
    (u_ltext : PySem.W.nsIn K mainGlobals "_law_text" = some (some (.ref g_ltext))) (l_ltext : K.lookup g_ltext = some ⟨oc_ltext, od_ltext, .func (PySem.W.fnOf "_law_text" "_law_text" (defArgs sText) (defBody sText) (defScope sText) .none kV_ltext dc_ltext pm_ltext an_ltext cd_ltext ct_ltext), sl_ltext⟩) (v_ltext : PySem.W.codeIn K cd_ltext "_law_text" = true) (k_ltext : PySem.W.keepIn K (.ref g_ltext) = true)
    {g_near : Addr} {od_near an_near : Option Addr} {sl_near : Array (Option Value)} {oc_near kV_near dc_near pm_near cd_near ct_near : Value}
    (u_near : PySem.W.nsIn K mainGlobals "_law_near" = some (some (.ref g_near))) (l_near : K.lookup g_near = some ⟨oc_near, od_near, .func (PySem.W.fnOf "_law_near" "_law_near" (defArgs sNear) (defBody sNear) (defScope sNear) .none kV_near dc_near pm_near an_near cd_near ct_near), sl_near⟩) (v_near : PySem.W.codeIn K cd_near "_law_near" = true) (k_near : PySem.W.keepIn K (.ref g_near) = true)
    {g_two : Addr} {od_two an_two : Option Addr} {sl_two : Array (Option Value)} {oc_two kV_two dc_two pm_two cd_two ct_two : Value}
    (u_two : PySem.W.nsIn K mainGlobals "_law_two" = some (some (.ref g_two))) (l_two : K.lookup g_two = some ⟨oc_two, od_two, .func (PySem.W.fnOf "_law_two" "_law_two" (defArgs sTwo) (defBody sTwo) (defScope sTwo) .none kV_two dc_two pm_two an_two cd_two ct_two), sl_two⟩) (v_two : PySem.W.codeIn K cd_two "_law_two" = true) (k_two : PySem.W.keepIn K (.ref g_two) = true)
    {g_diff : Addr} {od_diff an_diff : Option Addr} {sl_diff : Array (Option Value)} {oc_diff kV_diff dc_diff pm_diff cd_diff ct_diff : Value}
    (u_diff : PySem.W.nsIn K mainGlobals "_law_diff" = some (some (.ref g_diff))) (l_diff : K.lookup g_diff = some ⟨oc_diff, od_diff, .func (PySem.W.fnOf "_law_diff" "_law_diff" (defArgs sDiff) (defBody sDiff) (defScope sDiff) .none kV_diff dc_diff pm_diff an_diff cd_diff ct_diff), sl_diff⟩) (v_diff : PySem.W.codeIn K cd_diff "_law_diff" = true) (k_diff : PySem.W.keepIn K (.ref g_diff) = true)
    {g_lscr : Addr} {od_lscr an_lscr : Option Addr} {sl_lscr : Array (Option Value)} {oc_lscr kV_lscr dc_lscr pm_lscr cd_lscr ct_lscr : Value}
    (u_lscr : PySem.W.nsIn K mainGlobals "_law_script" = some (some (.ref g_lscr))) (l_lscr : K.lookup g_lscr = some ⟨oc_lscr, od_lscr, .func (PySem.W.fnOf "_law_script" "_law_script" (defArgs sLScr) (defBody sLScr) (defScope sLScr) .none kV_lscr dc_lscr pm_lscr an_lscr cd_lscr ct_lscr), sl_lscr⟩) (v_lscr : PySem.W.codeIn K cd_lscr "_law_script" = true) (k_lscr : PySem.W.keepIn K (.ref g_lscr) = true)
    {g_lturn : Addr} {od_lturn an_lturn : Option Addr} {sl_lturn : Array (Option Value)} {oc_lturn kV_lturn dc_lturn pm_lturn cd_lturn ct_lturn : Value}
    (u_lturn : PySem.W.nsIn K mainGlobals "_law_turned" = some (some (.ref g_lturn))) (l_lturn : K.lookup g_lturn = some ⟨oc_lturn, od_lturn, .func (PySem.W.fnOf "_law_turned" "_law_turned" (defArgs sLTurn) (defBody sLTurn) (defScope sLTurn) .none kV_lturn dc_lturn pm_lturn an_lturn cd_lturn ct_lturn), sl_lturn⟩) (v_lturn : PySem.W.codeIn K cd_lturn "_law_turned" = true) (k_lturn : PySem.W.keepIn K (.ref g_lturn) = true)
    {g_ltxs : Addr} {od_ltxs an_ltxs : Option Addr} {sl_ltxs : Array (Option Value)} {oc_ltxs kV_ltxs dc_ltxs pm_ltxs cd_ltxs ct_ltxs : Value}
    (u_ltxs : PySem.W.nsIn K mainGlobals "_law_texts" = some (some (.ref g_ltxs))) (l_ltxs : K.lookup g_ltxs = some ⟨oc_ltxs, od_ltxs, .func (PySem.W.fnOf "_law_texts" "_law_texts" (defArgs sLTexts) (defBody sLTexts) (defScope sLTexts) .none kV_ltxs dc_ltxs pm_ltxs an_ltxs cd_ltxs ct_ltxs), sl_ltxs⟩) (v_ltxs : PySem.W.codeIn K cd_ltxs "_law_texts" = true) (k_ltxs : PySem.W.keepIn K (.ref g_ltxs) = true)
    {g_lprs : Addr} {od_lprs an_lprs : Option Addr} {sl_lprs : Array (Option Value)} {oc_lprs kV_lprs dc_lprs pm_lprs cd_lprs ct_lprs : Value}
    (u_lprs : PySem.W.nsIn K mainGlobals "_law_pairs" = some (some (.ref g_lprs))) (l_lprs : K.lookup g_lprs = some ⟨oc_lprs, od_lprs, .func (PySem.W.fnOf "_law_pairs" "_law_pairs" (defArgs sLPairs) (defBody sLPairs) (defScope sLPairs) .none kV_lprs dc_lprs pm_lprs an_lprs cd_lprs ct_lprs), sl_lprs⟩) (v_lprs : PySem.W.codeIn K cd_lprs "_law_pairs" = true) (k_lprs : PySem.W.keepIn K (.ref g_lprs) = true)
    {g_lpl : Addr} {od_lpl an_lpl : Option Addr} {sl_lpl : Array (Option Value)} {oc_lpl kV_lpl dc_lpl pm_lpl cd_lpl ct_lpl : Value}
    (u_lpl : PySem.W.nsIn K mainGlobals "_law_is_plain" = some (some (.ref g_lpl))) (l_lpl : K.lookup g_lpl = some ⟨oc_lpl, od_lpl, .func (PySem.W.fnOf "_law_is_plain" "_law_is_plain" (defArgs sLPlain) (defBody sLPlain) (defScope sLPlain) .none kV_lpl dc_lpl pm_lpl an_lpl cd_lpl ct_lpl), sl_lpl⟩) (v_lpl : PySem.W.codeIn K cd_lpl "_law_is_plain" = true) (k_lpl : PySem.W.keepIn K (.ref g_lpl) = true)
    {g_lent : Addr} {od_lent an_lent : Option Addr} {sl_lent : Array (Option Value)} {oc_lent kV_lent dc_lent pm_lent cd_lent ct_lent : Value}
    (u_lent : PySem.W.nsIn K mainGlobals "_law_entries" = some (some (.ref g_lent))) (l_lent : K.lookup g_lent = some ⟨oc_lent, od_lent, .func (PySem.W.fnOf "_law_entries" "_law_entries" (defArgs sLEnt) (defBody sLEnt) (defScope sLEnt) .none kV_lent dc_lent pm_lent an_lent cd_lent ct_lent), sl_lent⟩) (v_lent : PySem.W.codeIn K cd_lent "_law_entries" = true) (k_lent : PySem.W.keepIn K (.ref g_lent) = true)
    {g_ler : Addr} {od_ler an_ler : Option Addr} {sl_ler : Array (Option Value)} {oc_ler kV_ler dc_ler pm_ler cd_ler ct_ler : Value}
    (u_ler : PySem.W.nsIn K mainGlobals "_law_entries_right" = some (some (.ref g_ler))) (l_ler : K.lookup g_ler = some ⟨oc_ler, od_ler, .func (PySem.W.fnOf "_law_entries_right" "_law_entries_right" (defArgs sLER) (defBody sLER) (defScope sLER) .none kV_ler dc_ler pm_ler an_ler cd_ler ct_ler), sl_ler⟩) (v_ler : PySem.W.codeIn K cd_ler "_law_entries_right" = true) (k_ler : PySem.W.keepIn K (.ref g_ler) = true)
    {g_lrt : Addr} {od_lrt an_lrt : Option Addr} {sl_lrt : Array (Option Value)} {oc_lrt kV_lrt dc_lrt pm_lrt cd_lrt ct_lrt : Value}
    (u_lrt : PySem.W.nsIn K mainGlobals "_law_right" = some (some (.ref g_lrt))) (l_lrt : K.lookup g_lrt = some ⟨oc_lrt, od_lrt, .func (PySem.W.fnOf "_law_right" "_law_right" (defArgs sLRt) (defBody sLRt) (defScope sLRt) .none kV_lrt dc_lrt pm_lrt an_lrt cd_lrt ct_lrt), sl_lrt⟩) (v_lrt : PySem.W.codeIn K cd_lrt "_law_right" = true) (k_lrt : PySem.W.keepIn K (.ref g_lrt) = true)
    {g_law : Addr} {od_law an_law : Option Addr} {sl_law : Array (Option Value)} {oc_law kV_law dc_law pm_law cd_law ct_law : Value}
    (u_law : PySem.W.nsIn K mainGlobals "law" = some (some (.ref g_law))) (l_law : K.lookup g_law = some ⟨oc_law, od_law, .func (PySem.W.fnOf "law" "law" (defArgs sLaw) (defBody sLaw) (defScope sLaw) .none kV_law dc_law pm_law an_law cd_law ct_law), sl_law⟩) (v_law : PySem.W.codeIn K cd_law "law" = true) (k_law : PySem.W.keepIn K (.ref g_law) = true)
    (zz : (["len", "abs", "max", "min", "int", "divmod", "repr", "isinstance", "enumerate", "range", "all", "super", "zip", "tuple", "dict", "bool", "str", "list", "any"].map fun x => PySem.W.nsIn K mainGlobals (Str.ofString x)) = [some none, some none, some none, some none, some none, some none, some none, some none, some none, some none, some none, some none, some none, some none, some none, some none, some none, some none, some none])
    {t_MOST : Nat} (c_MOST : PySem.W.nsIn K mainGlobals "MOST" = some (some (.int 60 t_MOST)))
    {tW tD : Addr} {odW : Option Addr} {slW : Array (Option Value)} {nW nD w1 w2 w3 d1 d2 d3 : Nat} {esD : Array DictEntry}
    (x_gW : PySem.W.nsIn K mainGlobals "WORDS" = some (some (.ref tW)))
    (x_lW : K.lookup tW = some ⟨.type "tuple", odW, .seq #[.str "keep" w1, .str "go" w2, .str "come" w3] nW, slW⟩)
    (x_gD : PySem.W.nsIn K mainGlobals "TURNED" = some (some (.ref tD)))
    (x_lD : K.lookup tD = some ⟨.type "dict", none, .dict esD nD, #[]⟩)
    (x_kD : PySem.W.KeysLit w.params esD.toList)
    (x_d1 : PySem.W.nsIn K tD "keep" = some (some (.str "keep" d1)))
    (x_d2 : PySem.W.nsIn K tD "go" = some (some (.str "come" d2)))
    (x_d3 : PySem.W.nsIn K tD "come" = some (some (.str "go" d3)))
    : ∃ fd : FuncData, (∀ (s : Shared) (v : Value), BindsTo s fd ⟨[v], []⟩ [("_law_script_here", v)]) ∧ ∀ base : Heap, K.In base → base.Ns mainGlobals mg → FnG prg w K mg base 10 fa fd ["_law_script_here"] (spLaw K) := by
  have e := hfa.symm.trans (PySem.W.mg_of X G u_law)
  cases e
  have zb : ∀ x ∈ (["len", "abs", "max", "min", "int", "divmod", "repr", "isinstance", "enumerate", "range", "all", "super", "zip", "tuple", "dict", "bool", "str", "list", "any"] : List String), mg (Str.ofString x) = none := fun x hx => PySem.W.mg_none_of X G (by
    have e : ∀ y ∈ (["len", "abs", "max", "min", "int", "divmod", "repr", "isinstance", "enumerate", "range", "all", "super", "zip", "tuple", "dict", "bool", "str", "list", "any"] : List String), (fun x => PySem.W.nsIn K mainGlobals (Str.ofString x)) y = (fun _ => some none) y := List.map_inj_left.mp (zz.trans rfl)
    exact e x hx)
  have T : Blt mg := ⟨fun x hx => by
    simp only [List.mem_cons, List.not_mem_nil, or_false] at hx
    rcases hx with rfl | rfl | rfl | rfl | rfl | rfl | rfl | rfl | rfl | rfl | rfl | rfl | rfl | rfl | rfl | rfl | rfl | rfl <;> exact zb _ (by decide)⟩
  have X_InvalidText := xok_InvalidText X G a_InvalidText b_InvalidText i_InvalidText S_InvalidText
  have X_InvalidDiff := xok_InvalidDiff X G a_InvalidDiff b_InvalidDiff i_InvalidDiff S_InvalidDiff
  have X_InvalidScript := xok_InvalidScript X G a_InvalidScript b_InvalidScript i_InvalidScript S_InvalidScript
  have M_MOST := PySem.W.mg_of X G c_MOST
  have F_whole := fun_mk (st := sWhole) l_whole v_whole k_whole
  have b_whole := F_whole.binds (ps := ["value"]) fun _ _ _ _ _ _ us hl => match us, hl with | [_], _ => rfl
  have m_whole := PySem.W.mg_of X G u_whole
  have F_list := fun_mk (st := sIsList) l_list v_list k_list
  have b_list := F_list.binds (ps := ["value"]) fun _ _ _ _ _ _ us hl => match us, hl with | [_], _ => rfl
  have m_list := PySem.W.mg_of X G u_list
  have F_tup := fun_mk (st := sIsTuple) l_tup v_tup k_tup
  have b_tup := F_tup.binds (ps := ["value", "many"]) fun _ _ _ _ _ _ us hl => match us, hl with | [_, _], _ => rfl
  have m_tup := PySem.W.mg_of X G u_tup
  have F_spot := fun_mk (st := sSpot) l_spot v_spot k_spot
  have b_spot := F_spot.binds (ps := ["value"]) fun _ _ _ _ _ _ us hl => match us, hl with | [_], _ => rfl
  have m_spot := PySem.W.mg_of X G u_spot
  have F_line := fun_mk (st := sLine) l_line v_line k_line
  have b_line := F_line.binds (ps := ["value"]) fun _ _ _ _ _ _ us hl => match us, hl with | [_], _ => rfl
  have m_line := PySem.W.mg_of X G u_line
  have F_text := fun_mk (st := sIsText) l_text v_text k_text
  have b_text := F_text.binds (ps := ["value"]) fun _ _ _ _ _ _ us hl => match us, hl with | [_], _ => rfl
  have m_text := PySem.W.mg_of X G u_text
  have F_check := fun_mk (st := sCheck) l_check v_check k_check
  have m_check := PySem.W.mg_of X G u_check
  have F_pair := fun_mk (st := sPair) l_pair v_pair k_pair
  have b_pair := F_pair.binds (ps := ["old", "new", "value"]) fun _ _ _ _ _ _ us hl => match us, hl with | [_, _, _], _ => rfl
  have m_pair := PySem.W.mg_of X G u_pair
  have F_rise := fun_mk (st := sRising) l_rise v_rise k_rise
  have b_rise := F_rise.binds (ps := ["pairs"]) fun _ _ _ _ _ _ us hl => match us, hl with | [_], _ => rfl
  have m_rise := PySem.W.mg_of X G u_rise
  have F_isdiff := fun_mk (st := sIsDiff) l_isdiff v_isdiff k_isdiff
  have b_isdiff := F_isdiff.binds (ps := ["old", "new", "value"]) fun _ _ _ _ _ _ us hl => match us, hl with | [_, _, _], _ => rfl
  have m_isdiff := PySem.W.mg_of X G u_isdiff
  have F_checkd := fun_mk (st := sCheckD) l_checkd v_checkd k_checkd
  have b_checkd := F_checkd.binds (ps := ["old", "new", "diff"]) fun _ _ _ _ _ _ us hl => match us, hl with | [_, _, _], _ => rfl
  have m_checkd := PySem.W.mg_of X G u_checkd
  have F_gaps := fun_mk (st := sGaps) l_gaps v_gaps k_gaps
  have b_gaps := F_gaps.binds (ps := ["old", "new", "diff"]) fun _ _ _ _ _ _ us hl => match us, hl with | [_, _, _], _ => rfl
  have m_gaps := PySem.W.mg_of X G u_gaps
  have F_entry := fun_mk (st := sEntry) l_entry v_entry k_entry
  have b_entry := F_entry.binds (ps := ["value"]) fun _ _ _ _ _ _ us hl => match us, hl with | [_], _ => rfl
  have m_entry := PySem.W.mg_of X G u_entry
  have F_flaw := fun_mk (st := sFlaw) l_flaw v_flaw k_flaw
  have b_flaw := F_flaw.binds (ps := ["items"]) fun _ _ _ _ _ _ us hl => match us, hl with | [_], _ => rfl
  have m_flaw := PySem.W.mg_of X G u_flaw
  have F_isscr := fun_mk (st := sIsScr) l_isscr v_isscr k_isscr
  have b_isscr := F_isscr.binds (ps := ["value"]) fun _ _ _ _ _ _ us hl => match us, hl with | [_], _ => rfl
  have m_isscr := PySem.W.mg_of X G u_isscr
  have F_chks := fun_mk (st := sChkS) l_chks v_chks k_chks
  have b_chks := F_chks.binds (ps := ["entries"]) fun _ _ _ _ _ _ us hl => match us, hl with | [_], _ => rfl
  have m_chks := PySem.W.mg_of X G u_chks
  have F_scrof := fun_mk (st := sScrOf) l_scrof v_scrof k_scrof
  have b_scrof := F_scrof.binds (ps := ["old", "new", "diff"]) fun _ _ _ _ _ _ us hl => match us, hl with | [_, _, _], _ => rfl
  have m_scrof := PySem.W.mg_of X G u_scrof
  have F_diffof := fun_mk (st := sDiffOf) l_diffof v_diffof k_diffof
  have b_diffof := F_diffof.binds (ps := ["entries"]) fun _ _ _ _ _ _ us hl => match us, hl with | [_], _ => rfl
  have m_diffof := PySem.W.mg_of X G u_diffof
  have F_texts := fun_mk (st := sTexts) l_texts v_texts k_texts
  have b_texts := F_texts.binds (ps := ["entries"]) fun _ _ _ _ _ _ us hl => match us, hl with | [_], _ => rfl
  have m_texts := PySem.W.mg_of X G u_texts
  have F_plain := fun_mk (st := sPlain) l_plain v_plain k_plain
  have b_plain := F_plain.binds (ps := ["entries"]) fun _ _ _ _ _ _ us hl => match us, hl with | [_], _ => rfl
  have m_plain := PySem.W.mg_of X G u_plain
  have F_turns := fun_mk (st := sTurnS) l_turns v_turns k_turns
  have b_turns := F_turns.binds (ps := ["entries"]) fun _ _ _ _ _ _ us hl => match us, hl with | [_], _ => rfl
  have m_turns := PySem.W.mg_of X G u_turns
  have F_play := fun_mk (st := sPlay) l_play v_play k_play
  have b_play := F_play.binds (ps := ["old", "entries"]) fun _ _ _ _ _ _ us hl => match us, hl with | [_, _], _ => rfl
  have m_play := PySem.W.mg_of X G u_play
  have F_app := fun_mk (st := sApp) l_app v_app k_app
  have b_app := F_app.binds (ps := ["old", "entries"]) fun _ _ _ _ _ _ us hl => match us, hl with | [_, _], _ => rfl
  have m_app := PySem.W.mg_of X G u_app
  have F_pot := fun_mk (st := sPot) l_pot v_pot k_pot
  have b_pot := F_pot.binds (ps := ["_law_script_here", "_law_index"]) fun _ _ _ _ _ _ us hl => match us, hl with | [_, _], _ => rfl
  have m_pot := PySem.W.mg_of X G u_pot
  have F_draw := fun_mk (st := sDraw) l_draw v_draw k_draw
  have b_draw := F_draw.binds (ps := ["_law_pot_here", "_law_many"]) fun _ _ _ _ _ _ us hl => match us, hl with | [_, _], _ => rfl
  have m_draw := PySem.W.mg_of X G u_draw
  have F_pick := fun_mk (st := sPick) l_pick v_pick k_pick
  have b_pick := F_pick.binds (ps := ["_law_pot_here", "_law_some"]) fun _ _ _ _ _ _ us hl => match us, hl with | [_, _], _ => rfl
  have m_pick := PySem.W.mg_of X G u_pick
  have F_ltext := fun_mk (st := sText) l_ltext v_ltext k_ltext
  have b_ltext := F_ltext.binds (ps := ["_law_pot_here", "_law_most"]) fun _ _ _ _ _ _ us hl => match us, hl with | [_, _], _ => rfl
  have m_ltext := PySem.W.mg_of X G u_ltext
  have F_near := fun_mk (st := sNear) l_near v_near k_near
  have b_near := F_near.binds (ps := ["_law_pot_here", "_law_lines", "_law_most"]) fun _ _ _ _ _ _ us hl => match us, hl with | [_, _, _], _ => rfl
  have m_near := PySem.W.mg_of X G u_near
  have F_two := fun_mk (st := sTwo) l_two v_two k_two
  have b_two := F_two.binds (ps := ["_law_pot_here", "_law_most"]) fun _ _ _ _ _ _ us hl => match us, hl with | [_, _], _ => rfl
  have m_two := PySem.W.mg_of X G u_two
  have F_diff := fun_mk (st := sDiff) l_diff v_diff k_diff
  have b_diff := F_diff.binds (ps := ["_law_pot_here", "_law_elder", "_law_newer"]) fun _ _ _ _ _ _ us hl => match us, hl with | [_, _, _], _ => rfl
  have m_diff := PySem.W.mg_of X G u_diff
  have F_lscr := fun_mk (st := sLScr) l_lscr v_lscr k_lscr
  have b_lscr := F_lscr.binds (ps := ["_law_elder", "_law_newer", "_law_pairing"]) fun _ _ _ _ _ _ us hl => match us, hl with | [_, _, _], _ => rfl
  have m_lscr := PySem.W.mg_of X G u_lscr
  have F_lturn := fun_mk (st := sLTurn) l_lturn v_lturn k_lturn
  have b_lturn := F_lturn.binds (ps := ["_law_entries_now"]) fun _ _ _ _ _ _ us hl => match us, hl with | [_], _ => rfl
  have m_lturn := PySem.W.mg_of X G u_lturn
  have F_ltxs := fun_mk (st := sLTexts) l_ltxs v_ltxs k_ltxs
  have b_ltxs := F_ltxs.binds (ps := ["_law_entries_now"]) fun _ _ _ _ _ _ us hl => match us, hl with | [_], _ => rfl
  have m_ltxs := PySem.W.mg_of X G u_ltxs
  have F_lprs := fun_mk (st := sLPairs) l_lprs v_lprs k_lprs
  have b_lprs := F_lprs.binds (ps := ["_law_entries_now"]) fun _ _ _ _ _ _ us hl => match us, hl with | [_], _ => rfl
  have m_lprs := PySem.W.mg_of X G u_lprs
  have F_lpl := fun_mk (st := sLPlain) l_lpl v_lpl k_lpl
  have b_lpl := F_lpl.binds (ps := ["_law_entries_now"]) fun _ _ _ _ _ _ us hl => match us, hl with | [_], _ => rfl
  have m_lpl := PySem.W.mg_of X G u_lpl
  have F_lent := fun_mk (st := sLEnt) l_lent v_lent k_lent
  have b_lent := F_lent.binds (ps := ["_law_pot_here"]) fun _ _ _ _ _ _ us hl => match us, hl with | [_], _ => rfl
  have m_lent := PySem.W.mg_of X G u_lent
  have F_ler := fun_mk (st := sLER) l_ler v_ler k_ler
  have b_ler := F_ler.binds (ps := ["_law_entries_now"]) fun _ _ _ _ _ _ us hl => match us, hl with | [_], _ => rfl
  have m_ler := PySem.W.mg_of X G u_ler
  have F_lrt := fun_mk (st := sLRt) l_lrt v_lrt k_lrt
  have b_lrt := F_lrt.binds (ps := ["_law_elder", "_law_newer", "_law_pairing"]) fun _ _ _ _ _ _ us hl => match us, hl with | [_, _, _], _ => rfl
  have m_lrt := PySem.W.mg_of X G u_lrt
  have F_law := fun_mk (st := sLaw) l_law v_law k_law
  have b_law := F_law.binds (ps := ["_law_script_here"]) fun _ _ _ _ _ _ us hl => match us, hl with | [_], _ => rfl
  have m_law := PySem.W.mg_of X G u_law
  have M_W := PySem.W.mg_of X G x_gW
  have M_D := PySem.W.mg_of X G x_gD
  have hW : WordsAt K tW := fun H => .inr ⟨_, _, _, x_lW, rfl, rfl, by show 3 ≤ sizeLine; decide, .cons ⟨_, rfl⟩ (.cons ⟨_, rfl⟩ (.cons ⟨_, rfl⟩ .nil))⟩
  have hT : TurnAt K w tD := ⟨⟨_, _, _, x_lD, x_kD, x_d1, ⟨_, rfl⟩⟩, ⟨_, _, _, x_lD, x_kD, x_d2, ⟨_, rfl⟩⟩, ⟨_, _, _, x_lD, x_kD, x_d3, ⟨_, rfl⟩⟩⟩
  refine ⟨PySem.W.fnOf "law" "law" (defArgs sLaw) (defBody sLaw) (defScope sLaw) .none kV_law dc_law pm_law an_law cd_law ct_law, fun s v => .of_eq rfl, fun base _ _ => ?_⟩
  have G_whole := ok_whole (P := prg) (w := w) (base := base) F_whole T
  have G_tup := ok_tup (P := prg) (w := w) (base := base) F_tup T
  have G_spot := ok_spot (P := prg) (w := w) (base := base) F_spot T F_tup b_tup m_tup F_whole b_whole m_whole
  have G_line := ok_line (P := prg) (w := w) (base := base) F_line T
  have G_text := ok_isText (P := prg) (w := w) (base := base) F_text T M_MOST F_list b_list m_list F_line b_line m_line
  have G_check := ok_check (P := prg) (w := w) (base := base) l_check v_check (T.all "super" (by decide)) X_InvalidText F_text G_text b_text m_text
  have G_pair := ok_pair (P := prg) (w := w) (base := base) F_pair T F_spot G_spot b_spot m_spot
  have G_isdiff := ok_isDiff (P := prg) (w := w) (base := base) F_isdiff T G_check k_check m_check F_pair G_pair b_pair m_pair F_rise b_rise m_rise
  have G_checkd := ok_checkD (P := prg) (w := w) (base := base) F_checkd (T.all "super" (by decide)) X_InvalidDiff F_isdiff G_isdiff b_isdiff m_isdiff
  have CK : Chk prg w K mg base g_checkd _ _ _ := ⟨F_checkd, G_checkd, b_checkd, m_checkd⟩
  have G_gaps := ok_gaps (P := prg) (w := w) (base := base) F_gaps T
  have G_entry := ok_entry (P := prg) (w := w) (base := base) F_entry T M_W hW F_tup b_tup m_tup F_line b_line m_line
  have G_flaw := ok_flaw (P := prg) (w := w) (base := base) F_flaw T M_MOST F_entry G_entry b_entry m_entry
  have G_isscr := ok_isScr (P := prg) (w := w) (base := base) F_isscr T F_flaw G_flaw b_flaw m_flaw F_list b_list m_list
  have G_chks := ok_chkS (P := prg) (w := w) (base := base) F_chks T X_InvalidScript F_flaw G_flaw b_flaw m_flaw F_list b_list m_list
  have G_scrof := ok_scrOf (P := prg) (w := w) (base := base) F_scrof T CK F_gaps G_gaps b_gaps m_gaps
  have G_diffof := ok_diffOf (P := prg) (w := w) (base := base) F_diffof T F_chks G_chks b_chks m_chks
  have G_texts := ok_texts (P := prg) (w := w) (base := base) F_texts F_chks G_chks b_chks m_chks
  have G_plain := ok_plain (P := prg) (w := w) (base := base) F_plain T F_texts G_texts b_texts m_texts F_scrof G_scrof b_scrof m_scrof F_diffof G_diffof b_diffof m_diffof
  have G_turns := ok_turnS (P := prg) (w := w) (base := base) F_turns M_D hT F_chks G_chks b_chks m_chks
  have G_play := ok_play (P := prg) (w := w) (base := base) F_play T X_InvalidScript G_check k_check m_check F_chks G_chks b_chks m_chks
  have G_app := ok_app (P := prg) (w := w) (base := base) F_app F_play G_play b_play m_play
  have G_pot := ok_pot (P := prg) (w := w) (base := base) F_pot T
  have G_draw := ok_draw (P := prg) (w := w) (base := base) F_draw T
  have G_pick := ok_pick (P := prg) (w := w) (base := base) F_pick T F_draw b_draw m_draw
  have DR : Draws prg w K mg base _ _ _ _ := ⟨F_draw, G_draw, b_draw, m_draw, F_pick, G_pick, b_pick, m_pick⟩
  have G_ltext := ok_text (P := prg) (w := w) (base := base) F_ltext T DR
  have G_near := ok_near (P := prg) (w := w) (base := base) F_near T DR
  have G_two := ok_two (P := prg) (w := w) (base := base) F_two T DR F_ltext b_ltext m_ltext F_near b_near m_near
  have G_diff := ok_diffX (P := prg) (w := w) (base := base) F_diff T DR
  have G_lscr := ok_lScr (P := prg) (w := w) (base := base) F_lscr T
  have G_lturn := ok_lTurn (P := prg) (w := w) (base := base) (mg := mg) F_lturn
  have G_ltxs := ok_lTexts (P := prg) (w := w) (base := base) (mg := mg) F_ltxs
  have G_lprs := ok_lPairs (P := prg) (w := w) (base := base) F_lprs T
  have G_lpl := ok_lPlain (P := prg) (w := w) (base := base) F_lpl T (zb "any" (by decide))
  have G_lent := ok_lEnt (P := prg) (w := w) (base := base) F_lent T DR
  have G_ler := ok_lER (P := prg) (w := w) (base := base) F_ler T ⟨F_texts, G_texts, b_texts, m_texts⟩ (kb1 F_texts fun _ _ _ _ _ _ _ => rfl) ⟨F_diffof, G_diffof, b_diffof, m_diffof⟩ (kb1 F_diffof fun _ _ _ _ _ _ _ => rfl) ⟨F_plain, G_plain, b_plain, m_plain⟩ (kb1 F_plain fun _ _ _ _ _ _ _ => rfl) ⟨F_turns, G_turns, b_turns, m_turns⟩ (kb1 F_turns fun _ _ _ _ _ _ _ => rfl) ⟨F_app, G_app, b_app, m_app⟩ (kb2 F_app fun _ _ _ _ _ _ _ _ => rfl) ⟨F_isscr, G_isscr, b_isscr, m_isscr⟩ ⟨F_scrof, G_scrof, b_scrof, m_scrof⟩ ⟨F_ltxs, G_ltxs, b_ltxs, m_ltxs⟩ ⟨F_lprs, G_lprs, b_lprs, m_lprs⟩ ⟨F_lpl, G_lpl, b_lpl, m_lpl⟩ ⟨F_lturn, G_lturn, b_lturn, m_lturn⟩
  have G_lrt := ok_lRt (P := prg) (w := w) (base := base) F_lrt T ⟨F_texts, G_texts, b_texts, m_texts⟩ ⟨F_diffof, G_diffof, b_diffof, m_diffof⟩ ⟨F_plain, G_plain, b_plain, m_plain⟩ ⟨F_scrof, G_scrof, b_scrof, m_scrof⟩ (kb3 F_scrof fun _ _ _ _ _ _ _ _ _ => rfl) ⟨F_lscr, G_lscr, b_lscr, m_lscr⟩ F_ler G_ler b_ler m_ler
  exact ok_law F_law T DR F_pot G_pot b_pot m_pot F_two G_two b_two m_two F_diff G_diff b_diff m_diff F_lent G_lent b_lent m_lent F_ler G_ler b_ler m_ler F_lrt G_lrt b_lrt m_lrt
theorem walk {l : PySem.W.OpenLaw} {q : Program} {loose : List Str} {XP : (Str → Option Value) → Heap → Prop} {YP : World → Heap → Prop} {d : DefRec} {K : Params → PySem.W.Frag} (hn : l.most = some 63) (hdf : d.params.defaults = [])
    (hY : ∀ (w : World) (h : Heap), YP w h → (K w.params).In h)
    (F : ∀ (w : World) (mg : Str → Option Value) (fa : Addr) (h : Heap), (K w.params).In h → h.Ns mainGlobals mg → mg d.name = some (.ref fa) →
      ∃ fd : FuncData, (∀ (s : Shared) (u : Value), BindsTo s fd ⟨[u], []⟩ [("_law_script_here", u)]) ∧ ∀ base : Heap, (K w.params).In base → base.Ns mainGlobals mg → FnG l.prog w (K w.params) mg base 10 fa fd ["_law_script_here"] (spLaw (K w.params))) :
    PySem.W.WalkO q loose XP YP l.row.toRowW d [] (fun f vs => PySem.call f vs) :=
  walkG (n := 63) (k := 10) (x := "_law_script_here") (sp := fun w => spLaw (K w.params)) hn (by decide) hdf ⟨rfl, by decide, by decide⟩ hY F (fun _ _ a ns hl _ hS => ⟨a, ns, rfl, hS, hl, fun _ => rfl⟩)
end K17
open PySem PySem.W PyProof.Rows
set_option maxRecDepth 100000 in
set_option maxHeartbeats 0 in
theorem PySem.Challenge.cw_alldiffs_k17_whole_scripts_there_and_bac_holds : PySem.Challenge.rw_alldiffs_k17_whole_scripts_there_and_bac.Holds := by
  w_on; o_law; k_head; (case hw => w_witness2)
  k_fill
  refine K17.walk (l := PySem.Challenge.rw_alldiffs_k17_whole_scripts_there_and_bac) rfl rfl (fun w h Y => PySem.W.kIn_of Y) ?F
  case F =>
    intro w mg fa h KX G hmg
    refine' K17.all_mk KX G hmg ?a_InvalidText ?b_InvalidText ?i_InvalidText ?S_InvalidText ?a_InvalidDiff ?b_InvalidDiff ?i_InvalidDiff ?S_InvalidDiff ?a_InvalidScript ?b_InvalidScript ?i_InvalidScript ?S_InvalidScript ?u_whole ?l_whole ?v_whole ?k_whole ?u_list ?l_list ?v_list ?k_list ?u_tup ?l_tup ?v_tup ?k_tup ?u_spot ?l_spot ?v_spot ?k_spot ?u_line ?l_line ?v_line ?k_line ?u_text ?l_text ?v_text ?k_text ?u_check ?l_check ?v_check ?k_check ?u_pair ?l_pair ?v_pair ?k_pair ?u_rise ?l_rise ?v_rise ?k_rise ?u_isdiff ?l_isdiff ?v_isdiff ?k_isdiff ?u_checkd ?l_checkd ?v_checkd ?k_checkd ?u_gaps ?l_gaps ?v_gaps ?k_gaps ?u_entry ?l_entry ?v_entry ?k_entry ?u_flaw ?l_flaw ?v_flaw ?k_flaw ?u_isscr ?l_isscr ?v_isscr ?k_isscr ?u_chks ?l_chks ?v_chks ?k_chks ?u_scrof ?l_scrof ?v_scrof ?k_scrof ?u_diffof ?l_diffof ?v_diffof ?k_diffof ?u_texts ?l_texts ?v_texts ?k_texts ?u_plain ?l_plain ?v_plain ?k_plain ?u_turns ?l_turns ?v_turns ?k_turns ?u_play ?l_play ?v_play ?k_play ?u_app ?l_app ?v_app ?k_app ?u_pot ?l_pot ?v_pot ?k_pot ?u_draw ?l_draw ?v_draw ?k_draw ?u_pick ?l_pick ?v_pick ?k_pick ?u_ltext ?l_ltext ?v_ltext ?k_ltext ?u_near ?l_near ?v_near ?k_near ?u_two ?l_two ?v_two ?k_two ?u_diff ?l_diff ?v_diff ?k_diff ?u_lscr ?l_lscr ?v_lscr ?k_lscr ?u_lturn ?l_lturn ?v_lturn ?k_lturn ?u_ltxs ?l_ltxs ?v_ltxs ?k_ltxs ?u_lprs ?l_lprs ?v_lprs ?k_lprs ?u_lpl ?l_lpl ?v_lpl ?k_lpl ?u_lent ?l_lent ?v_lent ?k_lent ?u_ler ?l_ler ?v_ler ?k_ler ?u_lrt ?l_lrt ?v_lrt ?k_lrt ?u_law ?l_law ?v_law ?k_law ?zz ?c_MOST ?x_gW ?x_lW ?x_gD ?x_lD ?x_kD ?x_d1 ?x_d2 ?x_d3
    (case a_InvalidText => k_is); (case b_InvalidText => k_is); (case i_InvalidText => exact ⟨_, _, _, _, _, _, _, _, rfl⟩)
    (case a_InvalidDiff => k_is); (case b_InvalidDiff => k_is); (case i_InvalidDiff => exact ⟨_, _, _, _, _, _, _, _, rfl⟩)
    (case a_InvalidScript => k_is); (case b_InvalidScript => k_is); (case i_InvalidScript => exact ⟨_, _, _, _, _, _, _, _, rfl⟩)
    (case u_whole => k_is); (case l_whole => k_is); (case v_whole => k_is); (case k_whole => k_is)
    (case u_list => k_is); (case l_list => k_is); (case v_list => k_is); (case k_list => k_is)
    (case u_tup => k_is); (case l_tup => k_is); (case v_tup => k_is); (case k_tup => k_is)
    (case u_spot => k_is); (case l_spot => k_is); (case v_spot => k_is); (case k_spot => k_is)
    (case u_line => k_is); (case l_line => k_is); (case v_line => k_is); (case k_line => k_is)
    (case u_text => k_is); (case l_text => k_is); (case v_text => k_is); (case k_text => k_is)
    (case u_check => k_is); (case l_check => k_is); (case v_check => k_is); (case k_check => k_is)
    (case u_pair => k_is); (case l_pair => k_is); (case v_pair => k_is); (case k_pair => k_is)
    (case u_rise => k_is); (case l_rise => k_is); (case v_rise => k_is); (case k_rise => k_is)
    (case u_isdiff => k_is); (case l_isdiff => k_is); (case v_isdiff => k_is); (case k_isdiff => k_is)
    (case u_checkd => k_is); (case l_checkd => k_is); (case v_checkd => k_is); (case k_checkd => k_is)
    (case u_gaps => k_is); (case l_gaps => k_is); (case v_gaps => k_is); (case k_gaps => k_is)
    (case u_entry => k_is); (case l_entry => k_is); (case v_entry => k_is); (case k_entry => k_is)
    (case u_flaw => k_is); (case l_flaw => k_is); (case v_flaw => k_is); (case k_flaw => k_is)
    (case u_isscr => k_is); (case l_isscr => k_is); (case v_isscr => k_is); (case k_isscr => k_is)
    (case u_chks => k_is); (case l_chks => k_is); (case v_chks => k_is); (case k_chks => k_is)
    (case u_scrof => k_is); (case l_scrof => k_is); (case v_scrof => k_is); (case k_scrof => k_is)
    (case u_diffof => k_is); (case l_diffof => k_is); (case v_diffof => k_is); (case k_diffof => k_is)
    (case u_texts => k_is); (case l_texts => k_is); (case v_texts => k_is); (case k_texts => k_is)
    (case u_plain => k_is); (case l_plain => k_is); (case v_plain => k_is); (case k_plain => k_is)
    (case u_turns => k_is); (case l_turns => k_is); (case v_turns => k_is); (case k_turns => k_is)
    (case u_play => k_is); (case l_play => k_is); (case v_play => k_is); (case k_play => k_is)
    (case u_app => k_is); (case l_app => k_is); (case v_app => k_is); (case k_app => k_is)
    (case u_pot => k_is); (case l_pot => k_is); (case v_pot => k_is); (case k_pot => k_is)
    (case u_draw => k_is); (case l_draw => k_is); (case v_draw => k_is); (case k_draw => k_is)
    (case u_pick => k_is); (case l_pick => k_is); (case v_pick => k_is); (case k_pick => k_is)
    (case u_ltext => k_is); (case l_ltext => k_is); (case v_ltext => k_is); (case k_ltext => k_is)
    (case u_near => k_is); (case l_near => k_is); (case v_near => k_is); (case k_near => k_is)
    (case u_two => k_is); (case l_two => k_is); (case v_two => k_is); (case k_two => k_is)
    (case u_diff => k_is); (case l_diff => k_is); (case v_diff => k_is); (case k_diff => k_is)
    (case u_lscr => k_is); (case l_lscr => k_is); (case v_lscr => k_is); (case k_lscr => k_is)
    (case u_lturn => k_is); (case l_lturn => k_is); (case v_lturn => k_is); (case k_lturn => k_is)
    (case u_ltxs => k_is); (case l_ltxs => k_is); (case v_ltxs => k_is); (case k_ltxs => k_is)
    (case u_lprs => k_is); (case l_lprs => k_is); (case v_lprs => k_is); (case k_lprs => k_is)
    (case u_lpl => k_is); (case l_lpl => k_is); (case v_lpl => k_is); (case k_lpl => k_is)
    (case u_lent => k_is); (case l_lent => k_is); (case v_lent => k_is); (case k_lent => k_is)
    (case u_ler => k_is); (case l_ler => k_is); (case v_ler => k_is); (case k_ler => k_is)
    (case u_lrt => k_is); (case l_lrt => k_is); (case v_lrt => k_is); (case k_lrt => k_is)
    (case u_law => k_is); (case l_law => k_is); (case v_law => k_is); (case k_law => k_is)
    (case c_MOST => k_is)
    (case S_InvalidText => exact ⟨by kernel_rfl, by kernel_rfl, by kernel_rfl, by kernel_rfl, by kernel_rfl, by kernel_rfl, by kernel_rfl, by kernel_rfl, by kernel_rfl, by kernel_rfl, by kernel_rfl, by kernel_rfl, by kernel_rfl, by kernel_rfl, by kernel_rfl, by kernel_rfl, by kernel_rfl, by kernel_rfl, by kernel_rfl, by kernel_rfl, by kernel_rfl, by kernel_rfl, by kernel_rfl, by kernel_rfl⟩)
    (case S_InvalidDiff => exact ⟨by kernel_rfl, by kernel_rfl, by kernel_rfl, by kernel_rfl, by kernel_rfl, by kernel_rfl, by kernel_rfl, by kernel_rfl, by kernel_rfl, by kernel_rfl, by kernel_rfl, by kernel_rfl, by kernel_rfl, by kernel_rfl, by kernel_rfl, by kernel_rfl, by kernel_rfl, by kernel_rfl, by kernel_rfl, by kernel_rfl, by kernel_rfl, by kernel_rfl, by kernel_rfl, by kernel_rfl⟩)
    (case S_InvalidScript => exact ⟨by kernel_rfl, by kernel_rfl, by kernel_rfl, by kernel_rfl, by kernel_rfl, by kernel_rfl, by kernel_rfl, by kernel_rfl, by kernel_rfl, by kernel_rfl, by kernel_rfl, by kernel_rfl, by kernel_rfl, by kernel_rfl, by kernel_rfl, by kernel_rfl, by kernel_rfl, by kernel_rfl, by kernel_rfl, by kernel_rfl, by kernel_rfl, by kernel_rfl, by kernel_rfl, by kernel_rfl⟩)
    (case zz => kernel_rfl)
    (case x_gW => k_is)
    (case x_lW => k_is)
    (case x_gD => k_is)
    (case x_lD => k_is)
    (case x_kD => exact ⟨⟨_, _, rfl, rfl⟩, ⟨_, _, rfl, rfl⟩, ⟨_, _, rfl, rfl⟩, trivial⟩)
    (case x_d1 => k_is)
    (case x_d2 => k_is)
    (case x_d3 => k_is)
