import PyProof.Rows.All
import Wide.All
import OpenK.AllK
import Wide.FinOn
import HandS.ForMost
import HandS.Flow
import HandS.Wide
import HandS.IsInst
import HandS.Walk
import HandS.Deep
import HandS.CallLocal
import HandS.EndBits
import HandS.TupLe
import HandS.Zip
import HandS.SortInts
import HandS.Gcd
import HandS.ExcInit
import HandS.ExcSuper
import HandS.ExcField
import HandS.TryOnly
import HandS.ExcIs
import HandS.WordsExc
import PyProof.FitsBits
import HandS.TupAny
import HandS.TupMul
import HandS.CallSlots
import HandS.Defaults
import HandS.New
import KE.KExcIs
import HandS.ExcValue
import KE.KMathGC
import HandS.Style
import HandS.Dict
import HandS.Text
import HandS.DictComp
import HandS.SortRule
import HandS.Conv
import HandS.More
import KE.KDictSum
import HandS.Star
import PySem.Challenge.RW_keptform_k00_errors
set_option Elab.async false
set_option Elab.async false
set_option maxRecDepth 100000
set_option maxHeartbeats 4000000
namespace PySem
namespace PcX
open PySem.W PySem.Calls PyProof.Rows PySem.HandSPX
open Builtin Builtin.ObjectAttr

/-! ### an error of the text: a child of a child of Exception, one field -/
abbrev mroX (Fp : Addr) : List Value := [.ref Fp, .type "Exception", .type "BaseException", .type "object"]
def argX (f : Str) (p1 p2 : Pos) : Arguments := { posonlyargs := [], args := [{ arg := "self", annotation := none, pos := p1 }, { arg := f, annotation := none, pos := p2 }], vararg := none, kwonlyargs := [], kw_defaults := [], kwarg := none, defaults := [] }
def bodX (f msg : Str) (q1 q2 q3 q4 q5 q6 q7 q8 q9 q10 : Pos) : List Stmt :=
  [.Expr (.Call (.Attribute (.Name "FormError" q1) "__init__" q2) [.Name "self" q3, .Constant (.str msg) 0 q4] [] q5) q6, .Assign [.Attribute (.Name "self" q7) f q8] (.Name f q9) q10]
def scoX (f : Str) : Scope := { kind := .function, names := [(PySem.Str.ofString "self", .local), (f, .local), (PySem.Str.ofString "FormError", .globalImplicit)], isGenerator := false, isCoroutine := false, more := [] }
/-- what the written part says of the class at C, of its parent at Fp, of its __init__ at fI -/
structure BadT (K : Frag) (mg : Str → Option Value) (x f : Str) (qual : String) (C Fp fI : Addr) : Prop where
  ff : f = "at" ∨ f = "name"
  gC : mg x = some (.ref C)
  gF : mg "FormError" = some (.ref Fp)
  cls : ∃ nm q N bs sn sub ab col dd k0 k1 k2 k3 k5, K.lookup C = some (excClassObj nm q C N bs (mroX Fp) true sn sub ab col dd k0 k1 k2 k3 k5 "Exception.__new__")
  sa : findIn K (.ref C) "__setattr__" = some (some (.builtin "object.__setattr__"))
  ga : findIn K (.ref C) "__getattribute__" = some (some (.builtin "BaseException.__getattribute__"))
  gg : findIn K (.ref C) "__getattr__" = some none
  noN : findIn K (.ref C) f = some none
  iC : findIn K (.ref C) "__init__" = some (some (.ref fI))
  tC : typeIn K (.ref fI) = some (.type "function")
  kC : keepIn K (.ref C) = true
  exC : subIn K (.ref C) (.type "BaseException") = some true
  tyC : typeIn K (.ref C) = some (.type "type")
  hdC : hasDictIn K C = true
  te : exmOne K (.ref C) (.ref C) = some true
  rF : readsIn K Fp (.type "type") = true
  sF : specialIn K (.ref Fp) "__getattribute__" = some (some (.builtin "type.__getattribute__"))
  cF : findCls K (.ref Fp) (.type "type") "__init__" = some (.val (.builtin "Exception.__init__"))
  fn : ∃ (oc : Value) (od : Option Addr) (doc pm : Value) (an : Option Addr) (cdv ct : Value) (osl : Array (Option Value)) (msg : Str) (p1 p2 q1 q2 q3 q4 q5 q6 q7 q8 q9 q10 : Pos),
    K.lookup fI = some ⟨oc, od, .func (fnOf "__init__" qual (argX f p1 p2) (bodX f msg q1 q2 q3 q4 q5 q6 q7 q8 q9 q10) (scoX f) .none .none doc pm an cdv ct), osl⟩ ∧ codeIn K cdv qual = true ∧ (q2.endLine == q5.line) = true
theorem mroX_has (Fp : Addr) (X : String) : (mroX Fp).contains (.type X) = ([.type "Exception", .type "BaseException", .type "object"] : List Value).contains (.type X) := by
  rw [List.contains_cons]
  rfl
theorem in_but {K : Frag} {g g' : Heap} {x : Addr} (X : K.In g) (hx : K.lookup x = none) (k : ∀ b o, b ≠ x → g.get? b = some o → g'.get? b = some o) : K.In g' := fun a o e => k a o (fun z => by rw [z, hx] at e; cases e) (X a o e)

/-! the making of an exception, keywords or none -/
section
variable {M : Model} {A : Around} {E : Value → Shared → Prop} {h : Heap} {g : Array GenState} {d : Drawn} {t : Nat} {os : OsState} {prog : Program} {w : World} {R : Result → Shared → Prop}
variable {nm q : Str} {C N Fp : Addr} {bs : List Value} {hdct : Bool} {sn : List Str} {sub : List Value} {ab : Bool} {col : Option Bool} {dd : Option Addr} {k0 k1 k2 k3 k5 : Option Value} {us : List Value} {kw : List (Str × Value)}
abbrev excN (nm q : Str) (C N Fp : Addr) (bs : List Value) (hdct : Bool) (sn : List Str) (sub : List Value) (ab : Bool) (col : Option Bool) (dd : Option Addr) (k0 k1 k2 k3 k5 : Option Value) : Obj := excClassObj nm q C N bs (mroX Fp) hdct sn sub ab col dd k0 k1 k2 k3 k5 "Exception.__new__"
theorem has_X (Fp C : Addr) (X : String) : (Value.ref C :: mroX Fp).contains (.type X) = (Value.ref C :: ([.type "Exception", .type "BaseException", .type "object"] : List Value)).contains (.type X) := by
  rw [List.contains_cons, mroX_has]
  first | exact List.contains_cons.symm | exact (List.contains_cons ..).symm | simp only [List.contains_cons]
theorem ckw_check {Q : Unit → Shared → Prop} (hC : h.get? C = some (excN nm q C N Fp bs hdct sn sub ab col dd k0 k1 k2 k3 k5)) (hq : Q () ⟨h, g, d, t, os⟩) : wpAny M A (checkBuiltinCall "Exception.__new__" ⟨.ref C :: us, kw⟩) Q E ⟨h, g, d, t, os⟩ := by
  have F1 := F.excBase_Exception
  have c1 : (Value.ref C :: mroX Fp).contains (.type "Exception") = true := has_X Fp C _
  have ns := F1.noStar
  simp only [checkBuiltinCall, F1.newKind, F1.newSplit, F1.newRow]
  repeat (first | refine wpAny_madeBy_exc hC ?_ | refine wpAny_staticBase_exc hC ?_ | refine wpAny_loadPart_at hC ?_ | (refine wpAny_isSubtype_exc hC ?_; rw [c1]) | simp only [bne_self_eq_false, if_false, Bool.false_eq_true] | wp_step)
  exact hq
theorem ckw_new (hC : h.get? C = some (excN nm q C N Fp bs hdct sn sub ab col dd k0 k1 k2 k3 k5)) (hl : us.length ≤ sizeLine)
    (hq : R (.ok (.ret (.ref (h.objs.size + 1)))) ⟨(h.push (kdv_tup us)).push (excO C h.objs.size), g, d, t, os⟩) : codeAny (model prog w) A (.builtin "Exception.__new__" ⟨.ref C :: us, kw⟩) R ⟨h, g, d, t, os⟩ := by
  have F1 := F.excBase_Exception
  have ends := F1.ends
  have c1 : (Value.ref C :: mroX Fp).contains (.type "Exception") = true := has_X Fp C _
  have c2 : (Value.ref C :: mroX Fp).contains (.type "AttributeError") = false := has_X Fp C _
  have c3 : (Value.ref C :: mroX Fp).contains (.type "NameError") = false := has_X Fp C _
  refine codeAny_builtinAt F1.entry ?_
  unfold Builtin.«BaseException.__new__»
  refine wpAt_bind ?_
  show wpAt _ _ _ (stack >>= _) _ _ _
  refine wpAt_bind (wpAt_stack fun p below => wpAt_of_wpAny ?_)
  wp_walk
  refine wpAt_of_wpAny ?_
  rw [F1.owner]
  repeat (first | with_reducible refine wpAny_loadPart_at hC ?_ | with_reducible refine wpAny_madeHere_exc F1.canon hC ?_ | (with_reducible refine wpAny_isSubtype_exc hC ?_; first | rw [c1] | rw [c2] | rw [c3]) | wp_step)
  show R _ _
  rw [Heap.size_push]
  exact hq
theorem ckw_type {fI : Addr} {Q : Fin → Shared → Prop} (hC : h.get? C = some (excN nm q C N Fp bs hdct sn sub ab col dd k0 k1 k2 k3 k5)) (hl : us.length ≤ sizeLine)
    (hi : Looks (model prog w) h (typeLookup (.ref C) "__init__") (some (.ref fI))) (hb : ∀ self, Looks (model prog w) h (bindSpecial (.ref fI) self) (.ref fI, [self]))
    (hq : codeAny (model prog w) A (.call (.ref fI) ⟨.ref (h.objs.size + 1) :: us, kw⟩) (fun r s' => match r with | .ok (.ret v) => v = .none ∧ Q (.done (.ret (.ref (h.objs.size + 1)))) s' | .ok _ => False | .error e => E e s') ⟨(h.push (kdv_tup us)).push (excO C h.objs.size), g, d, t, os⟩) :
    wpAny (model prog w) A (Builtin.«type.__call__» ⟨.ref C :: us, kw⟩) Q E ⟨h, g, d, t, os⟩ := by
  have k : ∀ b o, h.get? b = some o → ((h.push (kdv_tup us)).push (excO C h.objs.size)).get? b = some o := fun b o e => Heap.get?_push_of_some _ (Heap.get?_push_of_some _ e)
  have at1 : ((h.push (kdv_tup us)).push (excO C h.objs.size)).get? (h.objs.size + 1) = some (excO C h.objs.size) := by
    have sz : (h.push (kdv_tup us)).objs.size = h.objs.size + 1 := Heap.size_push ..
    rw [← sz]
    exact Heap.get?_push_size _ rfl
  have hC1 := k _ _ hC
  have own : (Value.ref C :: mroX Fp).contains (.ref C) = true := by simp
  have li := hi.keeps k
  have lb := (hb (.ref (h.objs.size + 1))).keeps k
  repeat (first | with_reducible refine wpAny_madeBy_exc hC ?_ | with_reducible refine wpAny_loadPart_at hC ?_ | wp_step)
  refine codeAny_call_builtin_code (Code.quiet_builtin _ F.excBase_Exception.quiet) (ckw_check hC (ckw_new hC hl ?_))
  show wpAny _ _ _ _ _ _
  unfold isInstance
  repeat (first | (with_reducible refine wpAny_isSubtype_exc hC1 ?_; rw [own]) | with_reducible refine wpAny_loadPart_at at1 ?_ | wp_step)
  show wpAny _ _ (typeLookup (.ref C) _) _ _ _
  refine li.at (wpAny_holding (wpAny_bind (lb.at ?_)))
  refine wpAny_bind (wpAny_call (codeAny_mono hq fun r s' z => ?_))
  rcases r with e | (v | _ | _ | _) <;> first | exact z | exact z.elim | skip
  obtain ⟨rfl, z⟩ := z
  first
    | (wp_walk; exact z)
    | exact wpAny_pure (wpAny_pure z)
theorem ckw_own {fI : Addr} (hC : h.get? C = some (excN nm q C N Fp bs hdct sn sub ab col dd k0 k1 k2 k3 k5))
    (hi : Looks (model prog w) h (typeLookup (.ref C) "__init__") (some (.ref fI))) (hb : ∀ self, Looks (model prog w) h (bindSpecial (.ref fI) self) (.ref fI, [self])) (hl : us.length ≤ sizeLine)
    (hq : codeAny (model prog w) (A.under (.builtin "type.__call__" ⟨.ref C :: us, kw⟩)) (.call (.ref fI) ⟨.ref (h.objs.size + 1) :: us, kw⟩) (InitBack (h.objs.size + 1) R) ⟨(h.push (kdv_tup us)).push (excO C h.objs.size), g, d, t, os⟩) :
    codeAny (model prog w) A (.call (.ref C) ⟨us, kw⟩) R ⟨h, g, d, t, os⟩ := by
  have l1 := tc_lookup
  have l2 := tc_bind (.ref C)
  have l3 := tc_sub
  have ty : (⟨h, g, d, t, os⟩ : Shared).TypeIs (.ref C) "type" := ⟨_, hC, rfl⟩
  refine codeAny_of_tree ?_
  show wpAny _ _ (callAny (.ref C) _) _ _ _
  repeat (any_goals (first | with_reducible refine wpAny_loadPart_at hC ?_ | assumption | wp_step))
  refine ⟨rfl, ?_⟩
  refine codeAny_call_builtin_at (Code.quiet_builtin _ (by decide +kernel)) entry_typeCall ?_
  have fin : ∀ {Q : Unit → Shared → Prop} {E' : Value → Shared → Prop} {A' : Around}, Q () ⟨h, g, d, t, os⟩ → wpAny (model prog w) A' (checkBuiltinCall "type.__call__" ⟨.ref C :: us, kw⟩) Q E' ⟨h, g, d, t, os⟩ := fun {Q E' A'} hq => by
    simp only [checkBuiltinCall, tc_split, tc_kind]
    repeat (any_goals (first | assumption | with_reducible refine wpAny_onRaise ?_ | with_reducible refine wpAny_loadPart_at hC ?_ | with_reducible refine wpAny_map ?_ | wp_step))
  refine fin (ckw_type hC hl hi hb (codeAny_mono hq fun r s' z => ?_))
  rcases r with e | (v | _ | _ | _) <;> exact z
end
section
variable {prog : Program} {w : World} {A : Around} {E : Value → Shared → Prop} {R : Result → Shared → Prop} {K : Frag} {mg : Str → Option Value} {xn ff : Str} {qual : String} {C Fp fI : Addr}
theorem up_call (env : Env) (q1 q2 q3 q4 q5 : Pos) (msg : Str) (hl : (q2.endLine == q5.line) = true) : ∃ pl, eval (.Call (.Attribute (.Name "FormError" q1) "__init__" q2) [.Name "self" q3, .Constant (.str msg) 0 q4] [] q5) env = (do
      let ov ← eval (.Name "FormError" q1) env
      standAt q2.atName
      let (f, first) ← holding [ov] (getMethod ov "__init__" pl)
      callWith q5 f first (backTo q5 (starEach [.Name "self" q3, .Constant (.str msg) 0 q4] env)) (backToKw q5 (keywordEach [] env))) := by
  have hp : methodCallPos (methodCallForm 2 (backTo q5 (starEach [.Name "self" q3, .Constant (.str msg) 0 q4] env)) (backToKw q5 (keywordEach [] env))) (.Name "FormError" q1) env q2 q5 = pure q5 := by
    unfold methodCallPos
    rw [hl, Bool.or_true, if_pos rfl]
  refine ⟨(do return (← importBound (.Name "FormError" q1) env).getD true), ?_⟩
  show (do
    let ov ← eval (.Name "FormError" q1) env
    standAt q2.atName
    let (f, first) ← holding [ov] (calleeOf (methodCallForm 2 (backTo q5 (starEach [.Name "self" q3, .Constant (.str msg) 0 q4] env)) (backToKw q5 (keywordEach [] env))) (.Name "FormError" q1) env ov "__init__")
    let callPos ← methodCallPos (methodCallForm 2 (backTo q5 (starEach [.Name "self" q3, .Constant (.str msg) 0 q4] env)) (backToKw q5 (keywordEach [] env))) (.Name "FormError" q1) env q2 q5
    callWith callPos f first (backTo q5 (starEach [.Name "self" q3, .Constant (.str msg) 0 q4] env)) (backToKw q5 (keywordEach [] env))) = _
  rw [hp]
  rfl
/-- self.at = v on an exception that has no dict yet -/
theorem at_set {hp : Heap} {g : Array GenState} {d : Drawn} {t : Nat} {os : OsState} {name : Str} {tk : Tok} {v : Value} {x : Addr} {fv : Array Value} {cd : ClassData} (X : K.In hp) (hx : hp.get? x = some { cls := .ref C, data := .fields fv }) (hcd : clsIn K C = some cd) (hm : cd.mro = .ref C :: mroX Fp) (hh : cd.hasDict = true)
    (ha : findIn K (.ref C) name = some none)
    (hq : ∀ h' tk' dx, (∀ b o, b ≠ x → hp.get? b = some o → h'.get? b = some o) → hp.objs.size ≤ dx → dx ≠ x → h'.get? x = some { cls := .ref C, dict := some dx, data := .fields fv } → h'.Ns1 dx (fun y => if y = name then some v else none) → R (.ok (.ret .none)) ⟨h', g, d, tk', os⟩) :
    codeAny (model prog w) A (.call (.builtin "object.__setattr__") ⟨[.ref x, .str name tk, v], []⟩) R ⟨hp, g, d, t, os⟩ := by
  have I : InstAt hp x { cls := .ref C, data := .fields fv } C none := ⟨hx, rfl, rfl, trivial⟩
  have S := F.store_object
  have hob : cd.mro.contains (.type "object") = true := by
    rw [hm, List.contains_cons, mroX_has]
    rfl
  have apart : x ≠ hp.objs.size := Nat.ne_of_lt (Heap.lt_size hx)
  have sub : Looks (model prog w) hp (isInstance (.ref x) (.type "object")) true := I.type.andThen (looks_mroIn X (by unfold mroIn; rw [hcd, Option.bind_some, if_neg (by rw [hm]; simp), hob]))
  refine codeAny_call_builtin S.slot.plain S.entry (@check_slot (model prog w) _ _ ⟨hp, g, d, t, os⟩ "object.__setattr__" "object" "__setattr__" (.ref x) [.str name tk, v] [] _ S.kind S.split sub (S.args (.ref x) (.str name tk) v) ?_)
  have L1 : Looks (model prog w) hp (mroOf (.ref C)) cd.mro := (looks_clsIn X hcd).andThen .now
  have L2 : Looks (model prog w) hp (storeTaker? none) none := .now
  have L3 : Looks (model prog w) hp (classData C) cd := looks_clsIn X hcd
  have pass : refuseLoop (.ref x) "__setattr__" cd.mro = pure () := by
    rw [hm, refuseLoop_ref, refuseLoop_ref]
    exact F.store_Exception.passes _
  rw [osa_eq, refuse_eq]
  refine wpAny_bind (wpAny_bind (I.type.at (wpAny_bind (L1.at ?_))))
  rw [pass]
  refine wpAny_pure (wpAny_bind (I.type.at (wpAny_bind ((looks_findIn X ha).at (wpAny_bind (L2.at ?_))))))
  show wpAny _ _ (storeInOwnDict (.ref x) (.ref C) (.str name tk) name v false) _ _ _
  obtain ⟨nm, bs, mro, ns, qn, hd, sn, sb, ab, col, del⟩ := cd
  dsimp only at hh
  subst hh
  unfold storeInOwnDict ownDictForStores
  repeat (first | with_reducible refine store_in_new ?_ ?_ | with_reducible refine wpAny_loadPart_at hx ?_ | with_reducible refine L3.at ?_ | wp_step)
  · exact ⟨_, #[], _, (Heap.get?_update_ne _ _ _ _ apart.symm).trans (Heap.get?_push_at rfl rfl), rfl, fun e he => absurd he (by simp), fun _ => rfl⟩
  · intro h' tk' hn' hs
    have hx1 : (hp.push { cls := .type "dict", data := .dict #[] }).get? x = some { cls := .ref C, data := .fields fv } := Heap.get?_push_of_some _ hx
    exact hq h' tk' hp.objs.size (fun b o hb ho => (hs.2 b (Nat.ne_of_lt (Heap.lt_size ho))).trans ((Heap.get?_update_ne _ _ _ _ hb).trans (Heap.get?_push_of_some _ ho))) (Nat.le_refl _) apart.symm ((hs.2 x apart).trans (Heap.get?_update_self _ hx1 rfl)) hn'
/-- a name of the body -/
theorem ld_own {M : Model} {s : Shared} {name : Str} {sc : Scope} (hsc : sc.kind = .function) {L a : Addr} {cd : Value} {m : Str → Option Value} {x : Str} {pos : Pos} {v : Value} {Q : Value → Shared → Prop} {A : Around} {E : Value → Shared → Prop} (hn : s.heap.Ns L m) (hv : m x = some v) (h : Q v s)
    (hl : (envOfC name sc L a cd).kindOf x = some .local) (hd : (x == ("__debug__" : Str)) = false) : wpAny M A (eval (.Name x pos) (envOfC name sc L a cd)) Q E s := wpAny_Name (wpAny_loadName_local hsc hl hn hv h) hd
/-- what __init__ leaves of a fresh exception at x -/
structure InitX (ff : Str) (h h' : Heap) (x C dx t1 : Addr) (v : Value) : Prop where
  keep : ∀ b o, b ≠ x → h.get? b = some o → h'.get? b = some o
  obj : h'.get? x = some { cls := .ref C, dict := some dx, data := .fields #[.ref t1, .none, .none, .none, .bool false, .none] }
  dbig : h.objs.size ≤ dx
  dne : dx ≠ x
  ns : h'.Ns1 dx (fun y => if y = ff then some v else none)
structure MadeX (ff : Str) (h h' : Heap) (e C d : Addr) (v : Value) : Prop where
  keep : ∀ b o, h.get? b = some o → h'.get? b = some o
  new : h.objs.size ≤ e
  obj : ∃ oe vs, h'.get? e = some oe ∧ oe.cls = .ref C ∧ oe.dict = some d ∧ oe.data = .fields vs ∧ vs[1]? = some .none
  dbig : h.objs.size ≤ d
  dne : d ≠ e
  ns : h'.Ns1 d (fun y => if y = ff then some v else none)
theorem bad_init {s : Shared} {us : List Value} {kw : List (Str × Value)} (T : BadT K mg xn ff qual C Fp fI) {x t0 : Addr} {v : Value} (hu : (us = [v] ∧ kw = []) ∨ (us = [] ∧ kw = [(ff, v)])) (X : K.In s.heap) (G : s.heap.Ns mainGlobals mg) (hlim : s.heap.NoLimit) (hx : s.heap.get? x = some (excO C t0)) (hnx : K.lookup x = none) (hroom : A.depth < recursionLimit)
    (hq : ∀ h' tk dx t1, InitX ff s.heap h' x C dx t1 v → R (.ok (.ret .none)) { s with heap := h', toks := tk }) : codeAny (model prog w) A (.call (.ref fI) ⟨.ref x :: us, kw⟩) R s := by
  rcases T.ff with rfl | rfl
  all_goals
    obtain ⟨oc, od, doc, pm, an, cdv, ct, osl, msg, p1, p2, q1, q2, q3, q4, q5, q6, q7, q8, q9, q10, ho, hcd, hline⟩ := T.fn
    obtain ⟨nm, q, N, bs, sn, sub, ab, col, dd, k0, k1, k2, k3, k5, hC⟩ := T.cls
    have hcl : clsIn K C = some { name := nm, bases := bs, mro := .ref C :: mroX Fp, ns := N, qualname := q, hasDict := true, slotNames := sn, subclasses := sub, abstract := ab, collection := col, hasDel := false } := by unfold clsIn; rw [hC] <;> rfl
    refine Att.call_fn (binds := [("self", .ref x), (_, v)]) X hlim ho hcd hroom (by rcases hu with ⟨rfl, rfl⟩ | ⟨rfl, rfl⟩ <;> exact BindsTo.of_eq (by first | rfl | with_unfolding_all rfl)) (by first | rfl | decide | with_unfolding_all rfl) (fun s1 IC => ?_) rfl rfl rfl
    obtain ⟨h1, tk1, rfl⟩ := IC.toInCall.same
    have k : ∀ b o, s.heap.get? b = some o → h1.get? b = some o := IC.toInCall.keep
    have hn := IC.toInCall.ns
    have X1 : K.In h1 := X.keeps k
    have hx1 := k _ _ hx
    have big : s.heap.objs.size < h1.objs.size := hn.lt
    have xlt : x < s.heap.objs.size := Heap.lt_size hx
    -- FormError.__init__(self, ..)
    show wpAny _ _ (execs _ _) _ _ _
    refine wpAny_execs_cons (wpAny_Expr_any ?_ (by first | rfl | with_unfolding_all rfl) (by rfl))
    obtain ⟨pl, hpl⟩ := up_call (envOfC qual (scoX _) s.heap.objs.size fI cdv) q1 q2 q3 q4 q5 msg hline
    refine methodCall_KW ?_ hpl
    refine Calls.Name_function_global rfl (by first | rfl | with_unfolding_all rfl) (Calls.loadGlobal_global (mg := mg) (G.keeps k) T.gF ?_) (by decide)
    refine method_cls X1 T.sF (cls_value X1 T.rF T.cF (by decide +kernel) ?_)
    show wpAny _ _ (callWith q5 (Value.builtin "Exception.__init__") [] (backTo q5 (starEach [.Name "self" q3, .Constant (.str msg) 0 q4] _)) []) _ _ _
    refine PyProof.Rows.callWith_method1 ?_ (by rfl) (by rfl)
    refine Calls.spliced_cons (ld_own rfl (x := "self") (pos := q3) (v := .ref x) hn (by first | rfl | with_unfolding_all rfl) ?_ (by first | rfl | with_unfolding_all rfl) (by decide))
    refine Calls.spliced_cons (Calls.Constant_str (k := 0) (pos := q4) (Calls.spliced_nil ?_))
    refine wpAny_call (init_base F.excBase_Exception (mroX_has Fp) (X1 _ _ hC) hx1 (by rw [sizeLine_eq]; exact (by decide : 1 ≤ 16777216)) fun h2 t2 k2 hx2 => ?_)
    have X2 : K.In h2 := in_but X1 hnx k2
    have hn2 := hn.at fun o e => k2 _ o (Nat.ne_of_gt xlt) e
    -- self.at = at
    show wpAny _ _ (execs _ _) _ _ _
    refine wpAny_execs_cons (plainObj_wpAny_Assign_Attribute ?_)
    refine ld_own rfl (v := v) hn2 (by first | rfl | with_unfolding_all rfl) ?_ (by first | rfl | with_unfolding_all rfl) (by decide)
    refine ld_own rfl (v := .ref x) hn2 (by first | rfl | with_unfolding_all rfl) ?_ (by first | rfl | with_unfolding_all rfl) (by decide)
    refine set_plain X2 (ox := excO C t2) (od := none) ⟨hx2, rfl, rfl, trivial⟩ T.sa ?_
    refine at_set X2 hx2 hcl rfl rfl T.noN fun h3 tk3 dx k3 dn dne hx3 hn3 => ?_
    show wpAny _ _ (execs _ _) _ _ _
    have big2 : s.heap.objs.size < h2.objs.size := hn2.lt
    exact wpAny_execs_nil (hq h3 tk3 dx _ ⟨fun b o hb e => k3 b o hb (k2 b o hb (k b o e)), hx3, Nat.le_of_lt (Nat.lt_of_lt_of_le big2 dn), dne, hn3⟩)
theorem bad_made {s : Shared} {us : List Value} {kw : List (Str × Value)} (T : BadT K mg xn ff qual C Fp fI) {v : Value} (hu : (us = [v] ∧ kw = []) ∨ (us = [] ∧ kw = [(ff, v)])) (X : K.In s.heap) (G : s.heap.Ns mainGlobals mg) (hlim : s.heap.NoLimit) (hroom : A.depth + 1 < recursionLimit)
    (hq : ∀ h' tk e d, MadeX ff s.heap h' e C d v → R (.ok (.ret (.ref e))) { s with heap := h', toks := tk }) : codeAny (model prog w) A (.call (.ref C) ⟨us, kw⟩) R s := by
  have hl : us.length ≤ sizeLine := by
    rw [sizeLine_eq]
    rcases hu with ⟨rfl, _⟩ | ⟨rfl, _⟩
    · exact (by decide : 1 ≤ 16777216)
    · exact (by decide : 0 ≤ 16777216)
  obtain ⟨nm, q, N, bs, sn, sub, ab, col, dd, k0, k1, k2, k3, k5, hC⟩ := T.cls
  obtain ⟨hp, g, dr, tk, os⟩ := s
  have k : ∀ b o, hp.get? b = some o → ((hp.push (kdv_tup us)).push (excO C hp.objs.size)).get? b = some o := fun b o e => Heap.get?_push_of_some _ (Heap.get?_push_of_some _ e)
  have hget : ((hp.push (kdv_tup us)).push (excO C hp.objs.size)).get? (hp.objs.size + 1) = some (excO C hp.objs.size) := by
    have sz : (hp.push (kdv_tup us)).objs.size = hp.objs.size + 1 := Heap.size_push ..
    rw [← sz]
    exact Heap.get?_push_size _ rfl
  have hnx : K.lookup (hp.objs.size + 1) = none := by
    cases e : K.lookup (hp.objs.size + 1) with
    | none => rfl
    | some o => exact absurd (Nat.lt_of_succ_lt (Heap.lt_size (X _ _ e))) (Nat.lt_irrefl _)
  refine ckw_own (Fp := Fp) (X _ _ hC) (looks_findIn X T.iC) (fun self => bind_fn X self T.tC) hl ?_
  refine bad_init (s := ⟨(hp.push (kdv_tup us)).push (excO C hp.objs.size), g, dr, tk, os⟩) T hu (X.keeps k) (G.keeps k) (hlim.keeps k) hget hnx (show A.depth + 1 < recursionLimit from hroom) fun h' tk' dx t1 i => ?_
  have old : ∀ b o, hp.get? b = some o → h'.get? b = some o := fun b o e => i.keep b o (Nat.ne_of_lt (Nat.lt_succ_of_lt (Heap.lt_size e))) (k b o e)
  have big : hp.objs.size ≤ dx := by
    have q := i.dbig
    have s1 : ((hp.push (kdv_tup us)).push (excO C hp.objs.size)).objs.size = hp.objs.size + 1 + 1 := by rw [Heap.size_push, Heap.size_push]
    have q : ((hp.push (kdv_tup us)).push (excO C hp.objs.size)).objs.size ≤ dx := q
    omega
  exact ⟨rfl, hq h' tk' (hp.objs.size + 1) dx ⟨old, Nat.le_succ _, ⟨_, _, i.obj, rfl, rfl, rfl, rfl⟩, big, i.dne, i.ns⟩⟩
/-! an error without a field -/
def argN (p1 : Pos) : Arguments := { posonlyargs := [], args := [{ arg := "self", annotation := none, pos := p1 }], vararg := none, kwonlyargs := [], kw_defaults := [], kwarg := none, defaults := [] }
def bodN (q1 q2 q3 q5 q6 : Pos) : List Stmt := [.Expr (.Call (.Attribute (.Name "FormError" q1) "__init__" q2) [.Name "self" q3] [] q5) q6]
def scoN : Scope := { kind := .function, names := [(PySem.Str.ofString "self", .local), (PySem.Str.ofString "FormError", .globalImplicit)], isGenerator := false, isCoroutine := false, more := [] }
structure NoT (K : Frag) (mg : Str → Option Value) (x : Str) (qual : String) (C Fp fI : Addr) : Prop where
  gC : mg x = some (.ref C)
  gF : mg "FormError" = some (.ref Fp)
  cls : ∃ nm q N bs sn sub ab col dd k0 k1 k2 k3 k5, K.lookup C = some (excClassObj nm q C N bs (mroX Fp) true sn sub ab col dd k0 k1 k2 k3 k5 "Exception.__new__")
  iC : findIn K (.ref C) "__init__" = some (some (.ref fI))
  tC : typeIn K (.ref fI) = some (.type "function")
  kC : keepIn K (.ref C) = true
  exC : subIn K (.ref C) (.type "BaseException") = some true
  tyC : typeIn K (.ref C) = some (.type "type")
  rF : readsIn K Fp (.type "type") = true
  sF : specialIn K (.ref Fp) "__getattribute__" = some (some (.builtin "type.__getattribute__"))
  cF : findCls K (.ref Fp) (.type "type") "__init__" = some (.val (.builtin "Exception.__init__"))
  fn : ∃ (oc : Value) (od : Option Addr) (doc pm : Value) (an : Option Addr) (cdv ct : Value) (osl : Array (Option Value)) (p1 q1 q2 q3 q5 q6 : Pos),
    K.lookup fI = some ⟨oc, od, .func (fnOf "__init__" qual (argN p1) (bodN q1 q2 q3 q5 q6) scoN .none .none doc pm an cdv ct), osl⟩ ∧ codeIn K cdv qual = true ∧ (q2.endLine == q5.line) = true
theorem up_call1 (env : Env) (q1 q2 q3 q5 : Pos) (hl : (q2.endLine == q5.line) = true) : ∃ pl, eval (.Call (.Attribute (.Name "FormError" q1) "__init__" q2) [.Name "self" q3] [] q5) env = (do
      let ov ← eval (.Name "FormError" q1) env
      standAt q2.atName
      let (f, first) ← holding [ov] (getMethod ov "__init__" pl)
      callWith q5 f first (backTo q5 (starEach [.Name "self" q3] env)) (backToKw q5 (keywordEach [] env))) := by
  have hp : methodCallPos (methodCallForm 1 (backTo q5 (starEach [.Name "self" q3] env)) (backToKw q5 (keywordEach [] env))) (.Name "FormError" q1) env q2 q5 = pure q5 := by
    unfold methodCallPos
    rw [hl, Bool.or_true, if_pos rfl]
  refine ⟨(do return (← importBound (.Name "FormError" q1) env).getD true), ?_⟩
  show (do
    let ov ← eval (.Name "FormError" q1) env
    standAt q2.atName
    let (f, first) ← holding [ov] (calleeOf (methodCallForm 1 (backTo q5 (starEach [.Name "self" q3] env)) (backToKw q5 (keywordEach [] env))) (.Name "FormError" q1) env ov "__init__")
    let callPos ← methodCallPos (methodCallForm 1 (backTo q5 (starEach [.Name "self" q3] env)) (backToKw q5 (keywordEach [] env))) (.Name "FormError" q1) env q2 q5
    callWith callPos f first (backTo q5 (starEach [.Name "self" q3] env)) (backToKw q5 (keywordEach [] env))) = _
  rw [hp]
  rfl
theorem no_init {s : Shared} (T : NoT K mg xn qual C Fp fI) {x t0 : Addr} (X : K.In s.heap) (G : s.heap.Ns mainGlobals mg) (hlim : s.heap.NoLimit) (hx : s.heap.get? x = some (excO C t0)) (hroom : A.depth < recursionLimit)
    (hq : ∀ h' tk t1, (∀ b o, b ≠ x → s.heap.get? b = some o → h'.get? b = some o) → h'.get? x = some (excO C t1) → R (.ok (.ret .none)) { s with heap := h', toks := tk }) : codeAny (model prog w) A (.call (.ref fI) ⟨[.ref x], []⟩) R s := by
  obtain ⟨oc, od, doc, pm, an, cdv, ct, osl, p1, q1, q2, q3, q5, q6, ho, hcd, hline⟩ := T.fn
  obtain ⟨nm, q, N, bs, sn, sub, ab, col, dd, k0, k1, k2, k3, k5, hC⟩ := T.cls
  refine Att.call_fn (binds := [("self", .ref x)]) X hlim ho hcd hroom (BindsTo.of_eq (by first | rfl | with_unfolding_all rfl)) (by first | rfl | decide | with_unfolding_all rfl) (fun s1 IC => ?_) rfl rfl rfl
  obtain ⟨h1, tk1, rfl⟩ := IC.toInCall.same
  have k : ∀ b o, s.heap.get? b = some o → h1.get? b = some o := IC.toInCall.keep
  have hn := IC.toInCall.ns
  have X1 : K.In h1 := X.keeps k
  have hx1 := k _ _ hx
  show wpAny _ _ (execs _ _) _ _ _
  refine wpAny_execs_cons (wpAny_Expr_any ?_ (by first | rfl | with_unfolding_all rfl) (by rfl))
  obtain ⟨pl, hpl⟩ := up_call1 (envOfC qual scoN s.heap.objs.size fI cdv) q1 q2 q3 q5 hline
  refine methodCall_KW ?_ hpl
  refine Calls.Name_function_global rfl (by first | rfl | with_unfolding_all rfl) (Calls.loadGlobal_global (mg := mg) (G.keeps k) T.gF ?_) (by decide)
  refine method_cls X1 T.sF (cls_value X1 T.rF T.cF (by decide +kernel) ?_)
  show wpAny _ _ (callWith q5 (Value.builtin "Exception.__init__") [] (backTo q5 (starEach [.Name "self" q3] _)) []) _ _ _
  refine PyProof.Rows.callWith_method1 ?_ (by rfl) (by rfl)
  refine Calls.spliced_cons (ld_own rfl (x := "self") (pos := q3) (v := .ref x) hn (by first | rfl | with_unfolding_all rfl) ?_ (by first | rfl | with_unfolding_all rfl) (by decide))
  refine Calls.spliced_nil ?_
  refine wpAny_call (init_base F.excBase_Exception (mroX_has Fp) (X1 _ _ hC) hx1 (by rw [sizeLine_eq]; exact (by decide : 0 ≤ 16777216)) fun h2 t2 k2 hx2 => ?_)
  show wpAny _ _ (execs _ _) _ _ _
  exact wpAny_execs_nil (hq h2 _ t2 (fun b o hb e => k2 b o hb (k b o e)) hx2)
theorem no_made {s : Shared} (T : NoT K mg xn qual C Fp fI) (X : K.In s.heap) (G : s.heap.Ns mainGlobals mg) (hlim : s.heap.NoLimit) (hroom : A.depth + 1 < recursionLimit)
    (hq : ∀ h' tk e t1, (∀ b o, s.heap.get? b = some o → h'.get? b = some o) → s.heap.objs.size ≤ e → h'.get? e = some (excO C t1) → R (.ok (.ret (.ref e))) { s with heap := h', toks := tk }) : codeAny (model prog w) A (.call (.ref C) ⟨[], []⟩) R s := by
  obtain ⟨nm, q, N, bs, sn, sub, ab, col, dd, k0, k1, k2, k3, k5, hC⟩ := T.cls
  obtain ⟨hp, g, dr, tk, os⟩ := s
  have k : ∀ b o, hp.get? b = some o → ((hp.push (kdv_tup [])).push (excO C hp.objs.size)).get? b = some o := fun b o e => Heap.get?_push_of_some _ (Heap.get?_push_of_some _ e)
  have hget : ((hp.push (kdv_tup [])).push (excO C hp.objs.size)).get? (hp.objs.size + 1) = some (excO C hp.objs.size) := by
    have sz : (hp.push (kdv_tup [])).objs.size = hp.objs.size + 1 := Heap.size_push ..
    rw [← sz]
    exact Heap.get?_push_size _ rfl
  refine ckw_own (Fp := Fp) (X _ _ hC) (looks_findIn X T.iC) (fun self => bind_fn X self T.tC) (by rw [sizeLine_eq]; decide) ?_
  refine no_init (s := ⟨(hp.push (kdv_tup [])).push (excO C hp.objs.size), g, dr, tk, os⟩) T (X.keeps k) (G.keeps k) (hlim.keeps k) hget (show A.depth + 1 < recursionLimit from hroom) fun h' tk' t1 kk i => ?_
  exact ⟨rfl, hq h' tk' (hp.objs.size + 1) t1 (fun b o e => kk b o (Nat.ne_of_lt (Nat.lt_succ_of_lt (Heap.lt_size e))) (k b o e)) (Nat.le_succ _) i⟩
end
end PcX
end PySem
namespace Pc
open PySem PySem.Spec PyProof.Rows L2 PySem.PcX
/-! ### errors as values -/
/-- an exception object of the class at C, at a; its dict, if it has one, at d -/
def exH (C : Addr) (d : Option Addr) (a : Addr) : HO := .ext fun h => ∃ (oe : Obj) (vs : Array Value), h.get? a = some oe ∧ Zc (.ref C) d oe ∧ oe.data = .fields vs ∧ vs[1]? = some .none
theorem exH_ok {P : Program} {w : World} {H : Hp} {h : Heap} {C a : Addr} {d : Option Addr} {oe : Obj} {vs : Array Value} (e : h.get? a = some oe) (z : Zc (.ref C) d oe) (q : oe.data = .fields vs) (n : vs[1]? = some .none) : ObjOk P w H h a (exH C d a) :=
  ⟨⟨oe, vs, e, z, q, n⟩, ⟨oe, e⟩, fun _ _ ⟨o, v, y, r⟩ k => ⟨o, v, k o y, r⟩⟩
theorem exH_at {P : Program} {w : World} {H : Hp} {h : Heap} {C a : Addr} {d : Option Addr} (ok : HOk P w H h) (e : H a = some (exH C d a)) : ∃ (oe : Obj) (vs : Array Value), h.get? a = some oe ∧ Zc (.ref C) d oe ∧ oe.data = .fields vs := by
  obtain ⟨⟨oe, vs, h1, h2, h3, _⟩, _⟩ := (show ObjOk P w H h a (exH C d a) from ok a _ e)
  exact ⟨oe, vs, h1, h2, h3⟩
/-- of which classes the instances of the class at C are, and of which not -/
structure IsX (K : PySem.W.Frag) (mg : Str → Option Value) (C : Addr) (ms : List (Str × Bool)) (bs : List (String × Bool)) : Prop where
  ec : ExcC K C
  own : ∀ y b, ms.lookup y = some b → ∃ Y, mg y = some (.ref Y) ∧ PySem.W.kitOne K (.ref C) (.ref Y) = some b ∧ PySem.W.exmOne K (.ref C) (.ref Y) = some b
  blt : ∀ n b, bs.lookup n = some b → PySem.W.kitOne K (.ref C) (.type n) = some b
/-- the class is called with what its instances keep in the fields ks -/
def MkC (K : PySem.W.Frag) (mg : Str → Option Value) (x : Str) (C : Addr) : List Str → Prop
  | [] => ∃ qual F fI, NoT K mg x qual C F fI
  | [f] => ∃ qual F fI, BadT K mg x f qual C F fI
  | _ => False
structure ClsD (K : PySem.W.Frag) (mg : Str → Option Value) (x : Str) (C : Addr) (ms : List (Str × Bool)) (bs : List (String × Bool)) (ks : List Str) : Prop where
  is : IsX K mg C ms bs
  made : MkC K mg x C ks
end Pc

set_option Elab.async false
set_option maxRecDepth 100000
set_option maxHeartbeats 4000000
/-! Pc: a small evaluator over plain data for the defs of a text, and that the text does what it says. -/
namespace Pc
open PySem PySem.Spec PyProof.Rows L2 PySem.PcX

/-- plain data; a def, a class by its name; a shared mutable list (a cell) by its number -/
inductive D where
  | non | bl (b : Bool) | int (i : Int) | str (x : Str) | ty (n : String) | fn (x : Str) | cell (i : Nat)
  | tup (ds : List D) | lst (ds : List D) | frz (ds : List D)
  -- a tuple of the module's; dicts: their keys (texts; tuples of numbers), their values
  | tpc (ds : List D) | dK (ks : List Str) (ds : List D) | dT (ks : List (List Int)) (ds : List D) | dI (ks : List Int) (ds : List D)
  -- an error of the text, its class c, that is of the classes ms (own) and bs (built-in), or is not; its attributes; such a class
  | obj (c : Str) (ms : List (Str × Bool)) (bs : List (String × Bool)) (ks : List Str) (ds : List D)
  | cls (c : Str) (ms : List (Str × Bool)) (bs : List (String × Bool)) (ks : List Str)

open Classical in
/-- the heap without what p hides -/
noncomputable def hid (H : Hp) (p : Addr → Prop) : Hp := fun a => if p a then none else H a
theorem hid_some {H : Hp} {p : Addr → Prop} {a : Addr} {o : HO} : hid H p a = some o ↔ ¬ p a ∧ H a = some o := by
  unfold hid
  by_cases h : p a
  · simp [h]
  · simp [h]
/-- what stands in H stands in H' -/
abbrev Le (H H' : Hp) : Prop := ∀ a o, H a = some o → H' a = some o
theorem hid_le {H H' : Hp} {p q : Addr → Prop} (hq : ∀ a, q a → p a) (h : ∀ a o, ¬ p a → H a = some o → H' a = some o) : Le (hid H p) (hid H' q) := fun a o e => by
  obtain ⟨n, e⟩ := hid_some.mp e
  exact hid_some.mpr ⟨fun z => n (hq a z), h a o n e⟩

theorem sqL_le {K : PySem.W.Frag} {H H' : Hp} {a : Addr} {xs : List V} (l : Le H H') (h : SqL K H a xs) : SqL K H' a xs := Same.seq l h
theorem sqT_le {K : PySem.W.Frag} {H H' : Hp} {a : Addr} {xs : List V} (e : Le H H') (h : SqT K H a xs) : SqT K H' a xs := by
  rcases h with (h | ⟨o, h⟩) | h
  · exact .inl (.inl (e _ _ h))
  · exact .inl (.inr ⟨o, e _ _ h⟩)
  · exact .inr h

/-- a tuple that is read: tracked, or of the written part -/
def TupAt (K : PySem.W.Frag) (H : Hp) (a : Addr) (xs : List V) : Prop := H a = some (.tup xs)
/-- a tuple of the written part -/
def TupW (K : PySem.W.Frag) (a : Addr) (xs : List V) : Prop :=
  ∃ (o : Obj) (its : Array Value) (n : Nat), K.lookup a = some o ∧ o.cls = .type "tuple" ∧ o.data = .seq its n ∧ its.size ≤ sizeLine ∧ Vals xs its.toList
theorem TupAt.sq {K : PySem.W.Frag} {H : Hp} {a : Addr} {xs : List V} (h : TupAt K H a xs) : SqT K H a xs := .inl (.inl h)
theorem TupW.sq {K : PySem.W.Frag} {H : Hp} {a : Addr} {xs : List V} (h : TupW K a xs) : SqT K H a xs := .inr h
theorem TupAt.le {K : PySem.W.Frag} {H H' : Hp} {a : Addr} {xs : List V} (l : Le H H') (h : TupAt K H a xs) : TupAt K H' a xs := l _ _ h
section
variable (K : PySem.W.Frag) (mg : Str → Option Value) (ps : List Addr) (H : Hp)
mutual
/-- v bears the datum d in the heap H -/
def Rp : D → V → Prop
  | .non, v => v = .non
  | .bl b, v => v = .bl b
  | .int i, v => v = .int i
  | .str x, v => v = .str x ∧ x.length ≤ 100000
  | .ty n, v => v = .ty n
  | .fn x, v => ∃ a, v = .ref a ∧ mg x = some (.ref a)
  | .cell i, v => ∃ a, v = .ref a ∧ ps[i]? = some a
  | .tup ds, v => ∃ a xs, v = .ref a ∧ TupAt K H a xs ∧ RpL ds xs
  | .lst ds, v => ∃ a xs, v = .ref a ∧ H a = some (.lst xs) ∧ RpL ds xs
  | .frz ds, v => ∃ a xs, v = .ref a ∧ SqL K H a xs ∧ RpL ds xs
  | .tpc ds, v => ∃ a xs, v = .ref a ∧ TupW K a xs ∧ RpL ds xs
  | .dK ks ds, v => ∃ a o ws, v = .ref a ∧ H a = some (.frz o (.dK ws)) ∧ ws.map (·.1) = ks.map Sum.inr ∧ RpL ds (ws.map (·.2))
  | .dT ks ds, v => ∃ a o ws, v = .ref a ∧ H a = some (.frz o (.dT ws)) ∧ ws.map (·.1) = ks.map (fun k => k.map Sum.inl) ∧ RpL ds (ws.map (·.2))
  | .dI ks ds, v => ∃ a o ws, v = .ref a ∧ H a = some (.frz o (.dK ws)) ∧ ws.map (·.1) = ks.map Sum.inl ∧ RpL ds (ws.map (·.2))
  | .obj c ms bs ks ds, v => ∃ a C d fs, v = .ref a ∧ mg c = some (.ref C) ∧ ClsD K mg c C ms bs ks ∧ H a = some (exH C d a) ∧ fs.map (·.1) = ks ∧ ((d = none ∧ fs = []) ∨ ∃ dd, d = some dd ∧ H dd = some (.xd fs)) ∧ RpL ds (fs.map (·.2))
  | .cls c ms bs ks, v => ∃ C, v = .ref C ∧ mg c = some (.ref C) ∧ ClsD K mg c C ms bs ks
def RpL : List D → List V → Prop
  | [], xs => xs = []
  | d :: ds, xs => ∃ x r, xs = x :: r ∧ Rp d x ∧ RpL ds r
end
end
section
variable {K : PySem.W.Frag} {mg : Str → Option Value} {ps : List Addr} {H H' : Hp}
mutual
theorem Rp.mono (l : Le H H') : ∀ (d : D) (v : V), Rp K mg ps H d v → Rp K mg ps H' d v
  | .non, v, h => by simpa [Rp] using h
  | .bl b, v, h => by simpa [Rp] using h
  | .int i, v, h => by simpa [Rp] using h
  | .str x, v, h => by simpa [Rp] using h
  | .ty n, v, h => by simpa [Rp] using h
  | .fn x, v, h => by simpa [Rp] using h
  | .cell i, v, h => by simpa [Rp] using h
  | .tup ds, v, h => by
    unfold Rp at h ⊢
    obtain ⟨a, xs, e, s, r⟩ := h
    exact ⟨a, xs, e, s.le l, RpL.mono l ds xs r⟩
  | .lst ds, v, h => by
    unfold Rp at h ⊢
    obtain ⟨a, xs, e, s, r⟩ := h
    exact ⟨a, xs, e, l _ _ s, RpL.mono l ds xs r⟩
  | .frz ds, v, h => by
    unfold Rp at h ⊢
    obtain ⟨a, xs, e, s, r⟩ := h
    exact ⟨a, xs, e, sqL_le l s, RpL.mono l ds xs r⟩
  | .tpc ds, v, h => by
    unfold Rp at h ⊢
    obtain ⟨a, xs, e, s, r⟩ := h
    exact ⟨a, xs, e, s, RpL.mono l ds xs r⟩
  | .dK ks ds, v, h => by
    unfold Rp at h ⊢
    obtain ⟨a, o, ws, e, s, q, r⟩ := h
    exact ⟨a, o, ws, e, l _ _ s, q, RpL.mono l ds _ r⟩
  | .dT ks ds, v, h => by
    unfold Rp at h ⊢
    obtain ⟨a, o, ws, e, s, q, r⟩ := h
    exact ⟨a, o, ws, e, l _ _ s, q, RpL.mono l ds _ r⟩
  | .dI ks ds, v, h => by
    unfold Rp at h ⊢
    obtain ⟨a, o, ws, e, s, q, r⟩ := h
    exact ⟨a, o, ws, e, l _ _ s, q, RpL.mono l ds _ r⟩
  | .obj c ms bs ks ds, v, h => by
    unfold Rp at h ⊢
    obtain ⟨a, C, d, fs, e, m, k, s, q, t, r⟩ := h
    exact ⟨a, C, d, fs, e, m, k, l _ _ s, q, t.imp id fun ⟨dd, z, y⟩ => ⟨dd, z, l _ _ y⟩, RpL.mono l ds _ r⟩
  | .cls c ms bs ks, v, h => by simpa [Rp] using h
theorem RpL.mono (l : Le H H') : ∀ (ds : List D) (xs : List V), RpL K mg ps H ds xs → RpL K mg ps H' ds xs
  | [], xs, h => by simpa [RpL] using h
  | d :: ds, xs, h => by
    unfold RpL at h ⊢
    obtain ⟨x, r, e, h1, h2⟩ := h
    exact ⟨x, r, e, Rp.mono l d x h1, RpL.mono l ds r h2⟩
end
theorem RpL.length : ∀ {ds : List D} {xs : List V}, RpL K mg ps H ds xs → ds.length = xs.length
  | [], xs, h => by unfold RpL at h; subst h; rfl
  | d :: ds, xs, h => by
    unfold RpL at h
    obtain ⟨x, r, e, h1, h2⟩ := h
    subst e
    simp [RpL.length h2]
theorem RpL.nil : RpL K mg ps H [] [] := by unfold RpL; rfl
theorem RpL.cons {d : D} {ds : List D} {x : V} {xs : List V} (h : Rp K mg ps H d x) (t : RpL K mg ps H ds xs) : RpL K mg ps H (d :: ds) (x :: xs) := by
  unfold RpL
  exact ⟨x, xs, rfl, h, t⟩
theorem RpL.append : ∀ {ds es : List D} {xs ys : List V}, RpL K mg ps H ds xs → RpL K mg ps H es ys → RpL K mg ps H (ds ++ es) (xs ++ ys)
  | [], es, xs, ys, h, t => by unfold RpL at h; subst h; exact t
  | d :: ds, es, xs, ys, h, t => by
    unfold RpL at h
    obtain ⟨x, r, e, h1, h2⟩ := h
    subst e
    exact RpL.cons h1 (RpL.append h2 t)
theorem RpL.get : ∀ {ds : List D} {xs : List V} {i : Nat} {d : D}, RpL K mg ps H ds xs → ds[i]? = some d → ∃ x, xs[i]? = some x ∧ Rp K mg ps H d x
  | [], _, _, _, _, e => by simp at e
  | d :: ds, xs, 0, d', h, e => by
    unfold RpL at h
    obtain ⟨x, r, e1, h1, h2⟩ := h
    subst e1
    simp at e
    subst e
    exact ⟨x, rfl, h1⟩
  | d :: ds, xs, i + 1, d', h, e => by
    unfold RpL at h
    obtain ⟨x, r, e1, h1, h2⟩ := h
    subst e1
    obtain ⟨y, e2, h3⟩ := RpL.get (i := i) h2 (by simpa using e)
    exact ⟨y, by simpa using e2, h3⟩
theorem RpL.set : ∀ {ds : List D} {xs : List V} {i : Nat} {d : D} {x : V}, RpL K mg ps H ds xs → Rp K mg ps H d x → RpL K mg ps H (ds.set i d) (xs.set i x)
  | [], xs, i, d, x, h, r => by unfold RpL at h; subst h; exact RpL.nil
  | d0 :: ds, xs, 0, d, x, h, r => by
    unfold RpL at h
    obtain ⟨y, t, e1, h1, h2⟩ := h
    subst e1
    exact RpL.cons r h2
  | d0 :: ds, xs, i + 1, d, x, h, r => by
    unfold RpL at h
    obtain ⟨y, t, e1, h1, h2⟩ := h
    subst e1
    exact RpL.cons h1 (RpL.set h2 r)
theorem RpL.drop : ∀ {ds : List D} {xs : List V} (n : Nat), RpL K mg ps H ds xs → RpL K mg ps H (ds.drop n) (xs.drop n)
  | _, _, 0, h => h
  | [], xs, n + 1, h => by unfold RpL at h; subst h; exact RpL.nil
  | d :: ds, xs, n + 1, h => by
    unfold RpL at h
    obtain ⟨y, t, e1, h1, h2⟩ := h
    subst e1
    exact RpL.drop n h2
theorem RpL.take : ∀ {ds : List D} {xs : List V} (n : Nat), RpL K mg ps H ds xs → RpL K mg ps H (ds.take n) (xs.take n)
  | _, _, 0, h => by simpa using (RpL.nil (K := K) (mg := mg) (ps := ps) (H := H))
  | [], xs, n + 1, h => by unfold RpL at h; subst h; exact RpL.nil
  | d :: ds, xs, n + 1, h => by
    unfold RpL at h
    obtain ⟨y, t, e1, h1, h2⟩ := h
    subst e1
    exact RpL.cons h1 (RpL.take n h2)
theorem Rp.tup_of {ds : List D} {v : V} (h : Rp K mg ps H (.tup ds) v) : ∃ a xs, v = .ref a ∧ TupAt K H a xs ∧ RpL K mg ps H ds xs := by unfold Rp at h; exact h
theorem Rp.lst_of {ds : List D} {v : V} (h : Rp K mg ps H (.lst ds) v) : ∃ a xs, v = .ref a ∧ H a = some (.lst xs) ∧ RpL K mg ps H ds xs := by unfold Rp at h; exact h
theorem Rp.frz_of {ds : List D} {v : V} (h : Rp K mg ps H (.frz ds) v) : ∃ a xs, v = .ref a ∧ SqL K H a xs ∧ RpL K mg ps H ds xs := by unfold Rp at h; exact h
theorem Rp.tpc_of {ds : List D} {v : V} (h : Rp K mg ps H (.tpc ds) v) : ∃ a xs, v = .ref a ∧ TupW K a xs ∧ RpL K mg ps H ds xs := by unfold Rp at h; exact h
theorem Rp.tpc {ds : List D} {a : Addr} {xs : List V} (h : TupW K a xs) (r : RpL K mg ps H ds xs) : Rp K mg ps H (.tpc ds) (.ref a) := by unfold Rp; exact ⟨a, xs, rfl, h, r⟩
theorem Rp.dK_of {ks : List Str} {ds : List D} {v : V} (h : Rp K mg ps H (.dK ks ds) v) : ∃ a o ws, v = .ref a ∧ H a = some (.frz o (.dK ws)) ∧ ws.map (·.1) = ks.map Sum.inr ∧ RpL K mg ps H ds (ws.map (·.2)) := by unfold Rp at h; exact h
theorem Rp.dT_of {ks : List (List Int)} {ds : List D} {v : V} (h : Rp K mg ps H (.dT ks ds) v) : ∃ a o ws, v = .ref a ∧ H a = some (.frz o (.dT ws)) ∧ ws.map (·.1) = ks.map (fun k => k.map Sum.inl) ∧ RpL K mg ps H ds (ws.map (·.2)) := by unfold Rp at h; exact h
theorem Rp.dK {ks : List Str} {ds : List D} {a : Addr} {o : Obj} {ws : List (Key × V)} (h : H a = some (.frz o (.dK ws))) (e : ws.map (·.1) = ks.map Sum.inr) (r : RpL K mg ps H ds (ws.map (·.2))) : Rp K mg ps H (.dK ks ds) (.ref a) := by unfold Rp; exact ⟨a, o, ws, rfl, h, e, r⟩
theorem Rp.dT {ks : List (List Int)} {ds : List D} {a : Addr} {o : Obj} {ws : List (List Key × V)} (h : H a = some (.frz o (.dT ws))) (e : ws.map (·.1) = ks.map (fun k => k.map Sum.inl)) (r : RpL K mg ps H ds (ws.map (·.2))) : Rp K mg ps H (.dT ks ds) (.ref a) := by unfold Rp; exact ⟨a, o, ws, rfl, h, e, r⟩
theorem Rp.dI_of {ks : List Int} {ds : List D} {v : V} (h : Rp K mg ps H (.dI ks ds) v) : ∃ a o ws, v = .ref a ∧ H a = some (.frz o (.dK ws)) ∧ ws.map (·.1) = ks.map Sum.inl ∧ RpL K mg ps H ds (ws.map (·.2)) := by unfold Rp at h; exact h
theorem Rp.dI {ks : List Int} {ds : List D} {a : Addr} {o : Obj} {ws : List (Key × V)} (h : H a = some (.frz o (.dK ws))) (e : ws.map (·.1) = ks.map Sum.inl) (r : RpL K mg ps H ds (ws.map (·.2))) : Rp K mg ps H (.dI ks ds) (.ref a) := by unfold Rp; exact ⟨a, o, ws, rfl, h, e, r⟩
theorem Rp.obj_of {c : Str} {ms : List (Str × Bool)} {bs : List (String × Bool)} {ks : List Str} {ds : List D} {v : V} (h : Rp K mg ps H (.obj c ms bs ks ds) v) : ∃ a C d fs, v = .ref a ∧ mg c = some (.ref C) ∧ ClsD K mg c C ms bs ks ∧ H a = some (exH C d a) ∧ fs.map (·.1) = ks ∧ ((d = none ∧ fs = []) ∨ ∃ dd, d = some dd ∧ H dd = some (.xd fs)) ∧ RpL K mg ps H ds (fs.map (·.2)) := by unfold Rp at h; exact h
theorem Rp.obj {c : Str} {ms : List (Str × Bool)} {bs : List (String × Bool)} {ks : List Str} {ds : List D} {a C : Addr} {d : Option Addr} {fs : List (Str × V)} (m : mg c = some (.ref C)) (k : ClsD K mg c C ms bs ks) (h : H a = some (exH C d a)) (e : fs.map (·.1) = ks) (t : (d = none ∧ fs = []) ∨ ∃ dd, d = some dd ∧ H dd = some (.xd fs)) (r : RpL K mg ps H ds (fs.map (·.2))) : Rp K mg ps H (.obj c ms bs ks ds) (.ref a) := by unfold Rp; exact ⟨a, C, d, fs, rfl, m, k, h, e, t, r⟩
theorem Rp.cls_of {c : Str} {ms : List (Str × Bool)} {bs : List (String × Bool)} {ks : List Str} {v : V} (h : Rp K mg ps H (.cls c ms bs ks) v) : ∃ C, v = .ref C ∧ mg c = some (.ref C) ∧ ClsD K mg c C ms bs ks := by unfold Rp at h; exact h
theorem Rp.cls {c : Str} {ms : List (Str × Bool)} {bs : List (String × Bool)} {ks : List Str} {C : Addr} (m : mg c = some (.ref C)) (k : ClsD K mg c C ms bs ks) : Rp K mg ps H (.cls c ms bs ks) (.ref C) := by unfold Rp; exact ⟨C, rfl, m, k⟩
theorem Rp.frz {ds : List D} {a : Addr} {xs : List V} (h : SqL K H a xs) (r : RpL K mg ps H ds xs) : Rp K mg ps H (.frz ds) (.ref a) := by unfold Rp; exact ⟨a, xs, rfl, h, r⟩
theorem Rp.tup {ds : List D} {a : Addr} {xs : List V} (h : TupAt K H a xs) (r : RpL K mg ps H ds xs) : Rp K mg ps H (.tup ds) (.ref a) := by unfold Rp; exact ⟨a, xs, rfl, h, r⟩
theorem Rp.lst {ds : List D} {a : Addr} {xs : List V} (h : H a = some (.lst xs)) (r : RpL K mg ps H ds xs) : Rp K mg ps H (.lst ds) (.ref a) := by unfold Rp; exact ⟨a, xs, rfl, h, r⟩
theorem Rp.int {i : Int} : Rp K mg ps H (.int i) (.int i) := by unfold Rp; rfl
theorem Rp.int_of {i : Int} {v : V} (h : Rp K mg ps H (.int i) v) : v = .int i := by unfold Rp at h; exact h
theorem Rp.bl {b : Bool} : Rp K mg ps H (.bl b) (.bl b) := by unfold Rp; rfl
theorem Rp.bl_of {b : Bool} {v : V} (h : Rp K mg ps H (.bl b) v) : v = .bl b := by unfold Rp at h; exact h
theorem Rp.non : Rp K mg ps H .non .non := by unfold Rp; rfl
theorem Rp.non_of {v : V} (h : Rp K mg ps H .non v) : v = .non := by unfold Rp at h; exact h
theorem Rp.str {x : Str} (hl : x.length ≤ 100000) : Rp K mg ps H (.str x) (.str x) := by unfold Rp; exact ⟨rfl, hl⟩
theorem Rp.str_of {x : Str} {v : V} (h : Rp K mg ps H (.str x) v) : v = .str x ∧ x.length ≤ 100000 := by unfold Rp at h; exact h
theorem Rp.ty {n : String} : Rp K mg ps H (.ty n) (.ty n) := by unfold Rp; rfl
theorem Rp.ty_of {n : String} {v : V} (h : Rp K mg ps H (.ty n) v) : v = .ty n := by unfold Rp at h; exact h
theorem Rp.fn_of {x : Str} {v : V} (h : Rp K mg ps H (.fn x) v) : ∃ a, v = .ref a ∧ mg x = some (.ref a) := by unfold Rp at h; exact h
theorem Rp.cell_of {i : Nat} {v : V} (h : Rp K mg ps H (.cell i) v) : ∃ a, v = .ref a ∧ ps[i]? = some a := by unfold Rp at h; exact h
end

/-! ### own lists -/
inductive All3 {α β γ : Type} (F : α → β → γ → Prop) : List α → List β → List γ → Prop where
  | nil : All3 F [] [] []
  | cons {a b c as bs cs} : F a b c → All3 F as bs cs → All3 F (a :: as) (b :: bs) (c :: cs)
/-- v bears d; its lists, k levels deep, are the frame's own, at fp -/
def RpO (R : D → V → Prop) (H : Hp) : Nat → D → V → List Addr → Prop
  | 0 => fun d v fp => fp = [] ∧ R d v
  | k + 1 => fun d v fp => ∃ a ds xs fps, d = .lst ds ∧ v = .ref a ∧ H a = some (.lst xs) ∧ fp = a :: fps.flatten ∧ All3 (RpO R H k) ds xs fps
theorem All3.imp {α β γ : Type} {F G : α → β → γ → Prop} {as : List α} {bs : List β} {cs : List γ} (h : All3 F as bs cs) (i : ∀ a b c, c ∈ cs → F a b c → G a b c) : All3 G as bs cs := by
  induction h with
  | nil => exact .nil
  | cons h1 h2 ih => exact .cons (i _ _ _ (List.mem_cons_self ..) h1) (ih fun a b c m f => i a b c (List.mem_cons_of_mem _ m) f)
theorem All3.length {α β γ : Type} {F : α → β → γ → Prop} {as : List α} {bs : List β} {cs : List γ} (h : All3 F as bs cs) : as.length = bs.length ∧ cs.length = bs.length := by
  induction h with
  | nil => exact ⟨rfl, rfl⟩
  | cons h1 h2 ih => simp [ih.1, ih.2]
theorem All3.append {α β γ : Type} {F : α → β → γ → Prop} {as as' : List α} {bs bs' : List β} {cs cs' : List γ} (h : All3 F as bs cs) (h' : All3 F as' bs' cs') : All3 F (as ++ as') (bs ++ bs') (cs ++ cs') := by
  induction h with
  | nil => exact h'
  | cons h1 h2 ih => exact .cons h1 ih
theorem All3.get {α β γ : Type} {F : α → β → γ → Prop} {as : List α} {bs : List β} {cs : List γ} (h : All3 F as bs cs) {i : Nat} {a : α} (e : as[i]? = some a) : ∃ b c, bs[i]? = some b ∧ cs[i]? = some c ∧ F a b c := by
  induction h generalizing i with
  | nil => simp at e
  | cons h1 h2 ih =>
    cases i with
    | zero => simp at e; subst e; exact ⟨_, _, rfl, rfl, h1⟩
    | succ i =>
      obtain ⟨b, c, e1, e2, f⟩ := ih (i := i) (by simpa using e)
      exact ⟨b, c, by simpa using e1, by simpa using e2, f⟩
theorem All3.set {α β γ : Type} {F : α → β → γ → Prop} {as : List α} {bs : List β} {cs : List γ} (h : All3 F as bs cs) {i : Nat} {a : α} {b : β} {c : γ} (f : F a b c) : All3 F (as.set i a) (bs.set i b) (cs.set i c) := by
  induction h generalizing i with
  | nil => exact .nil
  | cons h1 h2 ih =>
    cases i with
    | zero => exact .cons f h2
    | succ i => exact .cons h1 (ih (i := i))
theorem RpO.mono {R R' : D → V → Prop} {H H' : Hp} (r : ∀ d v, R d v → R' d v) : ∀ {k : Nat} {d : D} {v : V} {fp : List Addr}, RpO R H k d v fp → (∀ a o, a ∈ fp → H a = some o → H' a = some o) → RpO R' H' k d v fp
  | 0, d, v, fp, h, _ => ⟨h.1, r _ _ h.2⟩
  | k + 1, d, v, fp, h, l => by
    obtain ⟨a, ds, xs, fps, e1, e2, e3, e4, h⟩ := h
    refine ⟨a, ds, xs, fps, e1, e2, l _ _ (by rw [e4]; exact List.mem_cons_self ..) e3, e4, h.imp fun d' v' c m f => RpO.mono r f fun b o hb => l b o ?_⟩
    rw [e4]
    exact List.mem_cons_of_mem _ (List.mem_flatten.mpr ⟨c, m, hb⟩)
theorem RpO.there {R : D → V → Prop} {H : Hp} : ∀ {k : Nat} {d : D} {v : V} {fp : List Addr}, RpO R H k d v fp → ∀ a ∈ fp, ∃ xs, H a = some (.lst xs)
  | 0, d, v, fp, h, a, m => by rw [h.1] at m; cases m
  | k + 1, d, v, fp, h, a, m => by
    obtain ⟨b, ds, xs, fps, e1, e2, e3, e4, h⟩ := h
    rw [e4] at m
    rcases List.mem_cons.mp m with m | m
    · subst m; exact ⟨xs, e3⟩
    · obtain ⟨c, m1, m2⟩ := List.mem_flatten.mp m
      have key : ∀ {ds : List D} {xs : List V} {fps : List (List Addr)}, All3 (RpO R H k) ds xs fps → c ∈ fps → ∃ xs, H a = some (.lst xs) := by
        intro ds xs fps h m1
        induction h with
        | nil => cases m1
        | cons h1 h2 ih =>
          rcases List.mem_cons.mp m1 with q | q
          · subst q; exact h1.there a m2
          · exact ih q
      exact key h m1

section
variable {K : PySem.W.Frag} {mg : Str → Option Value} {ps : List Addr} {H : Hp}
theorem RpL.of_all3 {k : Nat} {G : Hp} {R : D → V → Prop} {ds : List D} {xs : List V} {fps : List (List Addr)} (h : All3 (RpO R H k) ds xs fps) (i : ∀ d v fp, fp ∈ fps → RpO R H k d v fp → Rp K mg ps G d v) : RpL K mg ps G ds xs := by
  induction h with
  | nil => exact RpL.nil
  | cons h1 h2 ih => exact RpL.cons (i _ _ _ (List.mem_cons_self ..) h1) (ih fun d v fp m f => i d v fp (List.mem_cons_of_mem _ m) f)
theorem RpL.all3 {R : D → V → Prop} (hR : ∀ d v, Rp K mg ps H d v → R d v) {G : Hp} : ∀ {ds : List D} {xs : List V}, RpL K mg ps H ds xs → All3 (RpO R G 0) ds xs (ds.map fun _ => [])
  | [], xs, h => by unfold RpL at h; subst h; exact .nil
  | d :: ds, xs, h => by
    unfold RpL at h
    obtain ⟨x, r, e, h1, h2⟩ := h
    subst e
    exact .cons ⟨rfl, hR _ _ h1⟩ (RpL.all3 hR h2)
theorem RpL.of_all3_0 {G : Hp} : ∀ {ds : List D} {xs : List V} {fps : List (List Addr)}, All3 (RpO (Rp K mg ps H) G 0) ds xs fps → RpL K mg ps H ds xs ∧ fps.flatten = []
  | _, _, _, .nil => ⟨RpL.nil, rfl⟩
  | _, _, _, .cons h t => by
    obtain ⟨h1, h2⟩ := RpL.of_all3_0 t
    exact ⟨RpL.cons h.2 h1, by rw [List.flatten_cons, h.1, h2]; rfl⟩
/-- own lists, seen as plain data -/
theorem RpO.toRp {p q : Addr → Prop} (hpq : ∀ a, q a → p a) : ∀ {k : Nat} {d : D} {v : V} {fp : List Addr}, RpO (Rp K mg ps (hid H p)) H k d v fp → (∀ a ∈ fp, ¬ q a) → Rp K mg ps (hid H q) d v
  | 0, d, v, fp, h, _ => Rp.mono (hid_le hpq fun _ _ _ e => e) d v h.2
  | k + 1, d, v, fp, h, nq => by
    obtain ⟨a, ds, xs, fps, e1, e2, e3, e4, h⟩ := h
    subst e1 e2
    refine Rp.lst (hid_some.mpr ⟨nq a (by rw [e4]; exact List.mem_cons_self ..), e3⟩) (RpL.of_all3 h fun d' v' fp' m f => RpO.toRp hpq f fun b hb => nq b ?_)
    rw [e4]
    exact List.mem_cons_of_mem _ (List.mem_flatten.mpr ⟨fp', m, hb⟩)
end
theorem flatten_map_nil {α β : Type} : ∀ (l : List α), (l.map fun _ => ([] : List β)).flatten = []
  | [] => rfl
  | a :: l => by rw [List.map_cons, List.flatten_cons, flatten_map_nil l]; rfl

/-! ### the state -/
abbrev Cells := List (List D)
inductive Slot where
  | emp | sh (d : D) | ow (k : Nat) (d : D) | od (d : D)
/-- the dict at a bears d; R: its values -/
def DcO (H : Hp) (R : List D → List V → Prop) (a : Addr) : D → Prop
  | .dK ks ds => ∃ ws, H a = some (.dK ws) ∧ ws.map (·.1) = ks.map Sum.inr ∧ R ds (ws.map (·.2))
  | .dT ks ds => ∃ ws, H a = some (.dT ws) ∧ ws.map (·.1) = ks.map (fun k => k.map Sum.inl) ∧ R ds (ws.map (·.2))
  | .dI ks ds => ∃ ws, H a = some (.dK ws) ∧ ws.map (·.1) = ks.map Sum.inl ∧ R ds (ws.map (·.2))
  | _ => False
theorem DcO.there {H : Hp} {R : List D → List V → Prop} {a : Addr} {d : D} (h : DcO H R a d) : ∃ o, H a = some o := by
  cases d <;> first | exact h.elim | (obtain ⟨ws, e, _⟩ := h; exact ⟨_, e⟩)
theorem DcO.mono {H H' : Hp} {R R' : List D → List V → Prop} {a : Addr} {d : D} (h : DcO H R a d) (l : ∀ o, H a = some o → H' a = some o) (r : ∀ ds xs, R ds xs → R' ds xs) : DcO H' R' a d := by
  cases d <;> first | exact h.elim | (obtain ⟨ws, e, q, z⟩ := h; exact ⟨ws, l _ e, q, r _ _ z⟩)
/-- locked, it bears d -/
theorem DcO.lock {K : PySem.W.Frag} {mg : Str → Option Value} {ps : List Addr} {H G : Hp} {a : Addr} {d : D} (h : DcO H (RpL K mg ps G) a d) : ∃ u, H a = some u ∧ Mut (some u) ∧ ∀ o, G a = some (.frz o u) → Rp K mg ps G d (.ref a) := by
  cases d <;> first | exact h.elim | (obtain ⟨ws, e, q, z⟩ := h; first | exact ⟨_, e, trivial, fun o g => Rp.dK g q z⟩ | exact ⟨_, e, trivial, fun o g => Rp.dT g q z⟩ | exact ⟨_, e, trivial, fun o g => Rp.dI g q z⟩)
/-- what is fixed while a body runs: the written part, the module's names, the cells' addresses, what the callers hide -/
structure Bx where
  K : PySem.W.Frag
  mg : Str → Option Value
  ps : List Addr
  h0 : Addr → Prop
def SB (ps : List Addr) (H H' : Hp) : Prop := ∀ a o, a ∉ ps → H a = some o → H' a = some o
theorem SB.refl {ps : List Addr} {H : Hp} : SB ps H H := fun _ _ _ e => e
theorem SB.trans {ps : List Addr} {H H1 H2 : Hp} (a : SB ps H H1) (b : SB ps H1 H2) : SB ps H H2 := fun c o n e => b c o n (a c o n e)
theorem SB.upd {ps : List Addr} {H : Hp} {p : Addr} {o : HO} (n : H p = none) : SB ps H (upd H p o) := fun a u _ e => by
  rw [upd_ne (ne_of_none e n)]
  exact e
abbrev Bx.Rp (B : Bx) (H : Hp) (hs : Addr → Prop) : D → V → Prop := Pc.Rp B.K B.mg B.ps (hid H hs)
abbrev Bx.RpL (B : Bx) (H : Hp) (hs : Addr → Prop) : List D → List V → Prop := Pc.RpL B.K B.mg B.ps (hid H hs)
def SlR (B : Bx) (hs : Addr → Prop) (H : Hp) (ov : Option (Option V)) (fp : List Addr) : Slot → Prop
  | .emp => fp = []
  | .sh d => fp = [] ∧ ∃ v, ov = some (some v) ∧ B.Rp H hs d v
  | .ow k d => ∃ v, ov = some (some v) ∧ RpO (B.Rp H hs) H (k + 1) d v fp
  | .od d => ∃ a, ov = some (some (.ref a)) ∧ fp = [a] ∧ DcO H (B.RpL H hs) a d
structure CsR (B : Bx) (hs : Addr → Prop) (H : Hp) (cs : Cells) : Prop where
  len : cs.length = B.ps.length
  nd : B.ps.Nodup
  at_ : ∀ (i : Nat) (ds : List D) (a : Addr), cs[i]? = some ds → B.ps[i]? = some a → ∃ xs, H a = some (.lst xs) ∧ B.RpL H hs ds xs
def hsOf (B : Bx) (fp : Nat → List Addr) : Addr → Prop := fun a => B.h0 a ∨ ∃ i, a ∈ fp i
/-- no tuple -/
def HO.nt : HO → Bool
  | .tup _ => false
  | _ => true
structure StR (B : Bx) (env : List Slot) (cs : Cells) (fp : Nat → List Addr) (σ : L2.St) (H : Hp) : Prop where
  len : env.length = σ.length
  slot : ∀ (i : Nat) (s : Slot), env[i]? = some s → SlR B (hsOf B fp) H σ[i]? (fp i) s
  out : ∀ i, env.length ≤ i → fp i = []
  cells : CsR B (hsOf B fp) H cs
  ps0 : ∀ a, a ∈ B.ps → B.h0 a
  th0 : ∀ a, B.h0 a → ∃ o, H a = some o ∧ HO.nt o = true
  own : ∀ i a, a ∈ fp i → a ∉ B.ps
  dis : ∀ i j a, a ∈ fp i → a ∈ fp j → i = j
  nd : ∀ i, (fp i).Nodup
section
variable {B : Bx} {env : List Slot} {cs cs' : Cells} {fp : Nat → List Addr} {σ : L2.St} {H H' H1 : Hp}
theorem CsR.there {hs : Addr → Prop} (c : CsR B hs H cs) {a : Addr} (m : a ∈ B.ps) : ∃ xs, H a = some (.lst xs) := by
  obtain ⟨i, e⟩ := List.getElem?_of_mem m
  have hi : i < cs.length := by rw [c.len]; exact (List.getElem?_eq_some_iff.mp e).1
  obtain ⟨xs, h, _⟩ := c.at_ i cs[i] a (List.getElem?_eq_getElem hi) e
  exact ⟨xs, h⟩
theorem DcO.thereN {H : Hp} {R : List D → List V → Prop} {a : Addr} {d : D} (h : DcO H R a d) : ∃ o, H a = some o ∧ HO.nt o = true := by
  cases d <;> first | exact h.elim | (obtain ⟨ws, e, _⟩ := h; exact ⟨_, e, rfl⟩)
theorem StR.thereN (S : StR B env cs fp σ H) {a : Addr} (h : hsOf B fp a) : ∃ o, H a = some o ∧ HO.nt o = true := by
  rcases h with h | ⟨i, h⟩
  · exact S.th0 a h
  · by_cases hi : i < env.length
    · have q := S.slot i _ (List.getElem?_eq_getElem hi)
      cases e : env[i] with
      | emp => rw [e] at q; rw [q] at h; cases h
      | sh d => rw [e] at q; rw [q.1] at h; cases h
      | ow k d =>
        rw [e] at q
        obtain ⟨v, _, r⟩ := q
        obtain ⟨xs, e⟩ := r.there a h
        exact ⟨_, e, rfl⟩
      | od d =>
        rw [e] at q
        obtain ⟨b, _, ef, r⟩ := q
        rw [ef] at h
        cases List.mem_singleton.mp h
        exact r.thereN
    · rw [S.out i (by omega)] at h; cases h
theorem StR.there (S : StR B env cs fp σ H) {a : Addr} (h : hsOf B fp a) : ∃ o, H a = some o := let ⟨o, e, _⟩ := S.thereN h; ⟨o, e⟩
theorem sb_le (h0 : ∀ a, a ∈ B.ps → B.h0 a) (s : SB B.ps H H') : Le (hid H (hsOf B fp)) (hid H' (hsOf B fp)) := hid_le (fun _ h => h) fun a o n e => s a o (fun m => n (.inl (h0 a m))) e
theorem SlR.next (h0 : ∀ a, a ∈ B.ps → B.h0 a) {ov : Option (Option V)} {f : List Addr} {s : Slot} (hf : ∀ a ∈ f, a ∉ B.ps) (sb : SB B.ps H H') (h : SlR B (hsOf B fp) H ov f s) : SlR B (hsOf B fp) H' ov f s := by
  cases s with
  | emp => exact h
  | sh d => exact ⟨h.1, h.2.choose, h.2.choose_spec.1, Rp.mono (sb_le h0 sb) _ _ h.2.choose_spec.2⟩
  | ow k d =>
    obtain ⟨v, e, r⟩ := h
    exact ⟨v, e, r.mono (Rp.mono (sb_le h0 sb)) fun a o m q => sb a o (hf a m) q⟩
  | od d =>
    obtain ⟨a, e, ef, r⟩ := h
    exact ⟨a, e, ef, r.mono (fun o q => sb a o (hf a (by rw [ef]; exact List.mem_singleton.mpr rfl)) q) fun ds xs z => RpL.mono (sb_le h0 sb) ds xs z⟩
/-- behind an expression -/
theorem StR.next (S : StR B env cs fp σ H) (sb : SB B.ps H H') (c : CsR B (hsOf B fp) H' cs') : StR B env cs' fp σ H' :=
  ⟨S.len, fun i s e => (S.slot i s e).next S.ps0 (S.own i) sb, S.out, c, S.ps0, fun a h => by
    by_cases hp : a ∈ B.ps
    · obtain ⟨xs, e⟩ := c.there hp
      exact ⟨_, e, rfl⟩
    · obtain ⟨o, e, t⟩ := S.th0 a h
      exact ⟨o, sb a o hp e, t⟩, S.own, S.dis, S.nd⟩
theorem CsR.next {hs : Addr → Prop} (c : CsR B hs H cs) (hps : ∀ a, a ∈ B.ps → hs a) (sb : ∀ a o, H a = some o → H' a = some o) : CsR B hs H' cs :=
  ⟨c.len, c.nd, fun i ds a e1 e2 => let ⟨xs, h1, h2⟩ := c.at_ i ds a e1 e2; ⟨xs, sb _ _ h1, RpL.mono (hid_le (fun _ h => h) fun a o _ e => sb a o e) _ _ h2⟩⟩
theorem upd_le {H : Hp} {p : Addr} {o : HO} (n : H p = none) : Le H (upd H p o) := fun a u e => by
  rw [upd_ne (ne_of_none e n)]
  exact e
end
end Pc

set_option Elab.async false
set_option maxRecDepth 100000
set_option maxHeartbeats 4000000
namespace Pc
open PySem PySem.Spec PyProof.Rows L2

/-! ### values of expressions -/
/-- plain (st), new lists of one's own k + 1 levels deep (fr), own lists that stand at a name (tr) -/
inductive Tg where
  | st | fr (k : Nat) | tr (k : Nat)
def Tg.plain : Tg → Bool
  | .tr _ => false
  | _ => true
inductive Rs (α : Type) where
  | ok (a : α) (c : Cells)
  | exc (x : Str) (fs : List (Str × D)) (c : Cells)
  | bad
abbrev ES := List Slot → Cells → Rs (Tg × D)
def PV (B : Bx) (hs : Addr → Prop) (H0 H : Hp) : Tg → D → V → Prop
  | .st => fun d v => B.Rp H hs d v
  | .fr k => fun d v => ∃ fp : List Addr, fp.Nodup ∧ (∀ a ∈ fp, H0 a = none ∧ a ∉ B.ps ∧ ¬ hs a) ∧ RpO (B.Rp H fun a => hs a ∨ a ∈ fp) H (k + 1) d v fp
  | .tr k => fun d v => ∃ fp : List Addr, (∀ a ∈ fp, a ∉ B.ps) ∧ RpO (B.Rp H hs) H (k + 1) d v fp
/-- an exception in the air: its class's name, its fields -/
def ExR (B : Bx) (hs : Addr → Prop) (H : Hp) (x : Str) (fs : List (Str × D)) (cls : Value) (dd : Option Addr) : Prop :=
  ∃ C, cls = .ref C ∧ B.mg x = some (.ref C) ∧ ((fs = [] ∧ dd = none) ∨ ∃ d fv, dd = some d ∧ H d = some (.xd fv) ∧ ∀ f e, fs.lookup f = some e → ∃ v, fv.lookup f = some v ∧ B.Rp H hs e v)
/-- what is to hold behind an expression whose value is r -/
def TEx (B : Bx) (W : WX) (fp : Nat → List Addr) (σ : L2.St) (H : Hp) (r : Rs (Tg × D)) (Q : VK) : Prop :=
  match r with
  | .ok x cs' => ∀ v H', SB B.ps H H' → CsR B (hsOf B fp) H' cs' → PV B (hsOf B fp) H H' x.1 x.2 v → Q v H'
  | .exc x fs cs' => ∀ cls dd H', SB B.ps H H' → CsR B (hsOf B fp) H' cs' → ExR B (hsOf B fp) H' x fs cls dd → W cls dd σ H'
  | .bad => False
def tE (B : Bx) (W : WX) (m : ES) : TE := fun σ H Q => ∃ env cs fp, StR B env cs fp σ H ∧ TEx B W fp σ H (m env cs) Q
def truthD : D → Option Bool
  | .non => some false
  | .bl b => some b
  | .int i => some (i != 0)
  | .str x => some ((x.length : Int) != 0)
  | .tup ds => some (!ds.isEmpty)
  | .lst ds => some (!ds.isEmpty)
  | _ => none
def TTx (B : Bx) (W : WX) (fp : Nat → List Addr) (σ : L2.St) (H : Hp) (r : Rs (Tg × D)) (Q : Bool → Hp → Prop) : Prop :=
  match r with
  | .ok x cs' => ∃ b, truthD x.2 = some b ∧ ∀ H', SB B.ps H H' → CsR B (hsOf B fp) H' cs' → Q b H'
  | .exc x fs cs' => ∀ cls dd H', SB B.ps H H' → CsR B (hsOf B fp) H' cs' → ExR B (hsOf B fp) H' x fs cls dd → W cls dd σ H'
  | .bad => False
def tT (B : Bx) (W : WX) (m : ES) : TT := fun σ H Q => ∃ env cs fp, StR B env cs fp σ H ∧ TTx B W fp σ H (m env cs) Q
/-- an expression and its plain reading, as a value and as a test -/
structure PM (X : Cx) (B : Bx) (W : WX) (e : Expr) (m : ES) : Prop where
  pe : PE X e (tE B W m)
  pt : PT X e (tT B W m)
theorem PE.imp {X : Cx} {e : Expr} {t u : TE} (h : PE X e t) (i : ∀ σ H Q, u σ H Q → t σ H Q) : PE X e u := ⟨fun pins s σ H Q I q => h.run pins s σ H Q I (i σ H Q q)⟩
theorem PT.imp {X : Cx} {e : Expr} {t u : TT} (h : PT X e t) (i : ∀ σ H Q, u σ H Q → t σ H Q) : PT X e u := ⟨fun pins s σ H Q I q => h.run pins s σ H Q I (i σ H Q q)⟩
theorem PS.imp {X : Cx} {e : Stmt} {t u : TS} (h : PS X e t) (i : ∀ D σ H, u D σ H → t D σ H) : PS X e u := ⟨fun pins s σ H D I q => h.run pins s σ H D I (i D σ H q)⟩
theorem PSs.imp {X : Cx} {e : List Stmt} {t u : TS} (h : PSs X e t) (i : ∀ D σ H, u D σ H → t D σ H) : PSs X e u := ⟨fun pins s σ H D I q => h.run pins s σ H D I (i D σ H q)⟩

section
variable {B : Bx} {W : WX} {env : List Slot} {cs cs' : Cells} {fp : Nat → List Addr} {σ : L2.St} {H H' H1 : Hp} {tg : Tg} {d : D} {v : V} {Q : VK}
theorem PV.next {hs : Addr → Prop} (hps : ∀ a, a ∈ B.ps → hs a) (sb : SB B.ps H1 H') (h : PV B hs H H1 tg d v) : PV B hs H H' tg d v := by
  have le : ∀ {p : Addr → Prop}, (∀ a, hs a → p a) → Le (hid H1 p) (hid H' p) := fun hp => hid_le (fun _ h => h) fun a o n e => sb a o (fun m => n (hp _ (hps _ m))) e
  cases tg with
  | st => exact Rp.mono (le fun _ h => h) _ _ h
  | fr k =>
    obtain ⟨f, nd, n, r⟩ := h
    exact ⟨f, nd, n, r.mono (Rp.mono (le fun _ h => .inl h)) fun a o m q => sb a o (n a m).2.1 q⟩
  | tr k =>
    obtain ⟨f, n, r⟩ := h
    exact ⟨f, n, r.mono (Rp.mono (le fun _ h => h)) fun a o m q => sb a o (n a m) q⟩
/-- the entry moved ahead -/
theorem PV.ahead {hs : Addr → Prop} (sb : SB B.ps H H1) (h : PV B hs H1 H' tg d v) : PV B hs H H' tg d v := by
  cases tg with
  | st => exact h
  | tr k => exact h
  | fr k =>
    obtain ⟨f, nd, n, r⟩ := h
    refine ⟨f, nd, fun a m => ⟨?_, (n a m).2⟩, r⟩
    cases e : H a with
    | none => rfl
    | some o =>
      have := sb a o (n a m).2.1 e
      rw [(n a m).1] at this
      cases this
theorem PV.rp {hs : Addr → Prop} (p : tg.plain = true) (h : PV B hs H H' tg d v) : B.Rp H' hs d v := by
  cases tg with
  | st => exact h
  | tr k => cases p
  | fr k =>
    obtain ⟨f, nd, n, r⟩ := h
    exact RpO.toRp (fun a h => .inl h) r fun a m => (n a m).2.2
theorem hid_leH {p : Addr → Prop} : Le (hid H p) H := fun a o e => (hid_some.mp e).2
/-- plain things, whatever they stand at -/
theorem PV.atom {hs : Addr → Prop} (h : PV B hs H H' tg d v) (na : ∀ ds, d ≠ .lst ds) : B.Rp H' hs d v := by
  cases tg with
  | st => exact h
  | tr k =>
    obtain ⟨f, _, a, ds, _, _, e, _⟩ := h
    exact absurd e (na ds)
  | fr k =>
    obtain ⟨f, _, _, a, ds, _, _, e, _⟩ := h
    exact absurd e (na ds)
theorem PV.int {hs : Addr → Prop} {i : Int} (h : PV B hs H H' tg (.int i) v) : v = .int i := Rp.int_of (h.atom fun ds e => by cases e)
theorem PV.bl {hs : Addr → Prop} {b : Bool} (h : PV B hs H H' tg (.bl b) v) : v = .bl b := Rp.bl_of (h.atom fun ds e => by cases e)
/-- a list: its items, each as it stands -/
def Tg.down : Tg → Tg
  | .st => .st
  | .fr _ => .st
  | .tr 0 => .st
  | .tr (k + 1) => .tr k
theorem PV.lst {hs : Addr → Prop} {ds : List D} (h : PV B hs H H' tg (.lst ds) v) : ∃ a xs, v = .ref a ∧ H' a = some (.lst xs) ∧ ds.length = xs.length ∧
    ∀ (i : Nat) (e : D), ds[i]? = some e → ∃ x, xs[i]? = some x ∧ PV B hs H H' tg.down e x := by
  have st : B.Rp H' hs (.lst ds) v → ∃ a xs, v = .ref a ∧ H' a = some (.lst xs) ∧ ds.length = xs.length ∧ ∀ (i : Nat) (e : D), ds[i]? = some e → ∃ x, xs[i]? = some x ∧ B.Rp H' hs e x := fun h => by
    obtain ⟨a, xs, e, s, r⟩ := Rp.lst_of h
    exact ⟨a, xs, e, hid_leH _ _ s, r.length, fun i e q => r.get q⟩
  cases tg with
  | st => exact st h
  | fr k => exact st (PV.rp (tg := .fr k) rfl h)
  | tr k =>
    obtain ⟨f, n, a, ds', xs, fps, e1, e2, e3, e4, r⟩ := h
    cases e1
    refine ⟨a, xs, e2, e3, r.length.1, fun i e q => ?_⟩
    obtain ⟨x, c, h1, h2, h3⟩ := r.get q
    refine ⟨x, h1, ?_⟩
    cases k with
    | zero => exact h3.2
    | succ k =>
      refine ⟨c, fun b m => n b ?_, h3⟩
      rw [e4]
      exact List.mem_cons_of_mem _ (List.mem_flatten.mpr ⟨c, List.mem_of_getElem? h2, m⟩)
theorem PV.tupAt {hs : Addr → Prop} {ds : List D} (h : PV B hs H H' tg (.tup ds) v) : ∃ a xs, v = .ref a ∧ TupAt B.K H' a xs ∧ B.RpL H' hs ds xs := by
  obtain ⟨a, xs, e, s, r⟩ := Rp.tup_of (h.atom fun ds e => by cases e)
  exact ⟨a, xs, e, s.le hid_leH, r⟩
theorem PV.tup {hs : Addr → Prop} {ds : List D} (h : PV B hs H H' tg (.tup ds) v) : ∃ a xs, v = .ref a ∧ SqT B.K H' a xs ∧ B.RpL H' hs ds xs := by
  obtain ⟨a, xs, e, s, r⟩ := Rp.tup_of (h.atom fun ds e => by cases e)
  exact ⟨a, xs, e, (s.le hid_leH).sq, r⟩
theorem PV.truth {hs : Addr → Prop} {b : Bool} (h : PV B hs H H' tg d v) (e : truthD d = some b) : TruV B.K v H' b := by
  cases d with
  | non => cases Rp.non_of (h.atom fun ds e => by cases e); cases e; rfl
  | bl c => cases h.bl; cases e; rfl
  | int i => cases h.int; cases e; rfl
  | str x =>
    obtain ⟨e1, e2⟩ := Rp.str_of (h.atom fun ds e => by cases e)
    subst e1
    cases e
    have := sizeLine_eq
    exact ⟨by omega, rfl⟩
  | ty n => cases e
  | fn x => cases e
  | cell i => cases e
  | frz ds => cases e
  | tpc ds => cases e
  | dK ks ds => cases e
  | dT ks ds => cases e
  | obj c ms bs ks ds => cases e
  | cls c ms bs ks => cases e
  | dI ks ds => cases e
  | tup ds =>
    obtain ⟨a, xs, rfl, s, r⟩ := h.tup
    cases e
    refine .inr (.inl ⟨xs, s, ?_⟩)
    have := r.length
    cases ds <;> cases xs <;> simp_all
  | lst ds =>
    obtain ⟨a, xs, rfl, s, hl, r⟩ := h.lst
    cases e
    refine .inl ⟨xs, SqL.of s, ?_⟩
    cases ds <;> cases xs <;> simp_all
end

/-! ### one after another -/
def bnd (m : ES) (k : Tg × D → ES) : ES := fun env cs =>
  match m env cs with
  | .ok x c => k x env c
  | .exc x fs c => .exc x fs c
  | .bad => .bad
section
variable {B : Bx} {W : WX} {env : List Slot} {cs cs' : Cells} {fp : Nat → List Addr} {σ : L2.St} {H H' H1 : Hp} {Q : VK}
theorem bnd_core {m : ES} {k : Tg × D → ES} {t : Hp → Rs (Tg × D) → Prop} (S : StR B env cs fp σ H)
    (hexc : ∀ x fs c, t H (.exc x fs c) → ∀ cls dd H', SB B.ps H H' → CsR B (hsOf B fp) H' c → ExR B (hsOf B fp) H' x fs cls dd → W cls dd σ H') (hbad : ¬ t H .bad)
    (h : t H (bnd m k env cs)) {R : VK}
    (hR : ∀ v H1 tg d c1, StR B env c1 fp σ H1 → SB B.ps H H1 → PV B (hsOf B fp) H H1 tg d v → t H (k (tg, d) env c1) → R v H1) : tE B W m σ H R := by
  refine ⟨env, cs, fp, S, ?_⟩
  unfold bnd at h
  cases e : m env cs with
  | bad => rw [e] at h; exact hbad h
  | exc x fs c => rw [e] at h; exact hexc x fs c h
  | ok x c =>
    rw [e] at h
    exact fun v H1 sb c1 p => hR v H1 x.1 x.2 c (S.next sb c1) sb p h
theorem TEx.from {r : Rs (Tg × D)} (sb : SB B.ps H H1) (h : TEx B W fp σ H r Q) : TEx B W fp σ H1 r Q := by
  cases r with
  | bad => exact h
  | exc x fs c => exact fun cls dd H' s => h cls dd H' (sb.trans s)
  | ok x c => exact fun v H' s cc p => h v H' (sb.trans s) cc (p.ahead sb)
theorem TTx.from {r : Rs (Tg × D)} {Q : Bool → Hp → Prop} (sb : SB B.ps H H1) (h : TTx B W fp σ H r Q) : TTx B W fp σ H1 r Q := by
  cases r with
  | bad => exact h
  | exc x fs c => exact fun cls dd H' s => h cls dd H' (sb.trans s)
  | ok x c => exact let ⟨b, e, q⟩ := h; ⟨b, e, fun H' s cc => q H' (sb.trans s) cc⟩
theorem tE_bnd {m : ES} {k : Tg × D → ES} (S : StR B env cs fp σ H) (h : TEx B W fp σ H (bnd m k env cs) Q) {R : VK}
    (hR : ∀ v H1 tg d c1, StR B env c1 fp σ H1 → SB B.ps H H1 → PV B (hsOf B fp) H H1 tg d v → TEx B W fp σ H1 (k (tg, d) env c1) Q → R v H1) : tE B W m σ H R :=
  bnd_core (t := fun H r => TEx B W fp σ H r Q) S (fun _ _ _ h => h) (fun h => h) h fun v H1 tg d c1 S1 sb p q => hR v H1 tg d c1 S1 sb p (q.from sb)
theorem tE_bndT {m : ES} {k : Tg × D → ES} {Q : Bool → Hp → Prop} (S : StR B env cs fp σ H) (h : TTx B W fp σ H (bnd m k env cs) Q) {R : VK}
    (hR : ∀ v H1 tg d c1, StR B env c1 fp σ H1 → SB B.ps H H1 → PV B (hsOf B fp) H H1 tg d v → TTx B W fp σ H1 (k (tg, d) env c1) Q → R v H1) : tE B W m σ H R :=
  bnd_core (t := fun H r => TTx B W fp σ H r Q) S (fun _ _ _ h => h) (fun h => h) h fun v H1 tg d c1 S1 sb p q => hR v H1 tg d c1 S1 sb p (q.from sb)
theorem StR.ps (S : StR B env cs fp σ H) : ∀ a, a ∈ B.ps → hsOf B fp a := fun _ h => .inl (S.ps0 _ h)
theorem StR.cs_self (S : StR B env cs fp σ H) : CsR B (hsOf B fp) H cs := S.cells
/-- a new object is laid -/
theorem StR.new (S : StR B env cs fp σ H) {p : Addr} {o : HO} (n : H p = none) : SB B.ps H (upd H p o) ∧ CsR B (hsOf B fp) (upd H p o) cs ∧ p ∉ B.ps ∧ ¬ hsOf B fp p := by
  have nh : ¬ hsOf B fp p := fun h => by
    obtain ⟨xs, e⟩ := S.there h
    rw [n] at e; cases e
  exact ⟨SB.upd n, S.cells.next S.ps (upd_le n), fun h => nh (S.ps _ h), nh⟩
/-- a value that changes nothing -/
theorem TEx.now {tg : Tg} {d : D} {v : V} (S : StR B env cs fp σ H) (h : TEx B W fp σ H (.ok (tg, d) cs) Q) (p : PV B (hsOf B fp) H H tg d v) : Q v H := h v H SB.refl S.cells p
end
/-- the value's truth -/
theorem pt_of {X : Cx} {B : Bx} {W : WX} {e : Expr} {m : ES} (hK : X.K = B.K) (h : PE X e (tE B W m)) (he : ∀ whole, isTrue e X.env whole = (do let v ← whole; standAt e.pos; holding [v] (truthy v))) : PT X e (tT B W m) := by
  refine PT.imp (pt_truth h he) fun σ H Q q => ?_
  obtain ⟨env, cs, fp, S, q⟩ := q
  refine ⟨env, cs, fp, S, ?_⟩
  cases e1 : m env cs with
  | bad => rw [e1] at q; exact q
  | exc x fs c => rw [e1] at q; exact q
  | ok x c =>
    rw [e1] at q
    obtain ⟨b, eb, q⟩ := q
    exact fun v H' sb cc p => ⟨b, by rw [hK]; exact p.truth eb, q H' sb cc⟩
theorem PM.of {X : Cx} {B : Bx} {W : WX} {e : Expr} {m : ES} (hK : X.K = B.K) (h : PE X e (tE B W m)) (he : ∀ whole, isTrue e X.env whole = (do let v ← whole; standAt e.pos; holding [v] (truthy v))) : PM X B W e m := ⟨h, pt_of hK h he⟩
end Pc

set_option Elab.async false
set_option maxRecDepth 100000
set_option maxHeartbeats 4000000
namespace Pc
open PySem PySem.Spec PyProof.Rows L2

/-- what is known of a body's context -/
structure Co (X : Cx) (B : Bx) : Prop where
  K : X.K = B.K
  mg : X.mg = B.mg
  calm : X.calm = true
  nd : X.N.Nodup
  hu : X.A.units + 65 < cLine
/-- the end of an operation that changes nothing of what stands -/
def Out (B : Bx) (hs : Addr → Prop) (H : Hp) (tg : Tg) (d : D) (Q : VK) : Prop := ∀ v H', Le H H' → PV B hs H H' tg d v → Q v H'
section
variable {B : Bx} {W : WX} {env : List Slot} {cs : Cells} {fp : Nat → List Addr} {σ : L2.St} {H : Hp} {Q : VK} {tg : Tg} {d : D} {hs : Addr → Prop}
theorem TEx.out (S : StR B env cs fp σ H) (h : TEx B W fp σ H (.ok (tg, d) cs) Q) : Out B (hsOf B fp) H tg d Q := fun v H' le p => h v H' (fun a o _ e => le a o e) (S.cells.next S.ps le) p
theorem Out.int {i : Int} (h : Out B hs H .st (.int i) Q) : Q (.int i) H := h _ _ (fun _ _ e => e) (show B.Rp H hs (.int i) (.int i) from Rp.int)
theorem Out.bl {b : Bool} (h : Out B hs H .st (.bl b) Q) : Q (.bl b) H := h _ _ (fun _ _ e => e) (show B.Rp H hs (.bl b) (.bl b) from Rp.bl)
theorem Out.str {x : Str} (hl : x.length ≤ 100000) (h : Out B hs H .st (.str x) Q) : Q (.str x) H := h _ _ (fun _ _ e => e) (show B.Rp H hs (.str x) (.str x) from Rp.str hl)
/-- a value that stands already -/
theorem Out.same {v : V} (h : Out B hs H tg d Q) (p : PV B hs H H tg d v) : Q v H := h _ _ (fun _ _ e => e) p
theorem hid_upd {H : Hp} {p : Addr} {o : HO} {q : Addr → Prop} (n : H p = none) : Le (hid H q) (hid (upd H p o) q) := hid_le (fun _ h => h) fun a u _ e => upd_le n a u e
/-- a new tuple -/
theorem thereO {hs : Addr → Prop} {H : Hp} (h : ∀ a, hs a → ∃ o, H a = some o ∧ HO.nt o = true) : ∀ a, hs a → ∃ o, H a = some o := fun a z => let ⟨o, e, _⟩ := h a z; ⟨o, e⟩
theorem Out.tup {ds : List D} {xs : List V} (there : ∀ a, hs a → ∃ o, H a = some o) (h : Out B hs H .st (.tup ds) Q) (r : B.RpL H hs ds xs) {p : Addr} (n : H p = none) : Q (.ref p) (upd H p (.tup xs)) := by
  refine h _ _ (upd_le n) (show B.Rp _ hs (.tup ds) (.ref p) from Rp.tup (hid_some.mpr ⟨fun hp => ?_, upd_same⟩) (RpL.mono (hid_upd n) _ _ r))
  obtain ⟨o, e⟩ := there p hp
  rw [n] at e; cases e
/-- a new list -/
theorem Out.lst {ds : List D} {xs : List V} (hps : ∀ a, a ∈ B.ps → hs a) (there : ∀ a, hs a → ∃ o, H a = some o) (h : Out B hs H (.fr 0) (.lst ds) Q) (r : B.RpL H hs ds xs) {p : Addr} (n : H p = none) : Q (.ref p) (upd H p (.lst xs)) := by
  have nh : ¬ hs p := fun hp => by
    obtain ⟨o, e⟩ := there p hp
    rw [n] at e; cases e
  refine h _ _ (upd_le n) ⟨[p], by simp, fun a m => ?_, p, ds, xs, ds.map fun _ => [], rfl, rfl, upd_same, ?_, ?_⟩
  · cases List.mem_singleton.mp m
    exact ⟨n, fun m => nh (hps _ m), nh⟩
  · rw [flatten_map_nil]
  · refine RpL.all3 (fun d v h => h) (RpL.mono (fun a o e => ?_) _ _ r)
    obtain ⟨e1, e2⟩ := hid_some.mp e
    refine hid_some.mpr ⟨fun z => z.elim e1 fun m => ?_, upd_le n a o e2⟩
    cases List.mem_singleton.mp m
    rw [n] at e2; cases e2
end
end Pc

set_option Elab.async false
set_option maxRecDepth 100000
set_option maxHeartbeats 4000000
namespace Pc
open PySem PySem.Spec PyProof.Rows L2

/-! ### data, for == and in -/
mutual
def D.py : D → PyData
  | .non => .none
  | .bl b => .bool b
  | .int i => .int i
  | .str x => .str x
  | .tup ds => .tuple (D.pyAll ds)
  | .lst ds => .list (D.pyAll ds)
  | .tpc ds => .tuple (D.pyAll ds)
  | _ => .none
def D.pyAll : List D → List PyData
  | [] => []
  | d :: ds => d.py :: D.pyAll ds
end
mutual
def D.isData : D → Bool
  | .non => true
  | .bl _ => true
  | .int _ => true
  | .str _ => true
  | .tup ds => D.allData ds
  | .lst ds => D.allData ds
  | .tpc ds => D.allData ds
  | _ => false
def D.allData : List D → Bool
  | [] => true
  | d :: ds => d.isData && D.allData ds
end
section
variable {K : PySem.W.Frag} {mg : Str → Option Value} {ps : List Addr} {H : Hp}
mutual
theorem Rp.dp : ∀ (d : D) (v : V), d.isData = true → Rp K mg ps H d v → Dp K H v d.py
  | .non, v, _, h => by cases Rp.non_of h; exact .non
  | .bl b, v, _, h => by cases Rp.bl_of h; exact .bl b
  | .int i, v, _, h => by cases Rp.int_of h; exact .int i
  | .str x, v, _, h => by cases (Rp.str_of h).1; exact .str x
  | .tup ds, v, e, h => by
    obtain ⟨a, xs, rfl, s, r⟩ := Rp.tup_of h
    exact .tup s.sq (RpL.dp ds xs (by simpa [D.isData] using e) r)
  | .lst ds, v, e, h => by
    obtain ⟨a, xs, rfl, s, r⟩ := Rp.lst_of h
    exact .lst (SqL.of s) (RpL.dp ds xs (by simpa [D.isData] using e) r)
  | .ty n, v, e, _ => by simp [D.isData] at e
  | .fn x, v, e, _ => by simp [D.isData] at e
  | .cell i, v, e, _ => by simp [D.isData] at e
  | .frz ds, v, e, _ => by simp [D.isData] at e
  | .tpc ds, v, e, h => by
    obtain ⟨a, xs, rfl, s, r⟩ := Rp.tpc_of h
    exact .tup s.sq (RpL.dp ds xs (by simpa [D.isData] using e) r)
  | .dK _ _, v, e, _ => by simp [D.isData] at e
  | .dT _ _, v, e, _ => by simp [D.isData] at e
  | .obj _ _ _ _ _, v, e, _ => by simp [D.isData] at e
  | .cls _ _ _ _, v, e, _ => by simp [D.isData] at e
  | .dI _ _, v, e, _ => by simp [D.isData] at e
theorem RpL.dp : ∀ (ds : List D) (xs : List V), D.allData ds = true → RpL K mg ps H ds xs → DpAll K H xs (D.pyAll ds)
  | [], xs, _, h => by unfold RpL at h; subst h; exact .nil
  | d :: ds, xs, e, h => by
    unfold RpL at h
    obtain ⟨x, r, rfl, h1, h2⟩ := h
    simp only [D.allData, Bool.and_eq_true] at e
    exact .cons (Rp.dp d x e.1 h1) (RpL.dp ds r e.2 h2)
end
theorem Dp.le {H' : Hp} (l : Le H H') : ∀ {d : PyData} {v : V}, Dp K H v d → Dp K H' v d := fun {d v} h => by
  refine Dp.rec (motive_1 := fun v d _ => Dp K H' v d) (motive_2 := fun vs ds _ => DpAll K H' vs ds) ?_ ?_ ?_ ?_ ?_ ?_ ?_ ?_ h
  · exact .non
  · exact .bl
  · exact .int
  · exact .str
  · exact fun s _ r => .lst (sqL_le l s) r
  · exact fun s _ r => .tup (sqT_le l s) r
  · exact .nil
  · exact fun _ _ h t => .cons h t
theorem RpL.of_get : ∀ {ds : List D} {xs : List V}, ds.length = xs.length → (∀ (i : Nat) (e : D), ds[i]? = some e → ∃ x, xs[i]? = some x ∧ Rp K mg ps H e x) → RpL K mg ps H ds xs
  | [], xs, hl, _ => by
    cases xs with
    | nil => exact RpL.nil
    | cons x r => simp at hl
  | d :: ds, xs, hl, h => by
    cases xs with
    | nil => simp at hl
    | cons x r =>
      obtain ⟨y, e, h0⟩ := h 0 d rfl
      simp at e
      subst e
      exact RpL.cons h0 (RpL.of_get (by simpa using hl) fun i e q => by
        obtain ⟨z, e1, h1⟩ := h (i + 1) e (by simpa using q)
        exact ⟨z, by simpa using e1, h1⟩)
end
def D.ok (d : D) : Bool := d.isData && SeqAt.shaped d.py
def D.eqv (a b : D) : Bool := PyData.eqv a.py b.py

/-! ### operators -/
abbrev Vl := Tg × D
/-- its items are plain -/
def Tg.flat : Tg → Bool
  | .tr (_ + 1) => false
  | _ => true
def mulOk (i j : Int) : Bool := decide (Builtin.Int.intBits i ≤ 64) || decide (Builtin.Int.intBits j ≤ 64) || (decide (Builtin.Int.intBits i ≤ 2 ^ 20) && decide (Builtin.Int.intBits j ≤ 2 ^ 20))
theorem mulOk_ok {i j : Int} (h : mulOk i j = true) : IntMulOk i j := by
  unfold mulOk at h
  simp only [Bool.or_eq_true, Bool.and_eq_true, decide_eq_true_eq] at h
  rcases h with (h | h) | ⟨h1, h2⟩
  · exact .of_left h
  · exact .of_right h
  · exact .of_bits h1 h2
def cap : Nat := 100000
def addD : Vl → Vl → Option Vl
  | (_, .int i), (_, .int j) => some (.st, .int (i + j))
  | (_, .str x), (_, .str y) => if x.length + y.length ≤ 100000 then some (.st, .str (x ++ y)) else none
  | (_, .tup xs), (_, .tup ys) => if xs.length + ys.length ≤ 100000 then some (.st, .tup (xs ++ ys)) else none
  | (ta, .lst xs), (tb, .lst ys) => if ta.flat = true ∧ tb.flat = true ∧ xs.length + ys.length ≤ 100000 then some (.fr 0, .lst (xs ++ ys)) else none
  | _, _ => none
def subD : Vl → Vl → Option Vl
  | (_, .int i), (_, .int j) => some (.st, .int (i - j))
  | _, _ => none
def mulD : Vl → Vl → Option Vl
  | (_, .int i), (_, .int j) => if mulOk i j = true then some (.st, .int (i * j)) else none
  | _, _ => none
def divD : Vl → Vl → Option Vl
  | (_, .int i), (_, .int j) => if 0 < j ∧ j.natAbs.log2 < 9000 then some (.st, .int (i / j)) else none
  | _, _ => none
def modD : Vl → Vl → Option Vl
  | (_, .int i), (_, .int j) => if 0 < j then some (.st, .int (i % j)) else none
  | _, _ => none
def powD : Vl → Vl → Option Vl
  | (_, .int i), (_, .int j) => if 0 ≤ j ∧ j ≤ 1000000 ∧ i.natAbs < 2 ^ 64 then some (.st, .int (i ^ j.toNat)) else none
  | _, _ => none
/-- // by a number of any sign -/
def fdivD : Vl → Vl → Option Vl
  | (_, .int i), (_, .int j) => if j ≠ 0 ∧ j.natAbs.log2 < 9000 then some (.st, .int (i.fdiv j)) else none
  | _, _ => none
/-- a list, a tuple, again and again -/
def repD : Vl → Vl → Option Vl
  | (t, .lst xs), (_, .int k) => if t.flat = true ∧ -1000 ≤ k ∧ k ≤ 1000 ∧ xs.length ≤ 100 then some (.fr 0, .lst (List.replicate k.toNat xs).flatten) else none
  | (_, .tup xs), (_, .int k) => if 2 ≤ k ∧ k ≤ 1000 ∧ xs ≠ [] ∧ xs.length ≤ 100 then some (.st, .tup (List.replicate k.toNat xs).flatten) else none
  | _, _ => none
def binD : Operator → Vl → Vl → Option Vl
  | .Add => addD
  | .Sub => subD
  | .Mult => mulD
  | .FloorDiv => divD
  | .Mod => modD
  | .Pow => powD
  | _ => fun _ _ => none
def eqD (a b : Vl) : Option Vl := if a.1.plain = true ∧ b.1.plain = true ∧ a.2.ok = true ∧ b.2.ok = true then some (.st, .bl (a.2.eqv b.2)) else none
def neD (a b : Vl) : Option Vl := if a.1.plain = true ∧ b.1.plain = true ∧ a.2.ok = true ∧ b.2.ok = true then some (.st, .bl (!a.2.eqv b.2)) else none
def intCmp (f : Int → Int → Bool) : Vl → Vl → Option Vl
  | (_, .int i), (_, .int j) => some (.st, .bl (f i j))
  | _, _ => none
def anyEqv (ds : List D) (d : D) : Bool := ds.any fun z => z.eqv d
def inD (a : Vl) : Vl → Option Vl
  | (tb, .tup ds) => if a.1.plain = true ∧ a.2.ok = true ∧ (D.tup ds).ok = true then some (.st, .bl (anyEqv ds a.2)) else none
  | (tb, .lst ds) => if a.1.plain = true ∧ tb.plain = true ∧ a.2.ok = true ∧ (D.lst ds).ok = true then some (.st, .bl (anyEqv ds a.2)) else none
  | (tb, .tpc ds) => if a.1.plain = true ∧ a.2.ok = true ∧ (D.tpc ds).ok = true then some (.st, .bl (anyEqv ds a.2)) else none
  | _ => none
def notInD (a b : Vl) : Option Vl := match inD a b with
  | some (_, .bl k) => some (.st, .bl (!k))
  | _ => none
def D.isNon : D → Bool
  | .non => true
  | _ => false
def isD : Vl → Vl → Option Vl
  | (_, a), (_, .non) => some (.st, .bl a.isNon)
  | (_, .bl a), (_, .bl b) => some (.st, .bl (decide (a = b)))
  | _, _ => none
def isNotD : Vl → Vl → Option Vl
  | (_, a), (_, .non) => some (.st, .bl (!a.isNon))
  | (_, .bl a), (_, .bl b) => some (.st, .bl (!decide (a = b)))
  | _, _ => none
def cmpD : CmpOp → Vl → Vl → Option Vl
  | .Eq => eqD
  | .NotEq => neD
  | .Lt => intCmp fun i j => decide (i < j)
  | .LtE => intCmp fun i j => decide (i ≤ j)
  | .Gt => intCmp fun i j => decide (j < i)
  | .GtE => intCmp fun i j => decide (j ≤ i)
  | .In => inD
  | .NotIn => notInD
  | .Is => isD
  | .IsNot => isNotD
/-- an operation by data -/
def rD (B : Bx) (g : Vl → Vl → Option Vl) : R2 := fun x y H Q => ∃ hs H0 a b r, (∀ p, p ∈ B.ps → hs p) ∧ (∀ p, hs p → ∃ o, H p = some o) ∧ PV B hs H0 H a.1 a.2 x ∧ PV B hs H0 H b.1 b.2 y ∧ g a b = some r ∧ Out B hs H r.1 r.2 Q
section
variable {B : Bx} {hs : Addr → Prop} {H0 H : Hp} {tg : Tg} {ds : List D} {v : V} {d : D}
theorem PV.lstFlat (f : tg.flat = true) (h : PV B hs H0 H tg (.lst ds) v) : ∃ a xs, v = .ref a ∧ H a = some (.lst xs) ∧ B.RpL H hs ds xs := by
  obtain ⟨a, xs, e, s, hl, r⟩ := h.lst
  refine ⟨a, xs, e, s, RpL.of_get hl fun i e q => ?_⟩
  obtain ⟨x, e1, p⟩ := r i e q
  refine ⟨x, e1, ?_⟩
  cases tg with
  | st => exact p
  | fr k => exact p
  | tr k =>
    cases k with
    | zero => exact p
    | succ k => cases f
theorem PV.dp (p : tg.plain = true) (o : d.ok = true) (h : PV B hs H0 H tg d v) : Dp B.K H v d.py ∧ SeqAt.shaped d.py = true := by
  unfold D.ok at o
  rw [Bool.and_eq_true] at o
  exact ⟨Dp.le hid_leH (Rp.dp d v o.1 (h.rp p)), o.2⟩
theorem PV.isNon (h : PV B hs H0 H tg d v) : decide (v = .non) = d.isNon := by
  cases d with
  | non => cases Rp.non_of (h.atom fun ds e => by cases e); rfl
  | bl c => cases h.bl; rfl
  | int i => cases h.int; rfl
  | str x => cases (Rp.str_of (h.atom fun ds e => by cases e)).1; rfl
  | ty n => cases Rp.ty_of (h.atom fun ds e => by cases e); rfl
  | fn x => obtain ⟨a, rfl, _⟩ := Rp.fn_of (h.atom fun ds e => by cases e); rfl
  | cell i => obtain ⟨a, rfl, _⟩ := Rp.cell_of (h.atom fun ds e => by cases e); rfl
  | frz ds => obtain ⟨a, xs, rfl, _⟩ := Rp.frz_of (h.atom fun ds e => by cases e); rfl
  | tpc ds => obtain ⟨a, xs, rfl, _⟩ := Rp.tpc_of (h.atom fun ds e => by cases e); rfl
  | dK ks ds => obtain ⟨a, o, xs, rfl, _⟩ := Rp.dK_of (h.atom fun ds e => by cases e); rfl
  | dT ks ds => obtain ⟨a, o, xs, rfl, _⟩ := Rp.dT_of (h.atom fun ds e => by cases e); rfl
  | dI ks ds => obtain ⟨a, o, xs, rfl, _⟩ := Rp.dI_of (h.atom fun ds e => by cases e); rfl
  | obj c ms bs ks ds => obtain ⟨a, C, d, fs, rfl, _⟩ := Rp.obj_of (h.atom fun ds e => by cases e); rfl
  | cls c ms bs ks => obtain ⟨C, rfl, _⟩ := Rp.cls_of (h.atom fun ds e => by cases e); rfl
  | tup ds => obtain ⟨a, xs, rfl, s, r⟩ := h.tup; rfl
  | lst ds => obtain ⟨a, xs, rfl, s, hl, r⟩ := h.lst; rfl
theorem PV.str {x : Str} (h : PV B hs H0 H tg (.str x) v) : v = .str x ∧ x.length ≤ 100000 := Rp.str_of (h.atom fun ds e => by cases e)
end
section
variable {X : Cx} {B : Bx}
theorem bin_D (co : Co X B) (op : Operator) : OpR X (binaryOp op) (rD B (binD op)) := by
  intro pins s σ H x y v u Q I rx ry h
  obtain ⟨hs, H0, ⟨ta, a⟩, ⟨tb, b⟩, r, hps, there, pa, pb, e, out⟩ := h
  have hsl := sizeLine_eq
  cases op with
  | Add =>
    cases a <;> cases b <;> simp only [binD, addD, reduceCtorEq] at e
    · cases e; cases pa.int; cases pb.int
      exact op_add pins s σ H _ _ v u Q I rx ry ⟨_, _, rfl, rfl, out.int⟩
    · split at e
      · cases e
        obtain ⟨rfl, h1⟩ := pa.str
        obtain ⟨rfl, h2⟩ := pb.str
        rename_i hz
        exact op_add_str pins s σ H _ _ v u Q I rx ry ⟨_, _, rfl, rfl, by omega, out.str (by show (_ ++ _ : Array Nat).size ≤ _; rw [Array.size_append]; exact hz)⟩
      · cases e
    · split at e
      · cases e
        rename_i hz
        obtain ⟨p, xs, rfl, s1, r1⟩ := pa.tup
        obtain ⟨q, ys, rfl, s2, r2⟩ := pb.tup
        have l1 := r1.length
        have l2 := r2.length
        refine op_catA pins s σ H _ _ v u Q I rx ry ⟨_, _, xs, ys, rfl, rfl, by rw [co.K]; exact s1, by rw [co.K]; exact s2, by omega, fun e => ?_, fun _ e => ?_, fun _ _ p n => out.tup there (r1.append r2) n⟩
        · subst e
          rename_i ds1 ds2
          have : ds1 = [] := by cases ds1 <;> simp_all
          subst this
          simp only [List.nil_append] at out
          exact out.same (show B.Rp H hs _ _ from pb.atom fun ds e => by cases e)
        · subst e
          rename_i ds1 ds2 _
          have : ds2 = [] := by cases ds2 <;> simp_all
          subst this
          simp only [List.append_nil] at out
          exact out.same (show B.Rp H hs _ _ from pa.atom fun ds e => by cases e)
      · cases e
    · split at e
      · cases e
        rename_i hz
        obtain ⟨p, xs, rfl, s1, r1⟩ := pa.lstFlat hz.1
        obtain ⟨q, ys, rfl, s2, r2⟩ := pb.lstFlat hz.2.1
        have l1 := r1.length
        have l2 := r2.length
        exact op_cat pins s σ H _ _ v u Q I rx ry ⟨_, _, xs, ys, rfl, rfl, s1, s2, by omega, fun p n => out.lst hps there (r1.append r2) n⟩
      · cases e
  | Sub =>
    cases a <;> cases b <;> simp only [binD, subD, reduceCtorEq] at e
    cases e; cases pa.int; cases pb.int
    exact op_sub pins s σ H _ _ v u Q I rx ry ⟨_, _, rfl, rfl, out.int⟩
  | Mult =>
    cases a <;> cases b <;> simp only [binD, mulD, reduceCtorEq] at e
    split at e
    · cases e; cases pa.int; cases pb.int
      rename_i hm
      exact (opI (C := fun i j => IntMulOk i j) fun _ _ _ _ _ _ _ hc q => mul_int q hc) pins s σ H _ _ v u Q I rx ry ⟨_, _, rfl, rfl, mulOk_ok hm, out.int⟩
    · cases e
  | FloorDiv =>
    cases a <;> cases b <;> simp only [binD, divD, reduceCtorEq] at e
    split at e
    · cases e; cases pa.int; cases pb.int
      rename_i hm
      exact op_fdivW pins s σ H _ _ v u Q I rx ry ⟨_, _, rfl, rfl, hm, out.int⟩
    · cases e
  | Mod =>
    cases a <;> cases b <;> simp only [binD, modD, reduceCtorEq] at e
    split at e
    · cases e; cases pa.int; cases pb.int
      rename_i hm
      exact op_mod pins s σ H _ _ v u Q I rx ry ⟨_, _, rfl, rfl, hm, out.int⟩
    · cases e
  | Pow =>
    cases a <;> cases b <;> simp only [binD, powD, reduceCtorEq] at e
    split at e
    · cases e; cases pa.int; cases pb.int
      rename_i hm
      exact op_pow pins s σ H _ _ v u Q I rx ry ⟨_, _, rfl, rfl, hm, out.int⟩
    · cases e
  | _ => simp [binD] at e
theorem RpL.rep {K : PySem.W.Frag} {mg : Str → Option Value} {ps : List Addr} {H : Hp} {ds : List D} {xs : List V} (h : Pc.RpL K mg ps H ds xs) : ∀ n : Nat, Pc.RpL K mg ps H (List.replicate n ds).flatten (List.replicate n xs).flatten
  | 0 => RpL.nil
  | n + 1 => by
    rw [List.replicate_succ, List.flatten_cons, List.replicate_succ, List.flatten_cons]
    exact h.append (RpL.rep h n)
theorem rep_len {α : Type} {xs : List α} : ∀ n : Nat, (List.replicate n xs).flatten.length = n * xs.length
  | 0 => by simp
  | n + 1 => by rw [List.replicate_succ, List.flatten_cons, List.length_append, rep_len n, Nat.succ_mul]; omega
theorem fdiv_D (co : Co X B) : OpR X (binaryOp .FloorDiv) (rD B fdivD) := by
  intro pins s σ H x y v u Q I rx ry h
  obtain ⟨hs, H0, ⟨ta, a⟩, ⟨tb, b⟩, r, hps, there, pa, pb, e, out⟩ := h
  cases a <;> cases b <;> simp only [fdivD, reduceCtorEq] at e
  split at e
  · cases e; cases pa.int; cases pb.int
    rename_i hm
    exact (opI (C := fun i j => j ≠ 0 ∧ j.natAbs.log2 < 9000) fun _ _ _ _ _ _ _ hc q => floordiv_int hc.1 q (.inl (PyProof.noPylong_of_log2 hc.2))) pins s σ H _ _ v u Q I rx ry ⟨_, _, rfl, rfl, hm, out.int⟩
  · cases e
theorem rep_D (co : Co X B) : OpR X (binaryOp .Mult) (rD B repD) := by
  intro pins s σ H x y v u Q I rx ry h
  obtain ⟨hs, H0, ⟨ta, a⟩, ⟨tb, b⟩, r, hps, there, pa, pb, e, out⟩ := h
  have hsl := sizeLine_eq
  cases a <;> cases b <;> simp only [repD, reduceCtorEq] at e
  · split at e
    · cases e
      cases pb.int
      rename_i hm
      obtain ⟨p, xs, rfl, s1, r1⟩ := pa.tup
      have l1 := r1.length
      refine op_repT pins s σ H _ _ v u Q I rx ry ⟨_, _, xs, rfl, rfl, by rw [co.K]; exact s1, fun z => ?_, hm.1, hm.2.1, by omega, fun p n => out.tup there (r1.rep _) n⟩
      subst z
      exact hm.2.2.1 (List.length_eq_zero_iff.mp l1)
    · cases e
  · split at e
    · cases e
      cases pb.int
      rename_i k hm
      obtain ⟨p, xs, rfl, s1, r1⟩ := pa.lstFlat hm.1
      have l1 := r1.length
      refine op_rep pins s σ H _ _ v u Q I rx ry ⟨_, _, xs, rfl, rfl, s1, by omega, by omega, ?_, fun p n => out.lst hps there (r1.rep _) n⟩
      have : xs.length * k.toNat ≤ 100 * 1000 := Nat.mul_le_mul (by omega) (by omega)
      omega
    · cases e
theorem pyAll_any (d : D) : ∀ ds : List D, (D.pyAll ds).any (fun z => PyData.eqv z d.py) = anyEqv ds d
  | [] => rfl
  | e :: ds => by
    unfold D.pyAll anyEqv
    rw [List.any_cons, List.any_cons, pyAll_any d ds]
    rfl
theorem cmp_D (co : Co X B) (op : CmpOp) : OpR X (compareOp op) (rD B (cmpD op)) := by
  intro pins s σ H x y v u Q I rx ry h
  obtain ⟨hs, H0, ⟨ta, a⟩, ⟨tb, b⟩, r, hps, there, pa, pb, e, out⟩ := h
  have hu := co.hu
  have dpK : ∀ {z : V} {d : PyData}, Dp B.K H z d → Dp X.K H z d := fun h => by rw [co.K]; exact h
  cases op with
  | Eq =>
    simp only [cmpD, eqD] at e
    split at e
    · cases e
      rename_i hc
      obtain ⟨d1, s1⟩ := pa.dp hc.1 hc.2.2.1
      obtain ⟨d2, s2⟩ := pb.dp hc.2.1 hc.2.2.2
      exact op_eqD (by omega) pins s σ H _ _ v u Q I rx ry ⟨_, _, dpK d1, dpK d2, s1, s2, out.bl⟩
    · cases e
  | NotEq =>
    simp only [cmpD, neD] at e
    split at e
    · cases e
      rename_i hc
      obtain ⟨d1, s1⟩ := pa.dp hc.1 hc.2.2.1
      obtain ⟨d2, s2⟩ := pb.dp hc.2.1 hc.2.2.2
      exact op_neD (by omega) pins s σ H _ _ v u Q I rx ry ⟨_, _, dpK d1, dpK d2, s1, s2, out.bl⟩
    · cases e
  | Lt =>
    cases a <;> cases b <;> simp only [cmpD, intCmp, reduceCtorEq] at e
    cases e; cases pa.int; cases pb.int
    exact op_lt pins s σ H _ _ v u Q I rx ry ⟨_, _, rfl, rfl, out.bl⟩
  | LtE =>
    cases a <;> cases b <;> simp only [cmpD, intCmp, reduceCtorEq] at e
    cases e; cases pa.int; cases pb.int
    exact op_le pins s σ H _ _ v u Q I rx ry ⟨_, _, rfl, rfl, out.bl⟩
  | Gt =>
    cases a <;> cases b <;> simp only [cmpD, intCmp, reduceCtorEq] at e
    cases e; cases pa.int; cases pb.int
    exact op_gt pins s σ H _ _ v u Q I rx ry ⟨_, _, rfl, rfl, out.bl⟩
  | GtE =>
    cases a <;> cases b <;> simp only [cmpD, intCmp, reduceCtorEq] at e
    cases e; cases pa.int; cases pb.int
    exact op_ge pins s σ H _ _ v u Q I rx ry ⟨_, _, rfl, rfl, out.bl⟩
  | In =>
    cases b <;> simp only [cmpD, inD, reduceCtorEq] at e
    · split at e
      · cases e
        rename_i ds hc
        obtain ⟨d1, s1⟩ := pa.dp hc.1 hc.2.1
        obtain ⟨d2, s2⟩ := (show PV B hs H0 H .st (.tup ds) y from pb.atom fun ds e => by cases e).dp rfl hc.2.2
        obtain ⟨as, r1⟩ := Dp.reads I _ x v (dpK d1) rx
        obtain ⟨bs, r2⟩ := Dp.reads I _ y u (dpK d2) ry
        rw [show (D.tup ds).py = .tuple (D.pyAll ds) by simp [D.py]] at r2 s2
        refine SeqAt.in_tuple_reads r2 r1 (SeqAt.canLay_of_shaped s2) (SeqAt.canLay_of_shaped s1) (room_in_shaped s1 hu) ⟨.bl _, H, I, rfl, ?_⟩
        rw [pyAll_any]
        exact out.bl
      · cases e
    · split at e
      · cases e
        rename_i ds hc
        obtain ⟨d1, s1⟩ := pa.dp hc.1 hc.2.2.1
        obtain ⟨d2, s2⟩ := pb.dp hc.2.1 hc.2.2.2
        rw [show (D.lst ds).py = .list (D.pyAll ds) by simp [D.py]] at d2 s2
        refine op_inD hu pins s σ H _ _ v u Q I rx ry ⟨_, _, dpK d1, dpK d2, s1, s2, ?_⟩
        rw [pyAll_any]
        exact out.bl
      · cases e
    · split at e
      · cases e
        rename_i ds hc
        obtain ⟨d1, s1⟩ := pa.dp hc.1 hc.2.1
        obtain ⟨d2, s2⟩ := (show PV B hs H0 H .st (.tpc ds) y from pb.atom fun ds e => by cases e).dp rfl hc.2.2
        obtain ⟨as, r1⟩ := Dp.reads I _ x v (dpK d1) rx
        obtain ⟨bs, r2⟩ := Dp.reads I _ y u (dpK d2) ry
        rw [show (D.tpc ds).py = .tuple (D.pyAll ds) by simp [D.py]] at r2 s2
        refine SeqAt.in_tuple_reads r2 r1 (SeqAt.canLay_of_shaped s2) (SeqAt.canLay_of_shaped s1) (room_in_shaped s1 hu) ⟨.bl _, H, I, rfl, ?_⟩
        rw [pyAll_any]
        exact out.bl
      · cases e
  | NotIn =>
    cases b <;> simp only [cmpD, notInD, inD, reduceCtorEq] at e
    · split at e
      · rename_i h1
        split at h1
        · cases h1; cases e
          rename_i ds _ hc
          obtain ⟨d1, s1⟩ := pa.dp hc.1 hc.2.1
          obtain ⟨d2, s2⟩ := (show PV B hs H0 H .st (.tup ds) y from pb.atom fun ds e => by cases e).dp rfl hc.2.2
          obtain ⟨as, r1⟩ := Dp.reads I _ x v (dpK d1) rx
          obtain ⟨bs, r2⟩ := Dp.reads I _ y u (dpK d2) ry
          rw [show (D.tup ds).py = .tuple (D.pyAll ds) by simp [D.py]] at r2 s2
          refine SeqAt.notIn_tuple_reads r2 r1 (SeqAt.canLay_of_shaped s2) (SeqAt.canLay_of_shaped s1) (room_in_shaped s1 hu) ⟨.bl _, H, I, rfl, ?_⟩
          rw [pyAll_any]
          exact out.bl
        · cases h1
      · cases e
    · split at e
      · rename_i h1
        split at h1
        · cases h1; cases e
          rename_i ds _ hc
          obtain ⟨d1, s1⟩ := pa.dp hc.1 hc.2.2.1
          obtain ⟨d2, s2⟩ := pb.dp hc.2.1 hc.2.2.2
          rw [show (D.lst ds).py = .list (D.pyAll ds) by simp [D.py]] at d2 s2
          refine op_notInD hu pins s σ H _ _ v u Q I rx ry ⟨_, _, dpK d1, dpK d2, s1, s2, ?_⟩
          rw [pyAll_any]
          exact out.bl
        · cases h1
      · cases e
    · split at e
      · rename_i h1
        split at h1
        · cases h1; cases e
          rename_i ds _ hc
          obtain ⟨d1, s1⟩ := pa.dp hc.1 hc.2.1
          obtain ⟨d2, s2⟩ := (show PV B hs H0 H .st (.tpc ds) y from pb.atom fun ds e => by cases e).dp rfl hc.2.2
          obtain ⟨as, r1⟩ := Dp.reads I _ x v (dpK d1) rx
          obtain ⟨bs, r2⟩ := Dp.reads I _ y u (dpK d2) ry
          rw [show (D.tpc ds).py = .tuple (D.pyAll ds) by simp [D.py]] at r2 s2
          refine SeqAt.notIn_tuple_reads r2 r1 (SeqAt.canLay_of_shaped s2) (SeqAt.canLay_of_shaped s1) (room_in_shaped s1 hu) ⟨.bl _, H, I, rfl, ?_⟩
          rw [pyAll_any]
          exact out.bl
        · cases h1
      · cases e
  | Is =>
    cases b <;> simp only [cmpD, isD, reduceCtorEq] at e
    · cases e
      cases Rp.non_of (pb.atom fun ds e => by cases e)
      refine op_isN pins s σ H _ _ v u Q I rx ry ⟨rfl, ?_⟩
      rw [pa.isNon]
      exact out.bl
    · cases a <;> simp only [isD, reduceCtorEq] at e
      cases e; cases pa.bl; cases pb.bl
      exact op_is_bl pins s σ H _ _ v u Q I rx ry ⟨_, _, rfl, rfl, out.bl⟩
  | IsNot =>
    cases b <;> simp only [cmpD, isNotD, reduceCtorEq] at e
    · cases e
      cases Rp.non_of (pb.atom fun ds e => by cases e)
      refine op_notN pins s σ H _ _ v u Q I rx ry ⟨rfl, ?_⟩
      rw [pa.isNon]
      exact out.bl
    · cases a <;> simp only [isNotD, reduceCtorEq] at e
      cases e; cases pa.bl; cases pb.bl
      exact op_isnot_bl pins s σ H _ _ v u Q I rx ry ⟨_, _, rfl, rfl, out.bl⟩
end
end Pc

set_option Elab.async false
set_option maxRecDepth 100000
set_option maxHeartbeats 4000000
namespace Pc
open PySem PySem.Spec PyProof.Rows L2

def lift (o : Option Vl) : ES := fun _ cs => match o with
  | some r => .ok r cs
  | none => .bad
def sRet (d : D) : ES := fun _ cs => .ok (.st, d) cs
def sVar (i : Nat) : ES := fun env cs => match env[i]? with
  | some (.sh d) => .ok (.st, d) cs
  | some (.ow k d) => .ok (.tr k, d) cs
  | _ => .bad
def sOp (g : Vl → Vl → Option Vl) (ma mb : ES) : ES := bnd ma fun x => bnd mb fun y => lift (g x y)
def sUn (g : Vl → Option Vl) (m : ES) : ES := bnd m fun x => lift (g x)
def tst (ka kb : ES) : Vl → ES := fun x => match truthD x.2 with
  | some true => ka
  | some false => kb
  | none => fun _ _ => .bad
def sIf (c a b : ES) : ES := bnd c (tst a b)
def sAnd (a b : ES) : ES := bnd a fun x => tst b (lift (some x)) x
def sOr (a b : ES) : ES := bnd a fun x => tst (lift (some x)) b x
def notD (x : Vl) : Option Vl := (truthD x.2).map fun b => (.st, .bl !b)
def sNot (m : ES) : ES := sUn notD m
def negD : Vl → Option Vl
  | (_, .int i) => some (.st, .int (-i))
  | _ => none
def sChain (g g' : Vl → Vl → Option Vl) (ma mb mc : ES) : ES := bnd ma fun x => bnd mb fun y => bnd (lift (g x y)) fun k => match k.2 with
  | .bl true => bnd mc fun z => lift (g' y z)
  | .bl false => sRet (.bl false)
  | _ => fun _ _ => .bad

section
variable {X : Cx} {B : Bx} {W : WX} {a b c e : Expr} {ma mb mc : ES} {pos : Pos}
section
variable {env : List Slot} {cs cs' : Cells} {fp : Nat → List Addr} {σ : L2.St} {H H' H1 : Hp} {Q : VK}
theorem lift_out {o : Option Vl} (S : StR B env cs fp σ H) (h : TEx B W fp σ H (lift o env cs) Q) : ∃ r, o = some r ∧ Out B (hsOf B fp) H r.1 r.2 Q := by
  cases o with
  | none => exact h.elim
  | some r => exact ⟨r, rfl, TEx.out S h⟩
theorem tT_bnd {m ka kb : ES} {k : Vl → ES} {t : Hp → Rs Vl → Prop} (S : StR B env cs fp σ H)
    (hexc : ∀ x fs c, t H (.exc x fs c) → ∀ cls dd H', SB B.ps H H' → CsR B (hsOf B fp) H' c → ExR B (hsOf B fp) H' x fs cls dd → W cls dd σ H') (hbad : ¬ t H .bad)
    (h : t H (bnd m k env cs)) {R : Bool → Hp → Prop} (hk : ∀ x, truthD x.2 = none → k x = fun _ _ => .bad)
    (hR : ∀ x b c1 H1, truthD x.2 = some b → StR B env c1 fp σ H1 → SB B.ps H H1 → t H (k x env c1) → R b H1) : tT B W m σ H R := by
  refine ⟨env, cs, fp, S, ?_⟩
  unfold bnd at h
  cases e : m env cs with
  | bad => rw [e] at h; exact hbad h
  | exc x fs c => rw [e] at h; exact hexc x fs c h
  | ok x c =>
    rw [e] at h
    cases eb : truthD x.2 with
    | none =>
      have h : t H (k x env c) := h
      rw [hk x eb] at h
      exact (hbad h).elim
    | some b => exact ⟨b, eb, fun H1 sb cc => hR x b c H1 eb (S.next sb cc) sb h⟩
end
theorem pm_var (co : Co X B) (i : Nat) {x : Str} (hN : X.N[i]? = some x) (hv : Vis X.env.scope x) (hd : (x == ("__debug__" : Str)) = false) (hcd : (x == ("__classdict__" : Str)) = false) : PM X B W (.Name x pos) (sVar i) := by
  refine .of co.K (PE.imp (pe_var hN hv hd hcd) fun σ H Q h => ?_) fun _ => rfl
  obtain ⟨env, cs, fp, S, h⟩ := h
  unfold sVar at h
  cases e : env[i]? with
  | none => rw [e] at h; exact h.elim
  | some s =>
    rw [e] at h
    have q := S.slot i s e
    cases s with
    | emp => exact h.elim
    | od d => exact h.elim
    | sh d =>
      obtain ⟨_, v, e1, r⟩ := q
      exact ⟨v, e1, h.now S r⟩
    | ow k d =>
      obtain ⟨v, e1, r⟩ := q
      exact ⟨v, e1, h.now S ⟨fp i, S.own i, r⟩⟩
/-- a constant -/
theorem pe_const {v : V} {d : D} (h : PE X e (tC v)) (r : ∀ H, Rp B.K B.mg B.ps H d v) : PE X e (tE B W (sRet d)) :=
  PE.imp h fun σ H Q ⟨env, cs, fp, S, h⟩ => h.now S (r _)
theorem pm_int (co : Co X B) {i : Int} {j} : PM X B W (.Constant (.int i) j pos) (sRet (.int i)) := .of co.K (pe_const pe_int fun _ => Rp.int) fun _ => rfl
theorem pm_bl (co : Co X B) {b : Bool} {j} : PM X B W (.Constant (.bool b) j pos) (sRet (.bl b)) := .of co.K (pe_const pe_bl fun _ => Rp.bl) fun _ => rfl
theorem pm_non (co : Co X B) {j} : PM X B W (.Constant .none j pos) (sRet .non) := .of co.K (pe_const pe_non fun _ => Rp.non) fun _ => rfl
theorem pm_str (co : Co X B) {x : Str} {j} (hl : x.length ≤ 100000) : PM X B W (.Constant (.str x) j pos) (sRet (.str x)) := .of co.K (pe_const pe_str fun _ => Rp.str hl) fun _ => rfl
theorem pm_glob (co : Co X B) {x : Str} {u : Value} {v : V} {d : D} (hg : Gl X x) (hm : B.mg x = some u) (r : RelV v u) (rp : ∀ H, Rp B.K B.mg B.ps H d v) (hd : (x == ("__debug__" : Str)) = false) : PM X B W (.Name x pos) (sRet d) :=
  .of co.K (pe_const (pe_glob hg (by rw [co.mg]; exact hm) r hd) rp) fun _ => rfl
theorem pm_ty (co : Co X B) {x : Str} {n : String} (hg : Gl X x) (hm : B.mg x = none) (hv : bootBuiltins x = some (.type n)) (hn : x ≠ "__name__") (hd : (x == ("__debug__" : Str)) = false) : PM X B W (.Name x pos) (sRet (.ty n)) :=
  .of co.K (pe_const (pe_bltn (v := .ty n) hg (by rw [co.mg]; exact hm) hv rfl hn hd) fun _ => Rp.ty) fun _ => rfl
section
variable {env : List Slot} {cs cs' : Cells} {fp : Nat → List Addr} {σ : L2.St} {H H' H1 : Hp} {Q : VK}
theorem StR.hsomeN (S : StR B env cs fp σ H) : ∀ p, hsOf B fp p → ∃ o, H p = some o ∧ HO.nt o = true := fun p h => S.thereN h
theorem StR.hsome (S : StR B env cs fp σ H) : ∀ p, hsOf B fp p → ∃ o, H p = some o := fun p h => S.there h
/-- two operands in a row, for an operation by data -/
theorem tOp_of {g : Vl → Vl → Option Vl} (S : StR B env cs fp σ H) (h : TEx B W fp σ H (sOp g ma mb env cs) Q) : tOp (rD B g) (tE B W ma) (tE B W mb) σ H Q := by
  refine tE_bnd S h fun v H1 tg d c1 S1 sb p h1 => tE_bnd S1 h1 fun u H2 tg2 d2 c2 S2 sb2 p2 h2 => ?_
  obtain ⟨r, e, out⟩ := lift_out S2 h2
  exact ⟨hsOf B fp, H, (tg, d), (tg2, d2), r, S.ps, S2.hsome, p.next S.ps sb2, p2.ahead sb, e, out⟩
end
theorem pm_bin (co : Co X B) {op : Operator} (ha : PM X B W a ma) (hb : PM X B W b mb) : PM X B W (.BinOp a op b pos) (sOp (binD op) ma mb) :=
  .of co.K (PE.imp (pe_op (bin_D co op) ha.pe hb.pe) fun σ H Q ⟨env, cs, fp, S, h⟩ => tOp_of S h) fun _ => rfl
theorem eq_bl {x y r : Vl} (er : eqD x y = some r) : ∃ k, r.2 = .bl k := by
  unfold eqD at er
  split at er
  · cases er; exact ⟨_, rfl⟩
  · cases er
theorem ne_bl {x y r : Vl} (er : neD x y = some r) : ∃ k, r.2 = .bl k := by
  unfold neD at er
  split at er
  · cases er; exact ⟨_, rfl⟩
  · cases er
theorem cmp_bl {f : Int → Int → Bool} {x y r : Vl} (er : intCmp f x y = some r) : ∃ k, r.2 = .bl k := by
  unfold intCmp at er
  split at er
  · cases er; exact ⟨_, rfl⟩
  · cases er
theorem in_bl {x y r : Vl} (er : inD x y = some r) : ∃ k, r.2 = .bl k := by
  unfold inD at er
  split at er
  case h_4 => cases er
  all_goals
    split at er
    · cases er; exact ⟨_, rfl⟩
    · cases er
theorem notIn_bl {x y r : Vl} (er : notInD x y = some r) : ∃ k, r.2 = .bl k := by
  unfold notInD at er
  split at er
  · cases er; exact ⟨_, rfl⟩
  · cases er
theorem is_bl {x y r : Vl} (er : isD x y = some r) : ∃ k, r.2 = .bl k := by
  unfold isD at er
  split at er
  · cases er; exact ⟨_, rfl⟩
  · cases er; exact ⟨_, rfl⟩
  · cases er
theorem isNot_bl {x y r : Vl} (er : isNotD x y = some r) : ∃ k, r.2 = .bl k := by
  unfold isNotD at er
  split at er
  · cases er; exact ⟨_, rfl⟩
  · cases er; exact ⟨_, rfl⟩
  · cases er
theorem cmp_bool {op : CmpOp} {x y r : Vl} (er : cmpD op x y = some r) : ∃ k, r.2 = .bl k :=
  match op, er with
  | .Eq, er => eq_bl er
  | .NotEq, er => ne_bl er
  | .Lt, er => cmp_bl er
  | .LtE, er => cmp_bl er
  | .Gt, er => cmp_bl er
  | .GtE, er => cmp_bl er
  | .In, er => in_bl er
  | .NotIn, er => notIn_bl er
  | .Is, er => is_bl er
  | .IsNot, er => isNot_bl er
theorem pm_cmp (co : Co X B) {op : CmpOp} (ha : PM X B W a ma) (hb : PM X B W b mb) (hm : behindInMarks op b = false) : PM X B W (.Compare a [op] [b] pos) (sOp (cmpD op) ma mb) := by
  refine ⟨PE.imp (pe_cmpR (cmp_D co op) ha.pe hb.pe hm) fun σ H Q ⟨env, cs, fp, S, h⟩ => tOp_of S h, PT.imp (pt_cmpR (cmp_D co op) ha.pe hb.pe hm) fun σ H Q ⟨env, cs, fp, S, h⟩ => ?_⟩
  refine tE_bndT S h fun v H1 tg d c1 S1 sb p h1 => tE_bndT S1 h1 fun u H2 tg2 d2 c2 S2 sb2 p2 h2 => ?_
  cases er : cmpD op (tg, d) (tg2, d2) with
  | none => rw [show lift (cmpD op (tg, d) (tg2, d2)) env c2 = .bad by rw [er]; rfl] at h2; exact h2.elim
  | some r =>
    rw [show lift (cmpD op (tg, d) (tg2, d2)) env c2 = .ok r c2 by rw [er]; rfl] at h2
    obtain ⟨k, ek, q⟩ := h2
    refine ⟨hsOf B fp, H, (tg, d), (tg2, d2), r, S.ps, S2.hsome, p.next S.ps sb2, p2.ahead sb, er, fun v H' le pv => ?_⟩
    obtain ⟨k', e'⟩ := cmp_bool er
    rw [e'] at ek pv
    cases ek
    exact ⟨_, pv.bl, q H' (fun a o _ e => le a o e) (S2.cells.next S2.ps le)⟩
theorem un_D {g : Vl → Option Vl} {op : UnaryOp} (hg : ∀ x r, g x = some r → ∃ tg i, x = (tg, .int i) ∧ r = (.st, .int (-i))) : True := trivial
theorem pm_neg (co : Co X B) (ha : PM X B W a ma) : PM X B W (.UnaryOp .USub a pos) (sUn negD ma) := by
  refine .of co.K (PE.imp (pe_un un_neg ha.pe) fun σ H Q ⟨env, cs, fp, S, h⟩ => ?_) fun _ => rfl
  refine tE_bnd S h fun v H1 tg d c1 S1 sb p h1 => ?_
  obtain ⟨r, e, out⟩ := lift_out S1 h1
  cases d <;> simp only [negD, reduceCtorEq] at e
  cases e
  exact ⟨_, p.int, out.int⟩
theorem pm_not (co : Co X B) (ha : PM X B W a ma) : PM X B W (.UnaryOp .Not a pos) (sNot ma) := by
  refine ⟨PE.imp (pe_notT ha.pe) fun σ H Q ⟨env, cs, fp, S, h⟩ => ?_, PT.imp (pt_not ha.pt) fun σ H Q ⟨env, cs, fp, S, h⟩ => ?_⟩
  · refine tE_bnd S h fun v H1 tg d c1 S1 sb p h1 => ?_
    obtain ⟨r, e, out⟩ := lift_out S1 h1
    unfold notD at e
    cases eb : truthD d with
    | none => simp [eb] at e
    | some k =>
      simp [eb] at e
      subst e
      exact ⟨k, by rw [co.K]; exact p.truth eb, out.bl⟩
  · refine tT_bnd (t := fun H r => TTx B W fp σ H r Q) (ka := ma) (kb := ma) S (fun _ _ _ h => h) (fun h => h) h (fun x e => ?_) fun x k c1 H1 e S1 sb h1 => ?_
    · funext env cs
      simp [lift, notD, e]
    · have h1 : TTx B W fp σ H (.ok (.st, .bl !k) c1) Q := by simpa [lift, notD, e] using h1
      obtain ⟨b, eb, q⟩ := h1
      cases eb
      exact q H1 sb S1.cells
theorem pm_ifExp (co : Co X B) (hc : PM X B W c mc) (ha : PM X B W a ma) (hb : PM X B W b mb) : PE X (.IfExp c a b pos) (tE B W (sIf mc ma mb)) := by
  refine PE.imp (pe_ifExp hc.pt ha.pe hb.pe) fun σ H Q ⟨env, cs, fp, S, h⟩ => ?_
  refine tT_bnd (t := fun H r => TEx B W fp σ H r Q) (ka := ma) (kb := mb) S (fun _ _ _ h => h) (fun h => h) h (fun x e => by unfold tst; rw [e]) fun x k c1 H1 e S1 sb h1 => ?_
  unfold tst at h1
  rw [e] at h1
  cases k with
  | true => exact ⟨env, c1, fp, S1, h1.from sb⟩
  | false => exact ⟨env, c1, fp, S1, h1.from sb⟩
theorem pt_ifExp {tc ta tb : TT} (hc : PT X c tc) (ha : PT X a ta) (hb : PT X b tb) : PT X (.IfExp c a b pos) (fun σ H Q => tc σ H fun k H1 => if k = true then ta σ H1 Q else tb σ H1 Q) := by
  refine ⟨fun pins s σ H Q I h => isTrue_IfExp (thn (hc.run pins s σ H _ I h) fun k s1 ⟨H1, I1, q1⟩ => ?_)⟩
  cases k with
  | true => exact ha.run pins s1 σ H1 Q I1 q1
  | false => exact hb.run pins s1 σ H1 Q I1 q1
theorem pm_if (co : Co X B) (hc : PM X B W c mc) (ha : PM X B W a ma) (hb : PM X B W b mb) : PM X B W (.IfExp c a b pos) (sIf mc ma mb) := by
  refine ⟨pm_ifExp co hc ha hb, PT.imp (pt_ifExp hc.pt ha.pt hb.pt) fun σ H Q ⟨env, cs, fp, S, h⟩ => ?_⟩
  refine tT_bnd (t := fun H r => TTx B W fp σ H r Q) (ka := ma) (kb := mb) S (fun _ _ _ h => h) (fun h => h) h (fun x e => by unfold tst; rw [e]) fun x k c1 H1 e S1 sb h1 => ?_
  unfold tst at h1
  rw [e] at h1
  cases k with
  | true => exact iteT ⟨env, c1, fp, S1, h1.from sb⟩
  | false => exact iteF ⟨env, c1, fp, S1, h1.from sb⟩
/-- the links of an and, an or -/
structure PMb (X : Cx) (B : Bx) (W : WX) (op : BoolOp) (es : List Expr) (pos : Pos) (m : ES) : Prop where
  pe : PE X (.BoolOp op es pos) (tE B W m)
  pw : PW X (.BoolOp op es pos) (tT B W m)
theorem PMb.pm {op : BoolOp} {es : List Expr} {m : ES} (h : PMb X B W op es pos m) : PM X B W (.BoolOp op es pos) m := ⟨h.pe, h.pw.pt⟩
theorem PW.imp {t u : TT} (h : PW X e t) (i : ∀ σ H Q, u σ H Q → t σ H Q) : PW X e u := ⟨fun w pins s σ H Q I q => h.run w pins s σ H Q I (i σ H Q q)⟩
theorem pb_one_and (ha : PM X B W a ma) : PMb X B W .And [a] pos ma := ⟨pe_one ha.pe, pw_and1 ha.pt⟩
theorem pb_one_or (ha : PM X B W a ma) : PMb X B W .Or [a] pos ma := ⟨pe_one ha.pe, pw_or1 ha.pt⟩
theorem pb_and (co : Co X B) {rest : List Expr} (ha : PM X B W a ma) (hb : PMb X B W .And (b :: rest) pos mb) : PMb X B W .And (a :: b :: rest) pos (sAnd ma mb) := by
  refine ⟨PE.imp (pe_andT ha.pe hb.pe) fun σ H Q ⟨env, cs, fp, S, h⟩ => ?_, PW.imp (pw_and ha.pt hb.pw) fun σ H Q ⟨env, cs, fp, S, h⟩ => ?_⟩
  · refine bnd_core (t := fun H r => TEx B W fp σ H r Q) S (fun _ _ _ h => h) (fun h => h) h fun v H1 tg d c1 S1 sb p h1 => ?_
    unfold tst at h1
    cases eb : truthD d with
    | none => simp only [eb] at h1; exact h1.elim
    | some k =>
      simp only [eb] at h1
      refine ⟨k, by rw [co.K]; exact p.truth eb, ?_⟩
      cases k with
      | true => exact iteT ⟨env, c1, fp, S1, h1.from sb⟩
      | false => exact iteF (h1 v H1 sb S1.cells p)
  · refine tT_bnd (t := fun H r => TTx B W fp σ H r Q) (ka := ma) (kb := mb) S (fun _ _ _ h => h) (fun h => h) h (fun x e => by unfold tst; rw [e]) fun x k c1 H1 e S1 sb h1 => ?_
    unfold tst at h1
    rw [e] at h1
    cases k with
    | true => exact iteT ⟨env, c1, fp, S1, h1.from sb⟩
    | false =>
      obtain ⟨b, eb, q⟩ := h1
      rw [e] at eb
      cases eb
      exact iteF (q H1 sb S1.cells)
theorem pb_or (co : Co X B) {rest : List Expr} (ha : PM X B W a ma) (hb : PMb X B W .Or (b :: rest) pos mb) : PMb X B W .Or (a :: b :: rest) pos (sOr ma mb) := by
  refine ⟨PE.imp (pe_orT ha.pe hb.pe) fun σ H Q ⟨env, cs, fp, S, h⟩ => ?_, PW.imp (pw_or ha.pt hb.pw) fun σ H Q ⟨env, cs, fp, S, h⟩ => ?_⟩
  · refine bnd_core (t := fun H r => TEx B W fp σ H r Q) S (fun _ _ _ h => h) (fun h => h) h fun v H1 tg d c1 S1 sb p h1 => ?_
    unfold tst at h1
    cases eb : truthD d with
    | none => simp only [eb] at h1; exact h1.elim
    | some k =>
      simp only [eb] at h1
      refine ⟨k, by rw [co.K]; exact p.truth eb, ?_⟩
      cases k with
      | false => exact iteF ⟨env, c1, fp, S1, h1.from sb⟩
      | true => exact iteT (h1 v H1 sb S1.cells p)
  · refine tT_bnd (t := fun H r => TTx B W fp σ H r Q) (ka := ma) (kb := mb) S (fun _ _ _ h => h) (fun h => h) h (fun x e => by unfold tst; rw [e]) fun x k c1 H1 e S1 sb h1 => ?_
    unfold tst at h1
    rw [e] at h1
    cases k with
    | false => exact iteF ⟨env, c1, fp, S1, h1.from sb⟩
    | true =>
      obtain ⟨b, eb, q⟩ := h1
      rw [e] at eb
      cases eb
      exact iteT (q H1 sb S1.cells)
/-- a op b op' c -/
theorem pm_chain (co : Co X B) {op op' : CmpOp} (ha : PM X B W a ma) (hb : PM X B W b mb) (hc : PM X B W c mc) (hm : lastMarks [op, op'] [b, c] = false) : PM X B W (.Compare a [op, op'] [b, c] pos) (sChain (cmpD op) (cmpD op') ma mb mc) := by
  have key : ∀ {σ : L2.St} {H : Hp} {Q : VK}, (∃ env cs fp, StR B env cs fp σ H ∧ TEx B W fp σ H (sChain (cmpD op) (cmpD op') ma mb mc env cs) Q) → tChain (rD B (cmpD op)) (rD B (cmpD op')) (tE B W ma) (tE B W mb) (tE B W mc) σ H Q := by
    rintro σ H Q ⟨env, cs, fp, S, h⟩
    refine tE_bnd S h fun v H1 tg d c1 S1 sb p h1 => tE_bnd S1 h1 fun u H2 tg2 d2 c2 S2 sb2 p2 h2 => ?_
    unfold bnd at h2
    cases er : cmpD op (tg, d) (tg2, d2) with
    | none => rw [show lift (cmpD op (tg, d) (tg2, d2)) env c2 = .bad by rw [er]; rfl] at h2; exact h2.elim
    | some r =>
      rw [show lift (cmpD op (tg, d) (tg2, d2)) env c2 = .ok r c2 by rw [er]; rfl] at h2
      refine ⟨hsOf B fp, H, (tg, d), (tg2, d2), r, S.ps, S2.hsome, p.next S.ps sb2, p2.ahead sb, er, fun v' H' le pv => ?_⟩
      obtain ⟨tg3, d3⟩ := r
      have sb3 : SB B.ps H2 H' := fun a o _ e => le a o e
      have S3 := S2.next sb3 (S2.cells.next S2.ps le)
      cases d3 with
      | bl k =>
        refine ⟨k, pv.bl, ?_⟩
        cases k with
        | false => exact iteF ((h2.from sb3).now S3 (show B.Rp H' _ _ _ from Rp.bl))
        | true =>
          refine iteT (tE_bnd S3 (h2.from sb3) fun w H4 tg4 d4 c4 S4 sb4 p4 h4 => ?_)
          obtain ⟨r4, e4, out⟩ := lift_out S4 h4
          exact ⟨hsOf B fp, H1, (tg2, d2), (tg4, d4), r4, S.ps, S4.hsome, (p2.next S.ps sb3).next S.ps sb4, (p4.ahead sb3).ahead sb2, e4, out⟩
      | _ => exact h2.elim
  refine ⟨PE.imp (pe_chain (cmp_D co op) (cmp_D co op') ha.pe hb.pe hc.pe hm) fun σ H Q h => key h, PT.imp (pt_chain (cmp_D co op) (cmp_D co op') ha.pe hb.pe hc.pe hm) fun σ H Q h => ?_⟩
  refine key (Q := fun x H' => ∃ k, x = .bl k ∧ Q k H') ?_
  obtain ⟨env, cs, fp, S, h⟩ := h
  refine ⟨env, cs, fp, S, ?_⟩
  cases er : sChain (cmpD op) (cmpD op') ma mb mc env cs with
  | bad => rw [er] at h; exact h
  | exc x fs c => rw [er] at h; exact h
  | ok r c =>
    rw [er] at h
    obtain ⟨k, ek, q⟩ := h
    have hb : ∃ k', r.2 = .bl k' := by
      unfold sChain bnd at er
      cases e1 : ma env cs with
      | bad => simp [e1] at er
      | exc x fs c => simp [e1] at er
      | ok x c1 =>
        simp only [e1] at er
        cases e2 : mb env c1 with
        | bad => simp [e2] at er
        | exc x fs c => simp [e2] at er
        | ok y c2 =>
          simp only [e2] at er
          cases e3 : cmpD op x y with
          | none => simp [e3, lift] at er
          | some k =>
            simp only [e3, lift] at er
            obtain ⟨tk, dk⟩ := k
            cases dk with
            | bl b =>
              cases b with
              | false => simp only [sRet] at er; cases er; exact ⟨_, rfl⟩
              | true =>
                simp only at er
                cases e4 : mc env c2 with
                | bad => simp [e4] at er
                | exc x fs c => simp [e4] at er
                | ok z c3 =>
                  simp only [e4] at er
                  cases e5 : cmpD op' y z with
                  | none => simp [e5] at er
                  | some r5 =>
                    simp only [e5] at er
                    cases er
                    exact cmp_bool e5
            | _ => simp at er
    obtain ⟨k', e'⟩ := hb
    exact fun v H' sb cc pv => by
      rw [e'] at ek pv
      cases ek
      exact ⟨_, pv.bl, q H' sb cc⟩
end
end Pc

set_option Elab.async false
set_option maxRecDepth 100000
set_option maxHeartbeats 4000000
namespace Pc
open PySem PySem.Spec PyProof.Rows L2

/-! ### several expressions -/
abbrev AS := List Slot → Cells → Rs (List Vl)
def aNil : AS := fun _ cs => .ok [] cs
def aCons (m : ES) (ms : AS) : AS := fun env cs => match m env cs with
  | .ok x c => (match ms env c with
    | .ok xs c' => .ok (x :: xs) c'
    | .exc x fs c' => .exc x fs c'
    | .bad => .bad)
  | .exc x fs c => .exc x fs c
  | .bad => .bad
def PVL (B : Bx) (hs : Addr → Prop) (H0 H : Hp) : List Vl → List V → Prop
  | [], vs => vs = []
  | x :: xs, vs => ∃ v r, vs = v :: r ∧ PV B hs H0 H x.1 x.2 v ∧ PVL B hs H0 H xs r
def TAx (B : Bx) (W : WX) (fp : Nat → List Addr) (σ : L2.St) (H : Hp) (r : Rs (List Vl)) (Q : List V → Hp → Prop) : Prop :=
  match r with
  | .ok xs cs' => ∀ vs H', SB B.ps H H' → CsR B (hsOf B fp) H' cs' → PVL B (hsOf B fp) H H' xs vs → Q vs H'
  | .exc x fs cs' => ∀ cls dd H', SB B.ps H H' → CsR B (hsOf B fp) H' cs' → ExR B (hsOf B fp) H' x fs cls dd → W cls dd σ H'
  | .bad => False
def tA (B : Bx) (W : WX) (m : AS) : TA := fun σ H Q => ∃ env cs fp, StR B env cs fp σ H ∧ TAx B W fp σ H (m env cs) Q
def appA (ms : AS) (f : List Vl → Option Vl) : ES := fun env cs => match ms env cs with
  | .ok xs c => lift (f xs) env c
  | .exc x fs c => .exc x fs c
  | .bad => .bad
theorem PA.imp {X : Cx} {es : List Expr} {t u : TA} (h : PA X es t) (i : ∀ σ H Q, u σ H Q → t σ H Q) : PA X es u := ⟨fun p pins s σ H Q I q => h.run p pins s σ H Q I (i σ H Q q)⟩
section
variable {X : Cx} {B : Bx} {W : WX} {a b c e : Expr} {es : List Expr} {ma mb mc : ES} {ms : AS} {pos : Pos}
section
variable {env : List Slot} {cs cs' : Cells} {fp : Nat → List Addr} {σ : L2.St} {H H' H1 : Hp} {Q : VK} {hs : Addr → Prop}
theorem PVL.next (hps : ∀ a, a ∈ B.ps → hs a) (sb : SB B.ps H1 H') : ∀ {xs : List Vl} {vs : List V}, PVL B hs H H1 xs vs → PVL B hs H H' xs vs
  | [], _, h => h
  | x :: xs, _, h => let ⟨v, r, e, p, t⟩ := h; ⟨v, r, e, p.next hps sb, PVL.next hps sb t⟩
theorem PVL.ahead (sb : SB B.ps H H1) : ∀ {xs : List Vl} {vs : List V}, PVL B hs H1 H' xs vs → PVL B hs H H' xs vs
  | [], _, h => h
  | x :: xs, _, h => let ⟨v, r, e, p, t⟩ := h; ⟨v, r, e, p.ahead sb, PVL.ahead sb t⟩
theorem PVL.rp : ∀ {xs : List Vl} {vs : List V}, xs.all (fun x => x.1.plain) = true → PVL B hs H H' xs vs → B.RpL H' hs (xs.map (·.2)) vs
  | [], _, _, h => by
    have h : _ = [] := h
    subst h
    exact RpL.nil
  | x :: xs, _, e, h => by
    obtain ⟨v, r, rfl, p, t⟩ := h
    rw [List.all_cons, Bool.and_eq_true] at e
    exact RpL.cons (p.rp e.1) (PVL.rp e.2 t)
theorem tA_core {f : List Vl → Option Vl} {t : Hp → Rs Vl → Prop} (S : StR B env cs fp σ H)
    (hexc : ∀ x fs c, t H (.exc x fs c) → ∀ cls dd H', SB B.ps H H' → CsR B (hsOf B fp) H' c → ExR B (hsOf B fp) H' x fs cls dd → W cls dd σ H') (hbad : ¬ t H .bad)
    (h : t H (appA ms f env cs)) {R : List V → Hp → Prop}
    (hR : ∀ vs H1 xs c1 r, f xs = some r → StR B env c1 fp σ H1 → SB B.ps H H1 → PVL B (hsOf B fp) H H1 xs vs → t H (.ok r c1) → R vs H1) : tA B W ms σ H R := by
  refine ⟨env, cs, fp, S, ?_⟩
  unfold appA at h
  cases e : ms env cs with
  | bad => rw [e] at h; exact hbad h
  | exc x fs c => rw [e] at h; exact hexc x fs c h
  | ok xs c =>
    rw [e] at h
    cases e2 : f xs with
    | none =>
      have h : t H (lift (f xs) env c) := h
      rw [e2] at h
      exact (hbad h).elim
    | some r =>
      have h : t H (lift (f xs) env c) := h
      rw [e2] at h
      exact fun vs H1 sb cc p => hR vs H1 xs c r e2 (S.next sb cc) sb p h
end
theorem pa_n (co : Co X B) : PA X [] (tA B W aNil) := PA.imp pa_nil fun σ H Q ⟨env, cs, fp, S, h⟩ => h [] H SB.refl S.cells rfl
theorem pa_c (co : Co X B) (ha : PM X B W e ma) (hr : PA X es (tA B W ms)) (hs : starEach (e :: es) X.env = (false, eval e X.env) :: starEach es X.env) : PA X (e :: es) (tA B W (aCons ma ms)) := by
  refine PA.imp (pa_cons ha.pe hr hs) fun σ H Q ⟨env, cs, fp, S, h⟩ => ⟨env, cs, fp, S, ?_⟩
  unfold aCons at h
  cases e1 : ma env cs with
  | bad => rw [e1] at h; exact h
  | exc x fs c => rw [e1] at h; exact h
  | ok x c =>
    simp only [e1] at h
    intro v H1 sb cc p
    refine ⟨env, c, fp, S.next sb cc, ?_⟩
    cases e2 : ms env c with
    | bad => simp only [e2] at h; exact h
    | exc y fs c' => simp only [e2] at h; exact fun cls dd H' s => h cls dd H' (sb.trans s)
    | ok xs c' =>
      simp only [e2] at h
      exact fun vs H' s cc' p' => h _ H' (sb.trans s) cc' ⟨v, vs, rfl, p.next S.ps s, p'.ahead sb⟩
/-! displays -/
def tupF (xs : List Vl) : Option Vl := if xs.all (fun x => x.1.plain) = true ∧ xs.length ≤ 100000 then some (.st, .tup (xs.map (·.2))) else none
def lstF (xs : List Vl) : Option Vl := if xs.all (fun x => x.1.plain) = true ∧ xs.length ≤ 100000 then some (.fr 0, .lst (xs.map (·.2))) else none
theorem PVL.length {hs : Addr → Prop} {H H' : Hp} : ∀ {xs : List Vl} {vs : List V}, PVL B hs H H' xs vs → xs.length = vs.length
  | [], _, h => by
    have h : _ = [] := h
    subst h
    rfl
  | x :: xs, _, h => by
    obtain ⟨v, r, rfl, _, t⟩ := h
    simp [PVL.length t]
theorem pm_tup (co : Co X B) {k : Nat} (h : PA X es (tA B W ms)) : PM X B W (.Tuple es k pos) (appA ms tupF) := by
  refine .of co.K (PE.imp (pe_tup h) fun σ H Q ⟨env, cs, fp, S, h⟩ => ?_) fun _ => rfl
  refine tA_core (t := fun H r => TEx B W fp σ H r Q) S (fun _ _ _ h => h) (fun h => h) h fun vs H1 xs c1 r e S1 sb p h1 => ?_
  unfold tupF at e
  split at e
  · rename_i hc
    cases e
    have hsl := sizeLine_eq
    have := p.length
    exact ⟨by omega, fun q n => (TEx.out S1 (h1.from sb)).tup S1.hsome (p.rp hc.1) n⟩
  · cases e
theorem pm_lst (co : Co X B) (h : PA X es (tA B W ms)) : PM X B W (.List es pos) (appA ms lstF) := by
  refine .of co.K (PE.imp (pe_lst h) fun σ H Q ⟨env, cs, fp, S, h⟩ => ?_) fun _ => rfl
  refine tA_core (t := fun H r => TEx B W fp σ H r Q) S (fun _ _ _ h => h) (fun h => h) h fun vs H1 xs c1 r e S1 sb p h1 => ?_
  unfold lstF at e
  split at e
  · rename_i hc
    cases e
    have hsl := sizeLine_eq
    have := p.length
    exact ⟨by omega, fun q n => (TEx.out S1 (h1.from sb)).lst S1.ps S1.hsome (p.rp hc.1) n⟩
  · cases e

/-! ### subscripts, slices -/
def strAt (x : Str) (i : Int) : Option D := (atI x.cps.toList i).map fun c => .str ⟨#[c]⟩
def subF (cs : Cells) : Vl → Vl → Option Vl
  | (_, .tup ds), (_, .int i) => (atI ds i).map fun d => (.st, d)
  | (t, .lst ds), (_, .int i) => (atI ds i).map fun d => (t.down, d)
  | (_, .frz ds), (_, .int i) => (atI ds i).map fun d => (.st, d)
  | (_, .str x), (_, .int i) => (strAt x i).map fun d => (.st, d)
  | (_, .cell j), (_, .int i) => (match cs[j]? with
    | some ds => (atI ds i).map fun d => (.st, d)
    | none => none)
  | _, _ => none
def sSub (ma mb : ES) : ES := bnd ma fun x => bnd mb fun y => fun env cs => lift (subF cs x y) env cs
theorem atI_rel {α β : Type} {xs : List α} {ys : List β} {i : Int} {x : α} (hl : xs.length = ys.length) (h : atI xs i = some x) : ∃ (j : Nat) (y : β), xs[j]? = some x ∧ ys[j]? = some y ∧ atI ys i = some y := by
  unfold atI at h ⊢
  rw [hl] at h
  cases e : ixN ys.length i with
  | none => rw [e] at h; cases h
  | some j =>
    rw [e] at h
    have h : xs[j]? = some x := h
    have hj : j < ys.length := by rw [← hl]; exact (List.getElem?_eq_some_iff.mp h).1
    exact ⟨j, ys[j], h, List.getElem?_eq_getElem hj, by show ys[j]? = _; exact List.getElem?_eq_getElem hj⟩
theorem pm_sub (co : Co X B) (ha : PM X B W a ma) (hb : PM X B W b mb) (hp : PlainIx b) : PM X B W (.Subscript a b pos) (sSub ma mb) := by
  refine .of co.K (PE.imp (pe_ix ix_seq ha.pe hb.pe hp) fun σ H Q ⟨env, cs, fp, S, h⟩ => ?_) fun _ => rfl
  refine bnd_core (t := fun H r => TEx B W fp σ H r Q) S (fun _ _ _ h => h) (fun h => h) h fun v H1 tg d c1 S1 sb p h1 => ?_
  refine bnd_core (t := fun H1 r => TEx B W fp σ H r Q) S1 (fun _ _ _ h => fun cls dd H' s => h cls dd H' (sb.trans s)) (fun h => h) h1 fun u H2 tg2 d2 c2 S2 sb2 p2 h2 => ?_
  have h2 : TEx B W fp σ H (lift (subF c2 (tg, d) (tg2, d2)) env c2) Q := h2
  have p' := p.next S.ps sb2
  cases er : subF c2 (tg, d) (tg2, d2) with
  | none => rw [er] at h2; exact h2.elim
  | some r =>
    rw [er] at h2
    have fin : ∀ {z : V}, PV B (hsOf B fp) H H2 r.1 r.2 z → Q z H2 := fun pz => h2 _ _ (sb.trans sb2) S2.cells pz
    cases d <;> cases d2 <;> simp only [subF, reduceCtorEq] at er
    · rename_i x i
      unfold strAt at er
      cases e1 : atI x.cps.toList i with
      | none => rw [e1] at er; cases er
      | some c =>
        rw [e1] at er
        cases er
        cases p2.int
        obtain ⟨rfl, hl⟩ := p'.str
        have := sizeLine_eq
        exact .inr (.inr ⟨x, i, c, rfl, rfl, by omega, e1, fin (show B.Rp _ _ _ _ from Rp.str (by show (1 : Nat) ≤ _; decide))⟩)
    · rename_i j i
      cases p2.int
      obtain ⟨q, rfl, hq⟩ := Rp.cell_of (p'.atom fun ds e => by cases e)
      cases e1 : c2[j]? with
      | none => rw [e1] at er; cases er
      | some ds =>
        rw [e1] at er
        obtain ⟨xs, hx, rx⟩ := S2.cells.at_ j ds q e1 hq
        cases e2 : atI ds i with
        | none => simp [e2] at er
        | some z =>
          simp only [e2, Option.map_some, Option.some.injEq] at er
          subst er
          obtain ⟨k, y, h1, h2, h3⟩ := atI_rel rx.length e2
          obtain ⟨y', h4, rz⟩ := rx.get h1
          rw [h2] at h4
          cases h4
          exact .inl ⟨q, xs, i, y, rfl, rfl, SqL.of hx, h3, fin rz⟩
    · rename_i ds i
      cases p2.int
      obtain ⟨q, xs, rfl, hx, rx⟩ := p'.tup
      cases e2 : atI ds i with
      | none => simp [e2] at er
      | some z =>
        simp only [e2, Option.map_some, Option.some.injEq] at er
        subst er
        obtain ⟨k, y, h1, h2, h3⟩ := atI_rel rx.length e2
        obtain ⟨y', h4, rz⟩ := rx.get h1
        rw [h2] at h4
        cases h4
        exact .inr (.inl ⟨q, xs, i, y, rfl, rfl, by rw [co.K]; exact hx, h3, fin rz⟩)
    · rename_i ds i
      cases p2.int
      obtain ⟨q, xs, rfl, hx, hl, rx⟩ := p'.lst
      cases e2 : atI ds i with
      | none => simp [e2] at er
      | some z =>
        simp only [e2, Option.map_some, Option.some.injEq] at er
        subst er
        obtain ⟨k, y, h1, h2, h3⟩ := atI_rel hl e2
        obtain ⟨y', h4, rz⟩ := rx k z h1
        rw [h2] at h4
        cases h4
        exact .inl ⟨q, xs, i, y, rfl, rfl, SqL.of hx, h3, fin rz⟩
    · rename_i ds i
      cases p2.int
      obtain ⟨q, xs, rfl, hx, rx⟩ := Rp.frz_of (p'.atom fun ds e => by cases e)
      cases e2 : atI ds i with
      | none => simp [e2] at er
      | some z =>
        simp only [e2, Option.map_some, Option.some.injEq] at er
        subst er
        obtain ⟨k, y, h1, h2, h3⟩ := atI_rel rx.length e2
        obtain ⟨y', h4, rz⟩ := rx.get h1
        rw [h2] at h4
        cases h4
        exact .inl ⟨q, xs, i, y, rfl, rfl, by rw [co.K]; exact sqL_le hid_leH hx, h3, fin rz⟩
def cutL {α : Type} (xs : List α) (lo hi : Option Int) : List α := (xs.drop (HT.sIx xs.length 0 lo)).take (HT.sIx xs.length xs.length hi - HT.sIx xs.length 0 lo)
theorem RpL.cut {K : PySem.W.Frag} {mg : Str → Option Value} {ps : List Addr} {H : Hp} {ds : List D} {xs : List V} (h : RpL K mg ps H ds xs) (lo hi : Option Int) : RpL K mg ps H (cutL ds lo hi) (cutV xs lo hi) := by
  unfold cutL cutV
  rw [h.length]
  exact (h.drop _).take _
def slF (lo hi : Option Int) : Vl → Option Vl
  | (_, .tup ds) => some (.st, .tup (cutL ds lo hi))
  | (t, .lst ds) => if t.flat = true then some (.fr 0, .lst (cutL ds lo hi)) else none
  | (_, .frz ds) => some (.fr 0, .lst (cutL ds lo hi))
  | (_, .str x) => if (cutS x lo hi).length ≤ 100000 then some (.st, .str (cutS x lo hi)) else none
  | _ => none
/-- a slice's part: left out, or an int -/
abbrev OS := List Slot → Cells → Rs (Option Int)
def oNone : OS := fun _ cs => .ok none cs
def oSome (m : ES) : OS := fun env cs => match m env cs with
  | .ok (_, .int i) c => .ok (some i) c
  | .ok _ _ => .bad
  | .exc x fs c => .exc x fs c
  | .bad => .bad
def TOx (B : Bx) (W : WX) (fp : Nat → List Addr) (σ : L2.St) (H : Hp) (r : Rs (Option Int)) (Q : Option Int → Hp → Prop) : Prop :=
  match r with
  | .ok o cs' => ∀ H', SB B.ps H H' → CsR B (hsOf B fp) H' cs' → Q o H'
  | .exc x fs cs' => ∀ cls dd H', SB B.ps H H' → CsR B (hsOf B fp) H' cs' → ExR B (hsOf B fp) H' x fs cls dd → W cls dd σ H'
  | .bad => False
def tO (B : Bx) (W : WX) (m : OS) : TO := fun σ H Q => ∃ env cs fp, StR B env cs fp σ H ∧ TOx B W fp σ H (m env cs) Q
def bndO (m : OS) (k : Option Int → ES) : ES := fun env cs => match m env cs with
  | .ok x c => k x env c
  | .exc x fs c => .exc x fs c
  | .bad => .bad
def sSlice (m : ES) (ml mh : OS) : ES := bnd m fun x => bndO ml fun lo => bndO mh fun hi => lift (slF lo hi x)
theorem PO.imp {eo : Option Expr} {t u : TO} (h : PO X eo t) (i : ∀ σ H Q, u σ H Q → t σ H Q) : PO X eo u := ⟨fun pins s σ H Q I q => h.run pins s σ H Q I (i σ H Q q)⟩
theorem po_n (co : Co X B) : PO X none (tO B W oNone) := PO.imp po_none fun σ H Q ⟨env, cs, fp, S, h⟩ => h H SB.refl S.cells
theorem po_s (co : Co X B) (ha : PM X B W a ma) : PO X (some a) (tO B W (oSome ma)) := by
  refine PO.imp (po_some ha.pe) fun σ H Q ⟨env, cs, fp, S, h⟩ => ⟨env, cs, fp, S, ?_⟩
  unfold oSome at h
  cases e : ma env cs with
  | bad => rw [e] at h; exact h
  | exc x fs c => rw [e] at h; exact h
  | ok x c =>
    rw [e] at h
    obtain ⟨tg, d⟩ := x
    cases d with
    | int i => exact fun v H' sb cc p => ⟨i, p.int, h H' sb cc⟩
    | _ => exact h.elim
theorem tO_bnd {env : List Slot} {cs : Cells} {fp : Nat → List Addr} {σ : L2.St} {H : Hp} {Q : VK} {m : OS} {k : Option Int → ES} (S : StR B env cs fp σ H) (h : TEx B W fp σ H (bndO m k env cs) Q) {R : Option Int → Hp → Prop}
    (hR : ∀ o H1 c1, StR B env c1 fp σ H1 → SB B.ps H H1 → TEx B W fp σ H1 (k o env c1) Q → R o H1) : tO B W m σ H R := by
  refine ⟨env, cs, fp, S, ?_⟩
  unfold bndO at h
  cases e : m env cs with
  | bad => rw [e] at h; exact h.elim
  | exc x fs c => rw [e] at h; exact h
  | ok x c =>
    rw [e] at h
    exact fun H1 sb c1 => hR x H1 c (S.next sb c1) sb (h.from sb)
theorem pm_slice (co : Co X B) {lo hi : Option Expr} {ml mh : OS} {p2 : Pos} (ha : PM X B W a ma) (hl : PO X lo (tO B W ml)) (hh : PO X hi (tO B W mh)) : PM X B W (.Subscript a (.Slice lo hi none p2) pos) (sSlice ma ml mh) := by
  refine .of co.K (PE.imp (pe_slice (sl_tupA.or (sl_list.or sl_str)) ha.pe hl hh) fun σ H Q ⟨env, cs, fp, S, h⟩ => ?_) fun _ => rfl
  refine tE_bnd S h fun v H1 tg d c1 S1 sb p h1 => tO_bnd S1 h1 fun l H2 c2 S2 sb2 h2 => tO_bnd S2 h2 fun u H3 c3 S3 sb3 h3 => ?_
  obtain ⟨r, e, out⟩ := lift_out S3 h3
  have p' := (p.next S.ps sb2).next S.ps sb3
  cases d <;> simp only [slF, reduceCtorEq] at e
  · split at e
    · rename_i x hz
      cases e
      obtain ⟨rfl, hl⟩ := p'.str
      have := sizeLine_eq
      exact .inr (.inr ⟨_, rfl, by omega, out.str hz⟩)
    · cases e
  · cases e
    obtain ⟨q, xs, rfl, hx, rx⟩ := p'.tup
    refine .inl ⟨q, xs, rfl, by rw [co.K]; exact hx, fun w => ?_, fun _ z n => out.tup S3.hsome (rx.cut l u) n⟩
    have e1 : ∀ {α : Type} (zs : List α), zs.length = xs.length → cutL zs l u = zs := fun zs hz => by
      unfold cutL
      rw [hz, w.1, w.2]
      simp [← hz]
    rename_i ds
    simp only [e1 ds rx.length] at out
    exact out.same (show B.Rp _ _ _ _ from p'.atom fun ds e => by cases e)
  · split at e
    · rename_i ds hf
      cases e
      obtain ⟨q, xs, rfl, hx, rx⟩ := p'.lstFlat hf
      exact .inr (.inl ⟨q, xs, rfl, SqL.of hx, fun z n => out.lst S3.ps S3.hsome (rx.cut l u) n⟩)
    · cases e
  · cases e
    obtain ⟨q, xs, rfl, hx, rx⟩ := Rp.frz_of (p'.atom fun ds e => by cases e)
    exact .inr (.inl ⟨q, xs, rfl, by rw [co.K]; exact sqL_le hid_leH hx, fun z n => out.lst S3.ps S3.hsome (rx.cut l u) n⟩)
end
end Pc

set_option Elab.async false
set_option maxRecDepth 100000
set_option maxHeartbeats 4000000
namespace Pc
open PySem PySem.Spec PyProof.Rows L2

/-! ### built-in functions by data -/
def rA (B : Bx) (f : List Vl → Option Vl) : List V → Hp → VK → Prop := fun vs H Q => ∃ hs H0 xs r, (∀ p, p ∈ B.ps → hs p) ∧ (∀ p, hs p → ∃ o, H p = some o ∧ HO.nt o = true) ∧ (∀ a ∈ B.ps, ∃ xs, H a = some (.lst xs)) ∧ PVL B hs H0 H xs vs ∧ f xs = some r ∧ Out B hs H r.1 r.2 Q
def intsOf : List D → Option (List Int)
  | [] => some []
  | .int i :: ds => (intsOf ds).map (i :: ·)
  | _ => none
def blsOf : List D → Option (List Bool)
  | [] => some []
  | .bl i :: ds => (blsOf ds).map (i :: ·)
  | _ => none
def lenF : List Vl → Option Vl
  | [(_, .tup ds)] => some (.st, .int ds.length)
  | [(_, .lst ds)] => some (.st, .int ds.length)
  | [(_, .frz ds)] => some (.st, .int ds.length)
  | [(_, .str x)] => some (.st, .int x.length)
  | _ => none
def intF : List Vl → Option Vl
  | [(_, .int i)] => some (.st, .int i)
  | [(_, .bl b)] => some (.st, .int (if b then 1 else 0))
  | _ => none
def absF : List Vl → Option Vl
  | [(_, .int i)] => some (.st, .int (if i < 0 then -i else i))
  | _ => none
def topOf : List Int → Int
  | [] => 0
  | i :: is => is.foldl (fun a b => if b > a then b else a) i
def botOf : List Int → Int
  | [] => 0
  | i :: is => is.foldl (fun a b => if b < a then b else a) i
def maxF : List Vl → Option Vl
  | [(_, .int i), (_, .int j)] => some (.st, .int (if j > i then j else i))
  | [(_, .lst ds)] => (match intsOf ds with
    | some (i :: is) => some (.st, .int (topOf (i :: is)))
    | _ => none)
  | _ => none
def minF : List Vl → Option Vl
  | [(_, .int i), (_, .int j)] => some (.st, .int (if j < i then j else i))
  | [(_, .lst ds)] => (match intsOf ds with
    | some (i :: is) => some (.st, .int (botOf (i :: is)))
    | _ => none)
  | _ => none
def sumF : List Vl → Option Vl
  | [(_, .lst ds)] => (intsOf ds).map fun ns => (.st, .int ns.sum)
  | _ => none
def sortF : List Vl → Option Vl
  | [(_, .lst ds)] => (intsOf ds).map fun ns => (.fr 0, .lst ((ns.mergeSort fun a b => decide (a ≤ b)).map D.int))
  | _ => none
def tupleF : List Vl → Option Vl
  | [(_, .tup ds)] => some (.st, .tup ds)
  | [(t, .lst ds)] => if t.flat = true then some (.st, .tup ds) else none
  | _ => none
def listF : List Vl → Option Vl
  | [(_, .tup ds)] => some (.fr 0, .lst ds)
  | [(t, .lst ds)] => if t.flat = true then some (.fr 0, .lst ds) else none
  | _ => none
def allF : List Vl → Option Vl
  | [(_, .lst ds)] => (blsOf ds).map fun bs => (.st, .bl (bs.all id))
  | _ => none
def anyF : List Vl → Option Vl
  | [(_, .lst ds)] => (blsOf ds).map fun bs => (.st, .bl (bs.any id))
  | _ => none
def D.tyName : D → Option String
  | .non => some "NoneType"
  | .bl _ => some "bool"
  | .int _ => some "int"
  | .str _ => some "str"
  | .tup _ => some "tuple"
  | .lst _ => some "list"
  | .frz _ => some "list"
  | .cell _ => some "list"
  | _ => none
def anyKit (t : String) : List D → Option Bool
  | [] => some false
  | .ty n :: ds => (match kitB t n with
    | some true => (anyKit t ds).map fun _ => true
    | some false => anyKit t ds
    | none => none)
  | _ => none
def isiF : List Vl → Option Vl
  | [(_, d), (_, .ty n)] => d.tyName.bind fun t => (kitB t n).map fun b => (.st, .bl b)
  | [(_, d), (_, .tup cs)] => d.tyName.bind fun t => (anyKit t cs).map fun b => (.st, .bl b)
  | _ => none
section
variable {X : Cx} {B : Bx}
section
variable {hs : Addr → Prop} {H0 H : Hp} {x y : Vl} {vs : List V}
theorem PVL.one (h : PVL B hs H0 H [x] vs) : ∃ v, vs = [v] ∧ PV B hs H0 H x.1 x.2 v := by
  obtain ⟨v, r, rfl, p, h⟩ := h
  have h : r = [] := h
  subst h
  exact ⟨v, rfl, p⟩
theorem PVL.two (h : PVL B hs H0 H [x, y] vs) : ∃ v w, vs = [v, w] ∧ PV B hs H0 H x.1 x.2 v ∧ PV B hs H0 H y.1 y.2 w := by
  obtain ⟨v, r, rfl, p, h⟩ := h
  obtain ⟨w, rfl, q⟩ := PVL.one h
  exact ⟨v, w, rfl, p, q⟩
theorem PV.ints {tg : Tg} {ds : List D} {v : V} {ns : List Int} (e : intsOf ds = some ns) (h : PV B hs H0 H tg (.lst ds) v) : ∃ a, v = .ref a ∧ H a = some (.lst (ns.map V.int)) := by
  obtain ⟨a, xs, e1, s, hl, r⟩ := h.lst
  refine ⟨a, e1, ?_⟩
  have key : ∀ {ds : List D} {xs : List V} {ns : List Int}, intsOf ds = some ns → ds.length = xs.length → (∀ (i : Nat) (e : D), ds[i]? = some e → ∃ x, xs[i]? = some x ∧ PV B hs H0 H tg.down e x) → xs = ns.map V.int := by
    intro ds
    induction ds with
    | nil =>
      intro xs ns e hl _
      cases e
      cases xs with
      | nil => rfl
      | cons x r => simp at hl
    | cons d ds ih =>
      intro xs ns e hl r
      cases d <;> simp only [intsOf, reduceCtorEq] at e
      rename_i i
      cases e2 : intsOf ds with
      | none => simp [e2] at e
      | some ms =>
        simp only [e2, Option.map_some, Option.some.injEq] at e
        subst e
        cases xs with
        | nil => simp at hl
        | cons x t =>
          obtain ⟨y, h1, h2⟩ := r 0 (.int i) rfl
          simp at h1
          subst h1
          rw [h2.int, ih (xs := t) e2 (by simpa using hl) fun j e q => by
            obtain ⟨z, h3, h4⟩ := r (j + 1) e (by simpa using q)
            exact ⟨z, by simpa using h3, h4⟩]
          rfl
  rw [s, key e hl r]
theorem PV.bls {tg : Tg} {ds : List D} {v : V} {ns : List Bool} (e : blsOf ds = some ns) (h : PV B hs H0 H tg (.lst ds) v) : ∃ a, v = .ref a ∧ H a = some (.lst (ns.map V.bl)) := by
  obtain ⟨a, xs, e1, s, hl, r⟩ := h.lst
  refine ⟨a, e1, ?_⟩
  have key : ∀ {ds : List D} {xs : List V} {ns : List Bool}, blsOf ds = some ns → ds.length = xs.length → (∀ (i : Nat) (e : D), ds[i]? = some e → ∃ x, xs[i]? = some x ∧ PV B hs H0 H tg.down e x) → xs = ns.map V.bl := by
    intro ds
    induction ds with
    | nil =>
      intro xs ns e hl _
      cases e
      cases xs with
      | nil => rfl
      | cons x r => simp at hl
    | cons d ds ih =>
      intro xs ns e hl r
      cases d <;> simp only [blsOf, reduceCtorEq] at e
      rename_i i
      cases e2 : blsOf ds with
      | none => simp [e2] at e
      | some ms =>
        simp only [e2, Option.map_some, Option.some.injEq] at e
        subst e
        cases xs with
        | nil => simp at hl
        | cons x t =>
          obtain ⟨y, h1, h2⟩ := r 0 (.bl i) rfl
          simp at h1
          subst h1
          rw [h2.bl, ih (xs := t) e2 (by simpa using hl) fun j e q => by
            obtain ⟨z, h3, h4⟩ := r (j + 1) e (by simpa using q)
            exact ⟨z, by simpa using h3, h4⟩]
          rfl
  rw [s, key e hl r]
theorem RpL.intsMap {K : PySem.W.Frag} {mg : Str → Option Value} {ps : List Addr} {H : Hp} : ∀ (ns : List Int), RpL K mg ps H (ns.map D.int) (ns.map V.int)
  | [] => RpL.nil
  | n :: ns => RpL.cons Rp.int (RpL.intsMap ns)
end
theorem len_F (co : Co X B) : CallR X (.builtin "len") (rA B lenF) := by
  intro pins s σ H xs us Q I r h
  obtain ⟨hs, H0, xs', q, hps, there, cel, pl, e, out⟩ := h
  unfold lenF at e
  split at e
  · cases e
    obtain ⟨v, rfl, p⟩ := pl.one
    obtain ⟨a, ys, rfl, s1, rl⟩ := p.tup
    exact call_len pins s σ H _ us Q I r ⟨_, ys.length, rfl, .inr ⟨ys, by rw [co.K]; exact s1, rfl⟩, by rw [← rl.length]; exact out.int⟩
  · cases e
    obtain ⟨v, rfl, p⟩ := pl.one
    obtain ⟨a, ys, rfl, s1, hl, rl⟩ := p.lst
    exact call_len pins s σ H _ us Q I r ⟨_, ys.length, rfl, .inl ⟨ys, SqL.of s1, rfl⟩, by rw [← hl]; exact out.int⟩
  · cases e
    obtain ⟨v, rfl, p⟩ := pl.one
    obtain ⟨a, ys, rfl, s1, rl⟩ := Rp.frz_of (p.atom fun ds e => by cases e)
    exact call_len pins s σ H _ us Q I r ⟨_, ys.length, rfl, .inl ⟨ys, by rw [co.K]; exact sqL_le hid_leH s1, rfl⟩, by rw [← rl.length]; exact out.int⟩
  · cases e
    obtain ⟨v, rfl, p⟩ := pl.one
    obtain ⟨rfl, hl⟩ := p.str
    have := sizeLine_eq
    exact call_len pins s σ H _ us Q I r ⟨_, _, rfl, ⟨by omega, rfl⟩, out.int⟩
  · cases e
theorem int_F (co : Co X B) : CallR X (.type "int") (rA B intF) := by
  intro pins s σ H xs us Q I r h
  obtain ⟨hs, H0, xs', q, hps, there, cel, pl, e, out⟩ := h
  unfold intF at e
  split at e
  · cases e
    obtain ⟨v, rfl, p⟩ := pl.one
    cases p.int
    exact call_int1 pins s σ H _ us Q I r (.inl ⟨_, rfl, out.int⟩)
  · cases e
    obtain ⟨v, rfl, p⟩ := pl.one
    cases p.bl
    exact call_int1 pins s σ H _ us Q I r (.inr ⟨_, rfl, out.int⟩)
  · cases e
theorem abs_F (co : Co X B) : CallR X (.builtin "abs") (rA B absF) := by
  intro pins s σ H xs us Q I r h
  obtain ⟨hs, H0, xs', q, hps, there, cel, pl, e, out⟩ := h
  unfold absF at e
  split at e
  · cases e
    obtain ⟨v, rfl, p⟩ := pl.one
    cases p.int
    exact call_abs pins s σ H _ us Q I r ⟨_, rfl, out.int⟩
  · cases e
theorem foldl_top : ∀ (is : List Int) (i : Int), (is.foldl (fun a b => if b > a then b else a) i ∈ i :: is) ∧ ∀ y ∈ i :: is, y ≤ is.foldl (fun a b => if b > a then b else a) i
  | [], i => ⟨by simp, fun y h => by simp at h; subst h; exact Int.le_refl _⟩
  | j :: is, i => by
    obtain ⟨h1, h2⟩ := foldl_top is (if j > i then j else i)
    refine ⟨?_, fun y h => ?_⟩
    · rw [List.foldl_cons]
      rcases List.mem_cons.mp h1 with h | h
      · rw [h]
        split <;> simp
      · exact List.mem_cons_of_mem _ (List.mem_cons_of_mem _ h)
    · rw [List.foldl_cons]
      have h3 := h2 _ (List.mem_cons_self ..)
      have h5 : i ≤ (if j > i then j else i) ∧ j ≤ (if j > i then j else i) := by constructor <;> split <;> omega
      rcases List.mem_cons.mp h with h | h
      · rw [h]; exact Int.le_trans h5.1 h3
      · rcases List.mem_cons.mp h with h | h
        · rw [h]; exact Int.le_trans h5.2 h3
        · exact h2 y (List.mem_cons_of_mem _ h)
theorem foldl_bot : ∀ (is : List Int) (i : Int), (is.foldl (fun a b => if b < a then b else a) i ∈ i :: is) ∧ ∀ y ∈ i :: is, is.foldl (fun a b => if b < a then b else a) i ≤ y
  | [], i => ⟨by simp, fun y h => by simp at h; subst h; exact Int.le_refl _⟩
  | j :: is, i => by
    obtain ⟨h1, h2⟩ := foldl_bot is (if j < i then j else i)
    refine ⟨?_, fun y h => ?_⟩
    · rw [List.foldl_cons]
      rcases List.mem_cons.mp h1 with h | h
      · rw [h]
        split <;> simp
      · exact List.mem_cons_of_mem _ (List.mem_cons_of_mem _ h)
    · rw [List.foldl_cons]
      have h3 := h2 _ (List.mem_cons_self ..)
      have h5 : (if j < i then j else i) ≤ i ∧ (if j < i then j else i) ≤ j := by constructor <;> split <;> omega
      rcases List.mem_cons.mp h with h | h
      · rw [h]; exact Int.le_trans h3 h5.1
      · rcases List.mem_cons.mp h with h | h
        · rw [h]; exact Int.le_trans h3 h5.2
        · exact h2 y (List.mem_cons_of_mem _ h)
theorem max_F (co : Co X B) : CallR X (.builtin "max") (rA B maxF) := by
  intro pins s σ H xs us Q I r h
  obtain ⟨hs, H0, xs', q, hps, there, cel, pl, e, out⟩ := h
  unfold maxF at e
  split at e
  · cases e
    obtain ⟨v, w, rfl, p1, p2⟩ := pl.two
    cases p1.int; cases p2.int
    exact call_max2 co.calm pins s σ H _ us Q I r ⟨_, _, rfl, out.int⟩
  · split at e
    · rename_i i is e2
      cases e
      obtain ⟨v, rfl, p⟩ := pl.one
      obtain ⟨a, rfl, s1⟩ := p.ints e2
      refine cr_max co.calm pins s σ H _ us Q I r ⟨a, _, rfl, SqL.of s1, by simp, fun m h1 h2 => ?_⟩
      obtain ⟨h3, h4⟩ := foldl_top is i
      have : m = topOf (i :: is) := Int.le_antisymm (h4 m h1) (h2 _ h3)
      rw [this]
      exact out.int
    · cases e
  · cases e
theorem min_F (co : Co X B) : CallR X (.builtin "min") (rA B minF) := by
  intro pins s σ H xs us Q I r h
  obtain ⟨hs, H0, xs', q, hps, there, cel, pl, e, out⟩ := h
  unfold minF at e
  split at e
  · cases e
    obtain ⟨v, w, rfl, p1, p2⟩ := pl.two
    cases p1.int; cases p2.int
    exact call_min2 co.calm pins s σ H _ us Q I r ⟨_, _, rfl, out.int⟩
  · split at e
    · rename_i i is e2
      cases e
      obtain ⟨v, rfl, p⟩ := pl.one
      obtain ⟨a, rfl, s1⟩ := p.ints e2
      refine cr_min co.calm pins s σ H _ us Q I r ⟨a, _, rfl, SqL.of s1, by simp, fun m h1 h2 => ?_⟩
      obtain ⟨h3, h4⟩ := foldl_bot is i
      have : m = botOf (i :: is) := Int.le_antisymm (h2 _ h3) (h4 m h1)
      rw [this]
      exact out.int
    · cases e
  · cases e
theorem sum_F (co : Co X B) : CallR X (.builtin "sum") (rA B sumF) := by
  intro pins s σ H xs us Q I r h
  obtain ⟨hs, H0, xs', q, hps, there, cel, pl, e, out⟩ := h
  unfold sumF at e
  split at e
  · rename_i ds
    cases e2 : intsOf ds with
    | none => simp [e2] at e
    | some ns =>
      simp only [e2, Option.map_some, Option.some.injEq] at e
      subst e
      obtain ⟨v, rfl, p⟩ := pl.one
      obtain ⟨a, rfl, s1⟩ := p.ints e2
      exact cr_sum co.calm pins s σ H _ us Q I r ⟨a, ns, rfl, SqL.of s1, out.int⟩
  · cases e
theorem sorted_eq {ns ms : List Int} (h : ns.Perm ms) (hs : ns.Pairwise (· ≤ ·)) : ns = ms.mergeSort fun a b => decide (a ≤ b) := by
  have h1 : (ms.mergeSort fun a b => decide (a ≤ b)).Pairwise (· ≤ ·) := by
    have := List.pairwise_mergeSort (le := fun (a b : Int) => decide (a ≤ b)) (fun a b c h1 h2 => by simp at *; omega) (fun a b => by simp; omega) ms
    exact this.imp fun h => by simpa using h
  exact (h.trans (List.mergeSort_perm ms _).symm).eq_of_pairwise (fun a b _ _ h1 h2 => Int.le_antisymm h1 h2) hs h1
theorem sort_F (co : Co X B) : CallR X (.builtin "sorted") (rA B sortF) := by
  intro pins s σ H xs us Q I r h
  obtain ⟨hs, H0, xs', q, hps, there, cel, pl, e, out⟩ := h
  unfold sortF at e
  split at e
  · rename_i ds
    cases e2 : intsOf ds with
    | none => simp [e2] at e
    | some ns =>
      simp only [e2, Option.map_some, Option.some.injEq] at e
      subst e
      obtain ⟨v, rfl, p⟩ := pl.one
      obtain ⟨a, rfl, s1⟩ := p.ints e2
      refine cr_sortedI pins s σ H _ us Q I r ⟨a, ns, rfl, SqL.of s1, fun ns' q h1 h2 n => ?_⟩
      rw [sorted_eq h1 h2]
      exact out.lst hps (thereO there) (RpL.intsMap _) n
  · cases e
theorem tuple_F (co : Co X B) : CallR X (.type "tuple") (rA B tupleF) := by
  intro pins s σ H xs us Q I r h
  obtain ⟨hs, H0, xs', q, hps, there, cel, pl, e, out⟩ := h
  unfold tupleF at e
  split at e
  · cases e
    obtain ⟨v, rfl, p⟩ := pl.one
    have p0 := p
    obtain ⟨a, ys, rfl, s1, rl⟩ := p.tup
    exact call_tuple_of pins s σ H _ us Q I r ⟨a, ys, rfl, .inr ⟨by rw [co.K]; exact s1, out.same (show B.Rp _ _ _ _ from p0.atom fun ds e => by cases e)⟩⟩
  · split at e
    · rename_i hf
      cases e
      obtain ⟨v, rfl, p⟩ := pl.one
      obtain ⟨a, ys, rfl, s1, rl⟩ := p.lstFlat hf
      exact call_tuple_of pins s σ H _ us Q I r ⟨a, ys, rfl, .inl ⟨SqL.of s1, fun l n => out.tup (thereO there) rl n⟩⟩
    · cases e
  · cases e
theorem list_F (co : Co X B) : CallR X (.type "list") (rA B listF) := by
  intro pins s σ H xs us Q I r h
  obtain ⟨hs, H0, xs', q, hps, there, cel, pl, e, out⟩ := h
  unfold listF at e
  split at e
  · cases e
    obtain ⟨v, rfl, p⟩ := pl.one
    obtain ⟨a, ys, rfl, s1, rl⟩ := p.tup
    exact call_list_of pins s σ H _ us Q I r ⟨a, ys, rfl, .inr (by rw [co.K]; exact s1), fun l n => out.lst hps (thereO there) rl n⟩
  · split at e
    · rename_i hf
      cases e
      obtain ⟨v, rfl, p⟩ := pl.one
      obtain ⟨a, ys, rfl, s1, rl⟩ := p.lstFlat hf
      exact call_list_of pins s σ H _ us Q I r ⟨a, ys, rfl, .inl (SqL.of s1), fun l n => out.lst hps (thereO there) rl n⟩
    · cases e
  · cases e
theorem all_F (co : Co X B) : CallR X (.builtin "all") (rA B allF) := by
  intro pins s σ H xs us Q I r h
  obtain ⟨hs, H0, xs', q, hps, there, cel, pl, e, out⟩ := h
  unfold allF at e
  split at e
  · rename_i ds
    cases e2 : blsOf ds with
    | none => simp [e2] at e
    | some ns =>
      simp only [e2, Option.map_some, Option.some.injEq] at e
      subst e
      obtain ⟨v, rfl, p⟩ := pl.one
      obtain ⟨a, rfl, s1⟩ := p.bls e2
      exact cr_all co.calm pins s σ H _ us Q I r ⟨a, ns, rfl, SqL.of s1, out.bl⟩
  · cases e
theorem any_F (co : Co X B) : CallR X (.builtin "any") (rA B anyF) := by
  intro pins s σ H xs us Q I r h
  obtain ⟨hs, H0, xs', q, hps, there, cel, pl, e, out⟩ := h
  unfold anyF at e
  split at e
  · rename_i ds
    cases e2 : blsOf ds with
    | none => simp [e2] at e
    | some ns =>
      simp only [e2, Option.map_some, Option.some.injEq] at e
      subst e
      obtain ⟨v, rfl, p⟩ := pl.one
      obtain ⟨a, rfl, s1⟩ := p.bls e2
      exact cr_any co.calm pins s σ H _ us Q I r ⟨a, ns, rfl, SqL.of s1, out.bl⟩
  · cases e
theorem tyX_of {hs : Addr → Prop} {H0 H : Hp} {tg : Tg} {d : D} {v : V} {t : String} (cells : ∀ a ∈ B.ps, ∃ xs, H a = some (.lst xs)) (p : PV B hs H0 H tg d v) (e : d.tyName = some t) : TyX B.K H v (.type t) := by
  cases d <;> simp only [D.tyName, reduceCtorEq] at e <;> cases e
  · cases Rp.non_of (p.atom fun ds e => by cases e)
    exact .base .non
  · cases p.bl
    exact .base (.bl _)
  · cases p.int
    exact .base (.int _)
  · cases p.str.1
    exact .base (.str _)
  · obtain ⟨a, rfl, h⟩ := Rp.cell_of (p.atom fun ds e => by cases e)
    obtain ⟨xs, h⟩ := cells a (List.mem_of_getElem? h)
    exact .base (.lst h)
  · obtain ⟨a, xs, rfl, s, _⟩ := p.tupAt
    exact .base (.tup s)
  · obtain ⟨a, xs, rfl, s, _⟩ := p.lst
    exact .base (.lst s)
  · obtain ⟨a, xs, rfl, s, _⟩ := Rp.frz_of (p.atom fun ds e => by cases e)
    rcases sqL_le hid_leH s with (s | ⟨o, s⟩) | ⟨o, its, n, h1, h2, _⟩
    · exact .base (.lst s)
    · exact .base (.frz s)
    · exact .kList h1 h2
theorem anyKit_ok {K K' : PySem.W.Frag} {mg : Str → Option Value} {ps : List Addr} {H : Hp} {t : String} : ∀ {cs : List D} {xs : List V} {b : Bool}, anyKit t cs = some b → RpL K mg ps H cs xs → ∃ us, Paired ClsV xs us ∧ PySem.W.kitAny K' (.type t) us = some b
  | [], xs, b, e, h => by
    unfold RpL at h
    subst h
    cases e
    exact ⟨[], .nil, rfl⟩
  | d :: cs, xs, b, e, h => by
    unfold RpL at h
    obtain ⟨x, r, rfl, h1, h2⟩ := h
    cases d <;> simp only [anyKit, reduceCtorEq] at e
    rename_i n
    cases Rp.ty_of h1
    cases ek : kitB t n with
    | none => simp [ek] at e
    | some k =>
      simp only [ek] at e
      cases k with
      | true =>
        cases e2 : anyKit t cs with
        | none => simp [e2] at e
        | some b' =>
          simp [e2] at e
          subst e
          obtain ⟨us, p, q⟩ := anyKit_ok (K' := K') e2 h2
          exact ⟨_, .cons (.ty n) p, kitAny_cons (kit_ty ek) (fun z => by cases z) fun _ => rfl⟩
      | false =>
        obtain ⟨us, p, q⟩ := anyKit_ok (K' := K') e h2
        exact ⟨_, .cons (.ty n) p, kitAny_cons (kit_ty ek) (fun _ => q) fun z => by cases z⟩
theorem isi_F (co : Co X B) : CallR X (.builtin "isinstance") (rA B isiF) := by
  intro pins s σ H xs us Q I r h
  obtain ⟨hs, H0, xs', q, hps, there, cel, pl, e, out⟩ := h
  unfold isiF at e
  split at e
  · rename_i d _ n
    cases et : d.tyName with
    | none => simp [et] at e
    | some t =>
      cases ek : kitB t n with
      | none => simp [et, ek] at e
      | some b =>
        simp [et, ek] at e
        subst e
        obtain ⟨v, w, rfl, p1, p2⟩ := pl.two
        cases Rp.ty_of (p2.atom fun ds e => by cases e)
        exact call_isi pins s σ H _ us Q I r ⟨v, _, _, _, b, rfl, .ty n, by rw [co.K]; exact tyX_of cel p1 et, kit_ty ek, out.bl⟩
  · rename_i d _ cs
    cases et : d.tyName with
    | none => simp [et] at e
    | some t =>
      cases ek : anyKit t cs with
      | none => simp [et, ek] at e
      | some b =>
        simp [et, ek] at e
        subst e
        obtain ⟨v, w, rfl, p1, p2⟩ := pl.two
        obtain ⟨a, ys, rfl, s1, rl⟩ := p2.tupAt
        obtain ⟨ws, pc, pk⟩ := anyKit_ok (K' := X.K) ek rl
        have ty : TyX X.K H v (.type t) := by rw [co.K]; exact tyX_of cel p1 et
        exact call_isiT pins s σ H _ us Q I r ⟨v, a, ys, _, ws, b, rfl, s1, pc, ty, pk, out.bl⟩
  · cases e
variable {W : WX} {e : Expr} {es : List Expr} {ms : AS} {pos p : Pos} {x : Str}
theorem rA_of {f : List Vl → Option Vl} {σ : L2.St} {H : Hp} {Q : VK} (h : tE B W (appA ms f) σ H Q) : tA B W ms σ H (fun vs H1 => rA B f vs H1 Q) := by
  obtain ⟨env, cs, fp, S, h⟩ := h
  refine tA_core (t := fun H r => TEx B W fp σ H r Q) S (fun _ _ _ h => h) (fun h => h) h fun vs H1 xs c1 r e S1 sb p h1 => ?_
  exact ⟨hsOf B fp, H, xs, r, S1.ps, S1.hsomeN, fun a m => S1.cells.there m, p, e, TEx.out S1 (h1.from sb)⟩
/-- f(e, ..), f a built-in function -/
theorem pm_callB (co : Co X B) {id : String} {f : List Vl → Option Vl} (hc : CallR X (.builtin id) (rA B f)) (hg : Gl X x) (hm : B.mg x = none) (hv : bootBuiltins x = some (.builtin id)) (ha : PA X (e :: es) (tA B W ms)) (hn : x ≠ "__name__") (hdb : (x == ("__debug__" : Str)) = false)
    (he : starEach (e :: es) X.env = (false, eval e X.env) :: starEach es X.env) (hpl : (backTo pos (starEach es X.env)).any (·.1) = false) : PM X B W (.Call (.Name x p) (e :: es) [] pos) (appA ms f) :=
  .of co.K (PE.imp (pe_callB hc hg (by rw [co.mg]; exact hm) hv ha hn hdb he hpl) fun σ H Q h => rA_of h) fun _ => rfl
/-- T(e, ..), T a built-in type -/
theorem pm_callTy (co : Co X B) {T : String} {f : List Vl → Option Vl} (hc : CallR X (.type T) (rA B f)) (hg : Gl X x) (hm : B.mg x = none) (hv : bootBuiltins x = some (.type T)) (ha : PA X (e :: es) (tA B W ms)) (hn : x ≠ "__name__") (hdb : (x == ("__debug__" : Str)) = false)
    (he : starEach (e :: es) X.env = (false, eval e X.env) :: starEach es X.env) (hpl : (backTo pos (starEach es X.env)).any (·.1) = false) : PM X B W (.Call (.Name x p) (e :: es) [] pos) (appA ms f) :=
  .of co.K (PE.imp (pe_callTy hc hg (by rw [co.mg]; exact hm) hv ha hn hdb he hpl) fun σ H Q h => rA_of h) fun _ => rfl

/-! ### own defs -/
/-- what a def promises: on plain data that bear ds, in cells cs, it does g ds cs -/
def spOf (K : PySem.W.Frag) (mg : Str → Option Value) (n : Nat) (g : List D → Cells → Rs D) : Sp := fun vs H Q E => ∃ (ps : List Addr) (h0 : Addr → Prop) (cs : Cells) (ds : List D),
  ds.length = n ∧ (∀ a, a ∈ ps → h0 a) ∧ (∀ a, h0 a → ∃ o, H a = some o ∧ HO.nt o = true) ∧ CsR ⟨K, mg, ps, h0⟩ h0 H cs ∧ Pc.RpL K mg ps (hid H h0) ds vs ∧
  match g ds cs with
  | .ok d cs' => ∀ v H', SB ps H H' → CsR ⟨K, mg, ps, h0⟩ h0 H' cs' → Pc.Rp K mg ps (hid H' h0) d v → Q v H'
  | .exc x fs cs' => ∀ cls dd H', SB ps H H' → CsR ⟨K, mg, ps, h0⟩ h0 H' cs' → ExR ⟨K, mg, ps, h0⟩ h0 H' x fs cls dd → E cls dd H'
  | .bad => False
/-- a call: the arguments plain, then g -/
def sCall (n : Nat) (g : List D → Cells → Rs D) (ms : AS) : ES := fun env cs => match ms env cs with
  | .ok xs c => if xs.all (fun x => x.1.plain) = true ∧ xs.length = n then (match g (xs.map (·.2)) c with
    | .ok d c' => .ok (.st, d) c'
    | .exc x fs c' => .exc x fs c'
    | .bad => .bad) else .bad
  | .exc x fs c => .exc x fs c
  | .bad => .bad
/-- a def of the text -/
structure Df (X : Cx) (B : Bx) (f : Str) (ps : List Str) (g : List D → Cells → Rs D) : Prop where
  ex : ∃ (fa : Addr) (fd : FuncData) (k : Nat), FnOk X.prog X.w X.K X.mg X.base (L2.CX X.prog X.w) k fa fd ps (spOf X.K X.mg ps.length g) ∧ Room k X.A ∧ X.mg f = some (.ref fa) ∧ PySem.W.keepIn X.K (.ref fa) = true ∧ Binds X.K fd ps []
theorem CsR.re {B B' : Bx} {hs : Addr → Prop} {H : Hp} {cs : Cells} (hK : B.K = B'.K) (hm : B.mg = B'.mg) (hp : B.ps = B'.ps) (h : CsR B hs H cs) : CsR B' hs H cs := by
  obtain ⟨K, mg, ps, h0⟩ := B
  obtain ⟨K', mg', ps', h0'⟩ := B'
  simp only at hK hm hp
  subst hK hm hp
  exact ⟨h.len, h.nd, h.at_⟩
theorem sp_of {n : Nat} {g : List D → Cells → Rs D} {env : List Slot} {cs : Cells} {fp : Nat → List Addr} {σ : L2.St} {H H1 : Hp} {Q : VK} {xs : List Vl} {vs : List V} (S1 : StR B env cs fp σ H1) (sb : SB B.ps H H1) (p : PVL B (hsOf B fp) H H1 xs vs)
    (hp : xs.all (fun x => x.1.plain) = true) (hn : xs.length = n)
    (h : TEx B W fp σ H (match g (xs.map (·.2)) cs with | .ok d c' => .ok (.st, d) c' | .exc x fs c' => .exc x fs c' | .bad => .bad) Q) : spOf B.K B.mg n g vs H1 Q (fun cls d H => W cls d σ H) := by
  refine ⟨B.ps, hsOf B fp, cs, xs.map (·.2), by simp [hn], S1.ps, S1.hsomeN, CsR.re (B := B) rfl rfl rfl S1.cells, p.rp hp, ?_⟩
  have back : ∀ {H' : Hp} {c : Cells}, CsR ⟨B.K, B.mg, B.ps, hsOf B fp⟩ (hsOf B fp) H' c → CsR B (hsOf B fp) H' c := fun cc => ⟨cc.len, cc.nd, cc.at_⟩
  cases e : g (xs.map (·.2)) cs with
  | bad => rw [e] at h; exact h
  | exc x fs c => rw [e] at h; exact fun cls dd H' s cc ex => h cls dd H' (sb.trans s) (back cc) ex
  | ok d c => rw [e] at h; exact fun v H' s cc pv => h v H' (sb.trans s) (back cc) pv
theorem sCall_core {n : Nat} {g : List D → Cells → Rs D} {env : List Slot} {cs : Cells} {fp : Nat → List Addr} {σ : L2.St} {H : Hp} {Q : VK} (S : StR B env cs fp σ H) (h : TEx B W fp σ H (sCall n g ms env cs) Q) :
    tA B W ms σ H fun vs H1 => spOf B.K B.mg n g vs H1 Q (fun cls d H => W cls d σ H) := by
  refine ⟨env, cs, fp, S, ?_⟩
  unfold sCall at h
  cases e : ms env cs with
  | bad => rw [e] at h; exact h
  | exc x fs c => rw [e] at h; exact h
  | ok xs c =>
    simp only [e] at h
    split at h
    · rename_i hc
      exact fun vs H1 sb cc p => sp_of (S.next sb cc) sb p hc.1 hc.2 h
    · exact h.elim
theorem pm_call (co : Co X B) (tk : Takes X W) {f : Str} {ps : List Str} {g : List D → Cells → Rs D} (F : Df X B f ps g) (hg : Gl X f) (ha : PA X (e :: es) (tA B W ms)) (hdb : (f == ("__debug__" : Str)) = false)
    (he : starEach (e :: es) X.env = (false, eval e X.env) :: starEach es X.env) (hpl : (backTo pos (starEach es X.env)).any (·.1) = false) : PM X B W (.Call (.Name f p) (e :: es) [] pos) (sCall ps.length g ms) := by
  obtain ⟨fa, fd, k, F, hr, hm, hk, hb⟩ := F.ex
  refine .of co.K (PE.imp (pe_callSD (E := WE W) F hr hg hm hk hb .nil (fun σ => passAt tk σ) ha hdb he hpl) fun σ H Q ⟨env, cs, fp, S, h⟩ => ?_) fun _ => rfl
  have q := sCall_core S h
  rw [← co.K, ← co.mg] at q
  show tA B W ms σ H fun vs H1 => spOf X.K X.mg ps.length g (vs ++ []) H1 Q (WE W σ)
  simpa only [List.append_nil] using q
end
end Pc

set_option Elab.async false
set_option maxRecDepth 100000
set_option maxHeartbeats 4000000
namespace Pc
open PySem PySem.Spec PyProof.Rows L2

/-! ### further calls -/
section
variable {X : Cx} {B : Bx} {W : WX} {e : Expr} {es : List Expr} {ms : AS} {p pos : Pos}
theorem pm_call0 (co : Co X B) (tk : Takes X W) {f : Str} {g : List D → Cells → Rs D} (F : Df X B f [] g) (hg : Gl X f) (hdb : (f == ("__debug__" : Str)) = false) : PM X B W (.Call (.Name f p) [] [] pos) (sCall 0 g aNil) := by
  obtain ⟨fa, fd, k, F, hr, hm, hk, hb⟩ := F.ex
  refine .of co.K ⟨fun pins s σ H Q I ⟨env, cs, fp, S, h⟩ => ?_⟩ fun _ => rfl
  have q := sCall_core S h
  rw [← co.K, ← co.mg] at q
  obtain ⟨env', cs', fp', S', q⟩ := q
  have q : spOf X.K X.mg 0 g [] H Q (WE W σ) := q [] H SB.refl S'.cells rfl
  refine wpAny_Call_Name_kw (ld_glob I hg hm ?_ hdb)
  exact PySem.W.callWith_K0 I.kIn hk (run_fnSD (us := []) (E := WE W) F hr hb .nil (passAt tk σ) I .nil q)
/-- f(..), f a local that holds one of the defs fs -/
def sCallv (n i : Nat) (fs : List Str) (call : Str → List D → Cells → Rs D) (ms : AS) : ES := fun env cs => match env[i]? with
  | some (.sh (.fn f)) => if fs.contains f = true then sCall n (call f) ms env cs else .bad
  | _ => .bad
theorem pm_callv (co : Co X B) (tk : Takes X W) {call : Str → List D → Cells → Rs D} {x : Str} {n i : Nat} {fs : List Str} (hA : ∀ f ∈ fs, ∃ ps, Df X B f ps (call f) ∧ ps.length = n)
    (hN : X.N[i]? = some x) (hv : Vis X.env.scope x) (ha : PA X (e :: es) (tA B W ms)) (hdb : (x == ("__debug__" : Str)) = false) (hcd : (x == ("__classdict__" : Str)) = false)
    (he : starEach (e :: es) X.env = (false, eval e X.env) :: starEach es X.env) (hpl : (backTo pos (starEach es X.env)).any (·.1) = false) : PM X B W (.Call (.Name x p) (e :: es) [] pos) (sCallv n i fs call ms) := by
  refine .of co.K ⟨fun pins s σ H Q I ⟨env, cs, fp, S, h⟩ => ?_⟩ fun _ => rfl
  unfold sCallv at h
  split at h
  case h_2 => exact h.elim
  rename_i f es'
  split at h
  case isFalse => exact h.elim
  rename_i hf
  obtain ⟨ps, F, hn⟩ := hA f (by simpa using hf)
  obtain ⟨fa, fd, k, F, hr, hm, hk, hb⟩ := F.ex
  obtain ⟨_, v, e1, r⟩ := S.slot i _ es'
  obtain ⟨a, rfl, hm'⟩ := Rp.fn_of r
  have ea : a = fa := by
    rw [← co.mg, hm] at hm'
    cases hm'
    rfl
  subst ea
  subst hn
  have hq := sCall_core S h
  rw [← co.K, ← co.mg] at hq
  refine wpAny_Call_Name_kw (thn ((pe_var (pos := p) hN hv hdb hcd).run pins s σ H (fun v H1 => v = .ref a ∧ H1 = H) I ⟨.ref a, e1, rfl, rfl⟩) fun u s1 ⟨v, H1, I1, r1, q1⟩ => ?_)
  obtain ⟨rfl, rfl⟩ := q1
  cases r1
  refine PySem.W.callWith_K (h₀ := X.base) I1.ok.mod.kin hk (thn (ha.run pos pins s1 σ _ _ I1 hq) fun us s2 ⟨vs, H2, I2, r, q⟩ => ⟨I2.kIn, ?_⟩) he hpl
  exact run_fnSD (E := WE W) F hr hb .nil (passAt tk σ) I2 r (by rw [List.append_nil]; exact q)
/-! keywords -/
theorem pk_n (co : Co X B) : PK X [] (tA B W aNil) := ⟨fun pos pins s σ H Q I ⟨env, cs, fp, S, h⟩ => pk_nil.run pos pins s σ H Q I (h [] H SB.refl S.cells rfl)⟩
theorem tA_cons {ma : ES} {σ : L2.St} {H : Hp} {Q : List V → Hp → Prop} (h : tA B W (aCons ma ms) σ H Q) : tCons (tE B W ma) (tA B W ms) σ H Q := by
  obtain ⟨env, cs, fp, S, h⟩ := h
  refine ⟨env, cs, fp, S, ?_⟩
  unfold aCons at h
  cases e1 : ma env cs with
  | bad => rw [e1] at h; exact h
  | exc x fs c => rw [e1] at h; exact h
  | ok x c =>
    simp only [e1] at h
    intro v H1 sb cc p
    refine ⟨env, c, fp, S.next sb cc, ?_⟩
    cases e2 : ms env c with
    | bad => simp only [e2] at h; exact h
    | exc y fs c' => simp only [e2] at h; exact fun cls dd H' s => h cls dd H' (sb.trans s)
    | ok xs c' =>
      simp only [e2] at h
      exact fun vs H' s cc' p' => h _ H' (sb.trans s) cc' ⟨v, vs, rfl, p.next S.ps s, p'.ahead sb⟩
theorem pk_c {ma : ES} {nm : Option Str} {kp : Pos} {kws : List Keyword} (co : Co X B) (ha : PM X B W e ma) (hr : PK X kws (tA B W ms)) : PK X (⟨nm, e, kp⟩ :: kws) (tA B W (aCons ma ms)) :=
  ⟨fun pos pins s σ H Q I h => (pk_cons ha.pe hr).run pos pins s σ H Q I (tA_cons h)⟩
def kwNames : List Keyword → Option (List Str)
  | [] => some []
  | ⟨some x, _, _⟩ :: r => (kwNames r).map (x :: ·)
  | ⟨none, _, _⟩ :: _ => none
theorem kw_all {env : Env} : ∀ {kws : List Keyword} {ks : List Str}, kwNames kws = some ks → (backToKw pos (keywordEach kws env)).all (·.1.isSome) = true ∧ (backToKw pos (keywordEach kws env)).filterMap (·.1) = ks ∧ (backToKw pos (keywordEach kws env)).any (·.1.isNone) = false
  | [], ks, h => by cases h; exact ⟨rfl, rfl, rfl⟩
  | ⟨none, _, _⟩ :: _, ks, h => by cases h
  | ⟨some x, e, kp⟩ :: r, ks, h => by
    unfold kwNames at h
    cases er : kwNames r with
    | none => rw [er] at h; cases h
    | some ks' =>
      rw [er] at h
      cases h
      obtain ⟨h1, h2, h3⟩ := kw_all (env := env) er
      refine ⟨?_, ?_, ?_⟩
      · show (true && _) = true; rw [Bool.true_and]; exact h1
      · show x :: _ = _; rw [← h2]; rfl
      · show (false || _) = false; rw [Bool.false_or]; exact h3
/-- a def that may be called by its parameters' names -/
structure Dk (X : Cx) (B : Bx) (f : Str) (ps : List Str) (g : List D → Cells → Rs D) : Prop where
  ex : ∃ (fa : Addr) (fd : FuncData) (k : Nat), FnOk X.prog X.w X.K X.mg X.base (L2.CX X.prog X.w) k fa fd ps (spOf X.K X.mg ps.length g) ∧ Room k X.A ∧ X.mg f = some (.ref fa) ∧ PySem.W.keepIn X.K (.ref fa) = true ∧
    ∀ (s : Shared) (ws : List Value), X.K.In s.heap → ws.length = ps.length → BindsTo s fd ⟨[], ps.zip ws⟩ (ps.zip ws)
theorem pm_callk (co : Co X B) (tk : Takes X W) {f : Str} {ps : List Str} {g : List D → Cells → Rs D} {kws : List Keyword} (F : Dk X B f ps g) (hg : Gl X f) (ha : PK X kws (tA B W ms)) (hdb : (f == ("__debug__" : Str)) = false) (hks : kwNames kws = some ps) :
    PM X B W (.Call (.Name f p) [] kws pos) (sCall ps.length g ms) := by
  obtain ⟨fa, fd, k, F, hr, hm, hk, hb⟩ := F.ex
  refine .of co.K ⟨fun pins s σ H Q I ⟨env, cs, fp, S, h⟩ => ?_⟩ fun _ => rfl
  have hq := sCall_core S h
  rw [← co.K, ← co.mg] at hq
  obtain ⟨k1, k2, k3⟩ := kw_all (pos := pos) (env := X.env) hks
  refine wpAny_Call_Name_kw (ld_glob I hg hm ?_ hdb)
  refine PySem.W.callWith_KW0 (h₀ := X.base) I.ok.mod.kin hk k1 (thn (ha.run pos pins s σ H _ I hq) fun ws s2 ⟨zs, H2, I2, rz, q2⟩ => ⟨I2.kIn, ?_⟩) (by rw [k3]; rfl)
  rw [k2]
  have hl : ws.length = ps.length := by rw [← rz.length]; exact F.len _ _ _ _ q2
  refine wpAny_call (codeAny_mono (F.run X.A X.stack s2 H2 ⟨[], ps.zip ws⟩ ws zs Q (WE W σ) hr I2.env0 (hb s2 ws I2.kIn hl) rz q2) fun r s' hq => ?_)
  cases r with
  | error e => exact (passAt tk σ) pins H2 s2 e s' I2 hq
  | ok fl =>
    cases fl with
    | ret u => exact I2.after hq
    | next => exact False.elim hq
    | brk => exact False.elim hq
    | cont => exact False.elim hq
end
end Pc

set_option Elab.async false
set_option maxRecDepth 100000
set_option maxHeartbeats 4000000
namespace Pc
open PySem PySem.Spec PyProof.Rows L2 PySem.PcX

/-! ### errors as values: made, asked, read -/
theorem relO_one {v : V} {v' : Value} (r : RelV v v') (g f : Str) : RelO (List.lookup f [(g, v)]) (if f = g then some v' else none) := by
  by_cases h : f = g
  · subst h
    rw [if_pos rfl, show List.lookup f [(f, v)] = some v by simp [List.lookup]]
    exact r
  · have hb : (f == g) = false := by simpa using h
    rw [if_neg h, show List.lookup f [(g, v)] = none by simp [List.lookup, hb]]
    trivial
section
variable {X : Cx} {B : Bx} {W : WX} {C F fI : Addr} {xn f : Str} {qual : String} {pins : List (Addr × Obj)} {σ : L2.St} {H : Hp} {s : Shared}
/-- a new error with a field is tracked -/
theorem inv_made {h' : Heap} {tk : Nat} {e d : Addr} {v : V} {v' : Value} (I : Inv X pins σ H s) (M : MadeX f s.heap h' e C d v') (rv : RelV v v') :
    H d = none ∧ H e = none ∧ e ≠ d ∧ Inv X pins σ (upd (upd H d (.xd [(f, v)])) e (exH C (some d) e)) { s with heap := h', toks := tk } := by
  obtain ⟨oe, fv, hoe, hc, hd, hdat, h1⟩ := M.obj
  have hns := M.ns
  obtain ⟨G', g1, g2⟩ := restrict h' fun b => decide (b ≠ e)
  have gk : ∀ b, b ≠ e → G'.get? b = h'.get? b := fun b hb => g1 b (decide_eq_true hb)
  have ge : G'.get? e = none := g2 e (by simp)
  have old : ∀ b o, s.heap.get? b = some o → G'.get? b = some o := fun b o q => (gk b (Nat.ne_of_lt (Nat.lt_of_lt_of_le (Heap.lt_size q) M.new))).trans (M.keep b o q)
  have ob : ObjOk X.prog X.w (upd H d (.xd [(f, v)])) G' d (.xd [(f, v)]) := ⟨_, hns.at (fun o q => (gk d M.dne).trans q), fun g => relO_one rv f g⟩
  have J : Inv X pins σ (upd H d (.xd [(f, v)])) { s with heap := G', toks := tk } := I.laid (t' := tk) old M.dbig ob
  have he : upd H d (.xd [(f, v)]) e = none := by
    rw [upd_ne (Ne.symm M.dne)]
    exact I.hok.fresh M.new
  refine ⟨I.hok.fresh M.dbig, I.hok.fresh M.new, Ne.symm M.dne, J.laidN (h' := h') (t' := tk) (fun b o q => ?_) ge he (exH_ok hoe ⟨hc, hd⟩ hdat h1)⟩
  by_cases hb : b = e
  · have q' : G'.get? b = some o := q
    rw [hb, ge] at q'; cases q'
  · exact (gk b hb).symm.trans q
def mkF (c : Str) (m : List (Str × Bool)) (b : List (String × Bool)) (f : Str) : List Vl → Option Vl
  | [y] => if y.1.plain = true then some (.st, .obj c m b [f] [y.2]) else none
  | _ => none
/-- what stands behind the making -/
theorem mk_out {c : Str} {m : List (Str × Bool)} {b : List (String × Bool)} {vs : List V} {Q : VK} (hm : B.mg c = some (.ref C)) (k : ClsD B.K B.mg c C m b [f]) (h : rA B (mkF c m b f) vs H Q) :
    ∃ v, vs = [v] ∧ ∀ d e, H d = none → H e = none → e ≠ d → Q (.ref e) (upd (upd H d (.xd [(f, v)])) e (exH C (some d) e)) := by
  obtain ⟨hs, H0, xs', q, hps, there, cel, pl, e, out⟩ := h
  match xs', pl, e with
  | [], _, e => cases e
  | _ :: _ :: _, _, e => cases e
  | [y], pl, e =>
    simp only [mkF] at e
    split at e
    case isFalse => cases e
    rename_i hp
    cases e
    obtain ⟨v, rfl, pv⟩ := pl.one
    refine ⟨v, rfl, fun d e nd ne hne => ?_⟩
    have hfree : ∀ a, H a = none → ¬ hs a := fun a na z => by
      obtain ⟨o, e, _⟩ := there a z
      rw [na] at e; cases e
    have ne1 : upd H d (.xd [(f, v)]) e = none := by rw [upd_ne hne]; exact ne
    have le : Le H (upd (upd H d (.xd [(f, v)])) e (exH C (some d) e)) := fun a o q => upd_le ne1 a o (upd_le nd a o q)
    have le2 : Le (hid H hs) (hid (upd (upd H d (.xd [(f, v)])) e (exH C (some d) e)) hs) := hid_le (fun _ h => h) fun a o _ q => le a o q
    refine out _ _ le (show B.Rp _ hs _ _ from Rp.obj (fs := [(f, v)]) hm k (hid_some.mpr ⟨hfree e ne, upd_same⟩) rfl (.inr ⟨d, rfl, hid_some.mpr ⟨hfree d nd, ?_⟩⟩) (RpL.cons (Rp.mono le2 _ _ (pv.rp hp)) RpL.nil))
    rw [upd_ne hne.symm, upd_same]
def sNew (cl : Option D) (ms : AS) : ES := match cl with
  | some (.cls c m b [f]) => appA ms (mkF c m b f)
  | _ => fun _ _ => .bad
def sNewK (cl : Option D) (g : Str) (ms : AS) : ES := match cl with
  | some (.cls c m b [f]) => if f = g then appA ms (mkF c m b f) else fun _ _ => .bad
  | _ => fun _ _ => .bad
def sNew0 (cl : Option D) : ES := match cl with
  | some (.cls c m b []) => fun _ cs => .ok (.st, .obj c m b [] []) cs
  | _ => fun _ _ => .bad
/-- the name x stands for the class that cl tells of -/
def ClsAt (B : Bx) (x : Str) (cl : D) : Prop := ∃ u v, B.mg x = some u ∧ RelV v u ∧ ∀ ps H, Rp B.K B.mg ps H cl v
theorem ClsAt.get {x c : Str} {m : List (Str × Bool)} {b : List (String × Bool)} {ks : List Str} (h : ClsAt B x (.cls c m b ks)) : ∃ C, B.mg x = some (.ref C) ∧ B.mg c = some (.ref C) ∧ ClsD B.K B.mg c C m b ks := by
  obtain ⟨u, v, h1, h2, h3⟩ := h
  obtain ⟨C, rfl, h4, h5⟩ := Rp.cls_of (h3 [] fun _ => none)
  cases h2
  exact ⟨C, h1, h4, h5⟩
theorem bad_no {e : Expr} {σ : L2.St} {Q : VK} (h : tE B W (fun _ _ => .bad) σ H Q) : False := by
  obtain ⟨_, _, _, _, h⟩ := h
  exact h
theorem pm_new (co : Co X B) {k : Nat} (hr : Room k X.A) {x : Str} {cl : D} {ms : AS} {e : Expr} {es : List Expr} {p pos : Pos} (hcl : ClsAt B x cl) (hg : Gl X x) (hdb : (x == ("__debug__" : Str)) = false) (ha : PA X (e :: es) (tA B W ms))
    (he : starEach (e :: es) X.env = (false, eval e X.env) :: starEach es X.env) (hpl : (backTo pos (starEach es X.env)).any (·.1) = false) : PM X B W (.Call (.Name x p) (e :: es) [] pos) (sNew (some cl) ms) := by
  refine .of co.K ⟨fun pins s σ H Q I h => ?_⟩ fun _ => rfl
  unfold sNew at h
  split at h
  case h_2 => exact (bad_no (e := e) h).elim
  rename_i c m b f hc
  cases hc
  obtain ⟨C, gC, hm, k⟩ := hcl.get
  obtain ⟨qual, F, fI, T⟩ := k.made
  rw [← co.mg] at gC
  refine wpAny_Call_Name_kw (ld_glob I hg gC ?_ hdb)
  refine PySem.W.callWith_K (h₀ := X.base) I.ok.mod.kin (by rw [co.K]; exact T.kC) (thn (ha.run pos pins s σ H _ I (rA_of h)) fun us s1 hh => ?_) he hpl
  obtain ⟨vs, H1, I1, r1, q1⟩ := hh
  refine ⟨I1.kIn, ?_⟩
  obtain ⟨v, rfl, q2⟩ := mk_out hm k q1
  cases r1 with
  | cons rv rn =>
    rename_i v' us'
    cases rn
    show wpAny _ _ (call (.ref C) [v']) _ _ _
    have G : s1.heap.Ns mainGlobals B.mg := by rw [← co.mg]; exact I1.ok.mod.glob.keeps I1.bk
    refine wpAny_call (bad_made T (.inl ⟨rfl, rfl⟩) (by rw [← co.K]; exact I1.kIn) G I1.nolimit (by have := hr.dp; omega) fun h' tk' e d M => ?_)
    obtain ⟨nd, ne, hne, J⟩ := inv_made (tk := tk') I1 M rv
    exact ⟨.ref e, _, J, rfl, q2 d e nd ne hne⟩
theorem pm_newK (co : Co X B) {k : Nat} (hr : Room k X.A) {x g : Str} {cl : D} {ms : AS} {kws : List Keyword} {p pos : Pos} (hcl : ClsAt B x cl) (hg : Gl X x) (hdb : (x == ("__debug__" : Str)) = false) (ha : PK X kws (tA B W ms)) (hks : kwNames kws = some [g]) :
    PM X B W (.Call (.Name x p) [] kws pos) (sNewK (some cl) g ms) := by
  refine .of co.K ⟨fun pins s σ H Q I h => ?_⟩ fun _ => rfl
  unfold sNewK at h
  split at h
  case h_2 => exact (bad_no (e := .Name x p) h).elim
  rename_i c m b f hc
  cases hc
  split at h
  case isFalse => exact (bad_no (e := .Name x p) h).elim
  rename_i hfg
  subst hfg
  obtain ⟨C, gC, hm, k⟩ := hcl.get
  obtain ⟨qual, F, fI, T⟩ := k.made
  rw [← co.mg] at gC
  obtain ⟨k1, k2, k3⟩ := kw_all (pos := pos) (env := X.env) hks
  refine wpAny_Call_Name_kw (ld_glob I hg gC ?_ hdb)
  refine PySem.W.callWith_KW0 (h₀ := X.base) I.ok.mod.kin (by rw [co.K]; exact T.kC) k1 (thn (ha.run pos pins s σ H _ I (rA_of h)) fun us s1 hh => ?_) (by rw [k3]; rfl)
  obtain ⟨vs, H1, I1, r1, q1⟩ := hh
  refine ⟨I1.kIn, ?_⟩
  rw [k2]
  obtain ⟨v, rfl, q2⟩ := mk_out hm k q1
  cases r1 with
  | cons rv rn =>
    rename_i v' us'
    cases rn
    have G : s1.heap.Ns mainGlobals B.mg := by rw [← co.mg]; exact I1.ok.mod.glob.keeps I1.bk
    refine wpAny_call (bad_made T (.inr ⟨rfl, rfl⟩) (by rw [← co.K]; exact I1.kIn) G I1.nolimit (by have := hr.dp; omega) fun h' tk' e d M => ?_)
    obtain ⟨nd, ne, hne, J⟩ := inv_made (tk := tk') I1 M rv
    exact ⟨.ref e, _, J, rfl, q2 d e nd ne hne⟩
theorem pm_new0 (co : Co X B) {k : Nat} (hr : Room k X.A) {x : Str} {cl : D} {p pos : Pos} (hcl : ClsAt B x cl) (hg : Gl X x) (hdb : (x == ("__debug__" : Str)) = false) : PM X B W (.Call (.Name x p) [] [] pos) (sNew0 (some cl)) := by
  refine .of co.K ⟨fun pins s σ H Q I h => ?_⟩ fun _ => rfl
  unfold sNew0 at h
  split at h
  case h_2 => exact (bad_no (e := .Name x p) h).elim
  rename_i c m b hc
  cases hc
  obtain ⟨env, cs, fp, S, h⟩ := h
  have out := TEx.out S h
  obtain ⟨C, gC, hm, k⟩ := hcl.get
  obtain ⟨qual, F, fI, T⟩ := k.made
  rw [← co.mg] at gC
  refine wpAny_Call_Name_kw (ld_glob I hg gC ?_ hdb)
  refine PySem.W.callWith_K0 I.kIn (by rw [co.K]; exact T.kC) ?_
  have G : s.heap.Ns mainGlobals B.mg := by rw [← co.mg]; exact I.ok.mod.glob.keeps I.bk
  refine wpAny_call (no_made T (by rw [← co.K]; exact I.kIn) G I.nolimit (by have := hr.dp; omega) fun h' tk' e t1 kk big he => ?_)
  have ne : H e = none := I.hok.fresh big
  have nh : ¬ hsOf B fp e := fun z => by
    obtain ⟨o, q⟩ := S.there z
    rw [ne] at q; cases q
  refine ⟨.ref e, upd H e (exH C none e), I.laid (t' := tk') kk big (exH_ok he ⟨rfl, rfl⟩ rfl rfl), rfl, out _ _ (upd_le ne) (show B.Rp _ _ _ _ from Rp.obj (fs := []) hm k (hid_some.mpr ⟨nh, upd_same⟩) rfl (.inl ⟨rfl, rfl⟩) RpL.nil)⟩
/-! e.f -/
def attrD (f : Str) : Vl → Option Vl
  | (_, .obj _ _ _ ks ds) => ((ks.zip ds).lookup f).map fun d => (.st, d)
  | _ => none
theorem zip_look {K : PySem.W.Frag} {mg : Str → Option Value} {ps : List Addr} {H : Hp} : ∀ {fs : List (Str × V)} {ds : List D} {d : D}, RpL K mg ps H ds (fs.map (·.2)) → ((fs.map (·.1)).zip ds).lookup f = some d → ∃ v, fs.lookup f = some v ∧ Rp K mg ps H d v ∧ f ∈ fs.map (·.1)
  | [], ds, d, r, e => by cases e
  | (g, y) :: fs, ds, d, r, e => by
    cases ds with
    | nil => cases e
    | cons d0 ds =>
      unfold RpL at r
      obtain ⟨x, t, e1, r1, r2⟩ := r
      cases e1
      rw [List.map_cons, List.zip_cons_cons, List.lookup_cons] at e
      by_cases h : f = g
      · subst h
        simp at e
        subst e
        exact ⟨y, by simp [List.lookup], r1, List.mem_cons_self ..⟩
      · have hb : (f == g) = false := by simpa using h
        rw [hb] at e
        obtain ⟨v, h1, h2, h3⟩ := zip_look r2 e
        exact ⟨v, by simp [List.lookup, hb, h1], h2, List.mem_cons_of_mem _ h3⟩
theorem mk_fld {K : PySem.W.Frag} {mg : Str → Option Value} {c : Str} {ks : List Str} (k : MkC K mg c C ks) (h : f ∈ ks) : ∃ qual F fI, BadT K mg c f qual C F fI := by
  match ks, k, h with
  | [], _, h => cases h
  | [g], k, h =>
    cases List.mem_singleton.mp h
    exact k
  | _ :: _ :: _, k, _ => exact k.elim
theorem pm_attr (co : Co X B) {a : Expr} {ma : ES} {pos : Pos} (ha : PM X B W a ma) (hb : attributeBase a f X.env (eval a X.env) = eval a X.env) : PM X B W (.Attribute a f pos) (sUn (attrD f) ma) := by
  refine .of co.K ⟨fun pins s σ H Q I h => ?_⟩ fun _ => rfl
  obtain ⟨env, cs, fp, S, h⟩ := h
  have q := tE_bnd S h (R := fun v H1 => ∃ (e C dd : Addr) (fs : List (Str × V)) (y : V), v = .ref e ∧ H1 e = some (exH C (some dd) e) ∧ H1 dd = some (.xd fs) ∧ fs.lookup f = some y ∧ (∃ c qual F fI, BadT B.K B.mg c f qual C F fI) ∧ Q y H1) fun v H1 tg d c1 S1 sb p h1 => by
    obtain ⟨r, er, out⟩ := lift_out S1 h1
    unfold attrD at er
    split at er
    case h_2 => cases er
    rename_i t0 c m b ks ds heq
    cases heq
    cases el : (ks.zip ds).lookup f with
    | none => rw [el] at er; cases er
    | some d =>
      rw [el] at er
      cases er
      obtain ⟨a, C, d', fs, rfl, hm, k, hH, rfl, hd, rl⟩ := Rp.obj_of (p.atom fun ds e => by cases e)
      obtain ⟨y, h1, h2, h3⟩ := zip_look rl el
      rcases hd with ⟨_, rfl⟩ | ⟨dd, rfl, hx⟩
      · cases h1
      exact ⟨a, C, dd, fs, y, rfl, hid_leH _ _ hH, hid_leH _ _ hx, h1, ⟨c, mk_fld k.made h3⟩, out _ _ (fun _ _ e => e) h2⟩
  refine attr_of hb (thn (ha.pe.run pins s σ H _ I q) fun u s1 hh => ?_)
  obtain ⟨v, H1, I1, rx, e, C, dd, fs, y, rfl, hH, hx, hl, ⟨c, qual, F, fI, T⟩, qq⟩ := hh
  obtain rfl : u = Value.ref e := rx
  obtain ⟨oe, vs, hoe, hz, hdat⟩ := exH_at I1.hok hH
  obtain ⟨mA, hns, hr⟩ := (show ObjOk X.prog X.w H1 s1.heap dd (.xd fs) from I1.hok dd _ hx)
  obtain ⟨od, ho, hlk⟩ := lookIn_ns hns
  obtain ⟨u, hu, ru⟩ := RelO.some_of (v := y) (o := mA f) (by rw [← hl]; exact hr f)
  have J : PySem.W.InstAt s1.heap e oe C (some od) := ⟨hoe, hz.1, by unfold PySem.W.notCls; rw [hdat] <;> rfl, by rw [hz.2]; exact ho⟩
  exact HandSPX.exc_get (K := B.K) (by rw [← co.K]; exact I1.kIn) J T.ga T.gg T.exC (PySem.W.findObj_own T.hdC T.noN rfl (by rw [hlk, hu])) (handed_of ru) ⟨y, H1, I1.tok _, ru, qq⟩
/-! isinstance -/
def isxF : List Vl → Option Vl
  | [(_, .obj _ m _ _ _), (_, .cls y _ _ _)] => (m.lookup y).map fun r => (.st, .bl r)
  | [(_, .obj _ m _ _ _), (_, .fn y)] => (m.lookup y).map fun r => (.st, .bl r)
  | [(_, .obj _ _ b _ _), (_, .ty n)] => (b.lookup n).map fun r => (.st, .bl r)
  | _ => none
theorem isx_F (co : Co X B) : CallR X (.builtin "isinstance") (rA B isxF) := by
  intro pins s σ H xs us Q I r h
  obtain ⟨hs, H0, xs', q, hps, there, cel, pl, e, out⟩ := h
  have main : ∀ {e C : Addr} {d : Option Addr} {fs : List (Str × V)} {cv : Value} {b : Bool}, H e = some (exH C d e) → ((d = none ∧ fs = []) ∨ ∃ dd, d = some dd ∧ H dd = some (.xd fs)) → ExcC B.K C → PySem.W.kitOne B.K (.ref C) cv = some b → Q (.bl b) H →
      wpAny (model X.prog X.w) X.A (PySem.call (.builtin "isinstance") [.ref e, cv]) (EP X pins σ Q) X.xe s := fun {e C d fs cv b} hH hd ec hk hq => by
    obtain ⟨oe, vs, hoe, hz, hdat⟩ := exH_at I.hok hH
    have hn : PySem.W.notCls oe = true := by unfold PySem.W.notCls; rw [hdat] <;> rfl
    have hc : (PySem.W.clsIn B.K C).isSome = true := by
      obtain ⟨cd, z, _⟩ := PySem.W.any_some ec.hd
      rw [z]
      rfl
    have J : ∃ od, PySem.W.InstAt s.heap e oe C od := by
      rcases hd with ⟨rfl, _⟩ | ⟨dd, rfl, hx⟩
      · exact ⟨none, hoe, hz.1, hn, by rw [hz.2]; trivial⟩
      · obtain ⟨mA, hns, hr⟩ := (show ObjOk X.prog X.w H s.heap dd (.xd fs) from I.hok dd _ hx)
        obtain ⟨od, ho, _⟩ := lookIn_ns hns
        exact ⟨some od, hoe, hz.1, hn, by rw [hz.2]; exact ho⟩
    obtain ⟨od, J⟩ := J
    exact PySem.W.kia_one (K := B.K) (PySem.W.kitx_exc (C := C) (ox := oe) (od := od) hc ec.hg ec.hk ec.hs ec.ha ec.hn ec.ht ec.hm) (by rw [← co.K]; exact I.kIn) J hk (fun z => nomatch z) fun tk => ⟨.bl b, H, I.tok tk, rfl, hq⟩
  unfold isxF at e
  split at e
  · rename_i c m bs ks ds t2 y m2 b2 k2
    cases el : m.lookup y with
    | none => rw [el] at e; cases e
    | some b =>
      rw [el] at e
      cases e
      obtain ⟨v, w, rfl, p1, p2⟩ := pl.two
      obtain ⟨a, C, d', fs, rfl, hm, k, hH, rfl, hd, rl⟩ := Rp.obj_of (p1.atom fun ds e => by cases e)
      obtain ⟨C2, rfl, hm2, _⟩ := Rp.cls_of (p2.atom fun ds e => by cases e)
      obtain ⟨Y, hY, hk, _⟩ := k.is.own y b el
      rw [hm2] at hY
      cases hY
      obtain ⟨u1, u2, rfl, r1, r2⟩ := vals2 r
      cases r1
      cases r2
      exact main (hid_leH _ _ hH) (hd.imp id fun ⟨dd, z1, z2⟩ => ⟨dd, z1, hid_leH _ _ z2⟩) k.is.ec hk out.bl
  · rename_i c m bs ks ds t2 y
    cases el : m.lookup y with
    | none => rw [el] at e; cases e
    | some b =>
      rw [el] at e
      cases e
      obtain ⟨v, w, rfl, p1, p2⟩ := pl.two
      obtain ⟨a, C, d', fs, rfl, hm, k, hH, rfl, hd, rl⟩ := Rp.obj_of (p1.atom fun ds e => by cases e)
      obtain ⟨C2, rfl, hm2⟩ := Rp.fn_of (p2.atom fun ds e => by cases e)
      obtain ⟨Y, hY, hk, _⟩ := k.is.own y b el
      rw [hm2] at hY
      cases hY
      obtain ⟨u1, u2, rfl, r1, r2⟩ := vals2 r
      cases r1
      cases r2
      exact main (hid_leH _ _ hH) (hd.imp id fun ⟨dd, z1, z2⟩ => ⟨dd, z1, hid_leH _ _ z2⟩) k.is.ec hk out.bl
  · rename_i c m bs ks ds t2 n
    cases el : bs.lookup n with
    | none => rw [el] at e; cases e
    | some b =>
      rw [el] at e
      cases e
      obtain ⟨v, w, rfl, p1, p2⟩ := pl.two
      obtain ⟨a, C, d', fs, rfl, hm, k, hH, rfl, hd, rl⟩ := Rp.obj_of (p1.atom fun ds e => by cases e)
      cases Rp.ty_of (p2.atom fun ds e => by cases e)
      obtain ⟨u1, u2, rfl, r1, r2⟩ := vals2 r
      cases r1
      cases r2
      exact main (hid_leH _ _ hH) (hd.imp id fun ⟨dd, z1, z2⟩ => ⟨dd, z1, hid_leH _ _ z2⟩) k.is.ec (k.is.blt n b el) out.bl
  · cases e
end
end Pc

set_option Elab.async false
set_option maxRecDepth 100000
set_option maxHeartbeats 4000000
namespace Pc
open PySem PySem.Spec PyProof.Rows L2

/-! ### functions that the program imports -/
inductive IM where
  | gcd | lcm
  deriving DecidableEq
def IM.id : IM → String
  | .gcd => "math.gcd"
  | .lcm => "math.lcm"
def gcdF : List Vl → Option Vl
  | [(_, .int a), (_, .int b)] => some (.st, .int (Nat.gcd a.natAbs b.natAbs : Nat))
  | _ => none
def lcmF : List Vl → Option Vl
  | [(_, .int a), (_, .int b)] => if a.natAbs < 2 ^ 64 ∧ b.natAbs < 2 ^ 64 then some (.st, .int (Nat.lcm a.natAbs b.natAbs : Nat)) else none
  | _ => none
def IM.fn : IM → List Vl → Option Vl
  | .gcd => gcdF
  | .lcm => lcmF
section
variable {X : Cx} {B : Bx} {W : WX} {ms : AS} {x : Str} {p pos : Pos} {e : Expr} {es : List Expr}
theorem gcd_F (co : Co X B) : CallR X (.builtin "math.gcd") (rA B gcdF) := by
  intro pins s σ H xs us Q I r ⟨hs, H0, xs', q, hps, there, cel, pl, e, out⟩
  unfold gcdF at e
  split at e
  · cases e
    obtain ⟨v, w, rfl, p1, p2⟩ := pl.two
    cases p1.int
    cases p2.int
    exact cr_gcd pins s σ H _ us Q I r ⟨_, _, rfl, out.int⟩
  · cases e
theorem lcm_F (co : Co X B) : CallR X (.builtin "math.lcm") (rA B lcmF) := by
  intro pins s σ H xs us Q I r ⟨hs, H0, xs', q, hps, there, cel, pl, e, out⟩
  unfold lcmF at e
  split at e
  · split at e
    · rename_i hc
      cases e
      obtain ⟨v, w, rfl, p1, p2⟩ := pl.two
      cases p1.int
      cases p2.int
      obtain ⟨t, u, rfl⟩ := Vals.int2 r
      exact PySem.W.mc_lcm hc.1 hc.2 fun _ => ⟨.int _, H, I.tok _, ⟨_, rfl⟩, out.int⟩
    · cases e
  · cases e
theorem im_F (co : Co X B) : ∀ f : IM, CallR X (.builtin f.id) (rA B f.fn)
  | .gcd => gcd_F co
  | .lcm => lcm_F co
theorem pm_imp (co : Co X B) (f : IM) (hg : Gl X x) (hm : B.mg x = some (.builtin f.id)) (ha : PA X (e :: es) (tA B W ms)) (hdb : (x == ("__debug__" : Str)) = false)
    (he : starEach (e :: es) X.env = (false, eval e X.env) :: starEach es X.env) (hpl : (backTo pos (starEach es X.env)).any (·.1) = false) : PM X B W (.Call (.Name x p) (e :: es) [] pos) (appA ms f.fn) :=
  .of co.K (PE.imp (pe_callBfun (im_F co f) hg (by rw [co.mg]; exact hm) ha hdb he hpl) fun σ H Q h => rA_of h) fun _ => rfl
end
end Pc

set_option Elab.async false
set_option maxRecDepth 100000
set_option maxHeartbeats 4000000
namespace Pc
open PySem PySem.Spec PyProof.Rows L2

/-! ### what is walked -/
abbrev IS := List Slot → Cells → Rs (List D)
/-- J walks the data ds -/
def ItR (B : Bx) (hs : Addr → Prop) (H1 : Hp) (J : It) (ds : List D) : Prop :=
  ∃ (G : Hp → Prop) (Y : Nat → Hp → V → Hp → Prop), Walk J ds.length G Y ∧ (∀ H p, Le (hid H1 hs) (hid H p) → G H) ∧
    ∀ i H x H' (p : Addr → Prop), (∀ a, p a → ∃ o, H a = some o ∧ HO.nt o = true) → Le (hid H1 hs) (hid H p) → Y i H x H' → Le H H' ∧ ∃ e, ds[i]? = some e ∧ B.Rp H' p e x
def TIx (B : Bx) (W : WX) (fp : Nat → List Addr) (σ : L2.St) (H : Hp) (r : Rs (List D)) (R : It → Hp → Prop) : Prop :=
  match r with
  | .ok ds c => ∀ J H1, SB B.ps H H1 → CsR B (hsOf B fp) H1 c → ItR B (hsOf B fp) H1 J ds → R J H1
  | .exc x fs cs' => ∀ cls dd H', SB B.ps H H' → CsR B (hsOf B fp) H' cs' → ExR B (hsOf B fp) H' x fs cls dd → W cls dd σ H'
  | .bad => False
structure PIm (X : Cx) (B : Bx) (W : WX) (tg iter : Expr) (mi : IS) : Prop where
  ex : ∃ wi : TI, PI X tg iter wi ∧ ∀ (σ : L2.St) (H : Hp) (R : It → Hp → Prop) env cs fp, StR B env cs fp σ H → TIx B W fp σ H (mi env cs) R → wi σ H R
theorem PI.or {X : Cx} {tg iter : Expr} {w1 w2 : TI} (h1 : PI X tg iter w1) (h2 : PI X tg iter w2) : PI X tg iter (fun σ H R => w1 σ H R ∨ w2 σ H R) := ⟨fun pins s σ H R I h => h.elim (h1.run pins s σ H R I) (h2.run pins s σ H R I)⟩
/-- a list, a tuple -/
def iSeq (m : ES) : IS := fun env cs => match m env cs with
  | .ok (t, .lst ds) c => if t.plain = true then .ok ds c else .bad
  | .ok (_, .tup ds) c => .ok ds c
  | .ok (_, .frz ds) c => .ok ds c
  | .ok _ _ => .bad
  | .exc x fs c => .exc x fs c
  | .bad => .bad
def upTo : Nat → Int → List D
  | 0, _ => []
  | n + 1, lo => .int lo :: upTo n (lo + 1)
theorem upTo_length : ∀ (n : Nat) (lo : Int), (upTo n lo).length = n
  | 0, _ => rfl
  | n + 1, lo => by simp [upTo, upTo_length n]
theorem upTo_get : ∀ (n : Nat) (lo : Int) (i : Nat), i < n → (upTo n lo)[i]? = some (.int (lo + i))
  | 0, _, _, h => by omega
  | n + 1, lo, 0, _ => by simp [upTo]
  | n + 1, lo, i + 1, h => by
    show (upTo n (lo + 1))[i]? = _
    rw [upTo_get n (lo + 1) i (by omega)]
    congr 2
    omega
def rngF : List Vl → Option (List D)
  | [(_, .int j)] => if -(2 ^ 62) ≤ j ∧ j < 2 ^ 62 then some (upTo j.toNat 0) else none
  | _ => none
def rngF2 : List Vl → Option (List D)
  | [(_, .int i), (_, .int j)] => if -(2 ^ 62) ≤ i ∧ i < 2 ^ 62 ∧ -(2 ^ 62) ≤ j ∧ j < 2 ^ 62 then some (upTo (j - i).toNat i) else none
  | _ => none
def iApp (ms : AS) (f : List Vl → Option (List D)) : IS := fun env cs => match ms env cs with
  | .ok xs c => (match f xs with
    | some ds => .ok ds c
    | none => .bad)
  | .exc x fs c => .exc x fs c
  | .bad => .bad
section
variable {X : Cx} {B : Bx} {W : WX} {tg a b e : Expr} {m : ES} {ms : AS} {p pos : Pos}
theorem itR_list {hs : Addr → Prop} {H1 : Hp} {q : Addr} {xs : List V} {ds : List D} (hK : X.K = B.K) (h : SqL B.K (hid H1 hs) q xs) (r : B.RpL H1 hs ds xs) : ItR B hs H1 (Itl X.K q) ds := by
  refine ⟨fun H => SqL X.K H q xs, YAt xs, by rw [r.length]; exact walk_list, fun H p le => by rw [hK]; exact sqL_le (fun a o e => hid_leH a o (le a o e)) h, fun i H x H' p _ le y => ?_⟩
  obtain ⟨rfl, e⟩ := y
  have hi : i < ds.length := by rw [r.length]; exact (List.getElem?_eq_some_iff.mp e).1
  obtain ⟨x', e1, rx⟩ := r.get (List.getElem?_eq_getElem hi)
  rw [e] at e1
  cases e1
  exact ⟨fun _ _ e => e, ds[i], List.getElem?_eq_getElem hi, Rp.mono le _ _ rx⟩
theorem itR_tup {hs : Addr → Prop} {H1 : Hp} {q : Addr} {xs : List V} {ds : List D} (hK : X.K = B.K) (h : SqT B.K (hid H1 hs) q xs) (r : B.RpL H1 hs ds xs) : ItR B hs H1 (Itt X.K q) ds := by
  refine ⟨fun H => SqT X.K H q xs, YAt xs, by rw [r.length]; exact walk_tup, fun H p le => by rw [hK]; exact sqT_le (fun a o e => hid_leH a o (le a o e)) h, fun i H x H' p _ le y => ?_⟩
  obtain ⟨rfl, e⟩ := y
  have hi : i < ds.length := by rw [r.length]; exact (List.getElem?_eq_some_iff.mp e).1
  obtain ⟨x', e1, rx⟩ := r.get (List.getElem?_eq_getElem hi)
  rw [e] at e1
  cases e1
  exact ⟨fun _ _ e => e, ds[i], List.getElem?_eq_getElem hi, Rp.mono le _ _ rx⟩
theorem pi_seq (co : Co X B) (ha : PM X B W a m) : PIm X B W tg a (iSeq m) := by
  refine ⟨_, PI.or (pi_list ha.pe) (pi_tup ha.pe), fun σ H R env cs fp S h => ?_⟩
  unfold iSeq at h
  cases e : m env cs with
  | bad => rw [e] at h; exact h.elim
  | exc x fs c =>
    rw [e] at h
    exact .inl ⟨env, cs, fp, S, by rw [e]; exact h⟩
  | ok x c =>
    rw [e] at h
    obtain ⟨t, d⟩ := x
    cases d with
    | lst ds =>
      simp only at h
      split at h
      · rename_i hp
        refine .inl ⟨env, cs, fp, S, ?_⟩
        rw [e]
        intro v H1 sb cc pv
        obtain ⟨q, xs, rfl, s, r⟩ := Rp.lst_of (pv.rp hp)
        exact ⟨q, rfl, ⟨xs, SqL.of (hid_leH _ _ s)⟩, h _ H1 sb cc (itR_list co.K (SqL.of s) r)⟩
      · exact h.elim
    | tup ds =>
      refine .inr ⟨env, cs, fp, S, ?_⟩
      rw [e]
      intro v H1 sb cc pv
      obtain ⟨q, xs, rfl, s, r⟩ := Rp.tup_of (pv.atom fun ds e => by cases e)
      exact ⟨q, rfl, ⟨xs, by rw [co.K]; exact sqT_le hid_leH s.sq⟩, h _ H1 sb cc (itR_tup co.K s.sq r)⟩
    | frz ds =>
      refine .inl ⟨env, cs, fp, S, ?_⟩
      rw [e]
      intro v H1 sb cc pv
      obtain ⟨q, xs, rfl, s, r⟩ := Rp.frz_of (pv.atom fun ds e => by cases e)
      exact ⟨q, rfl, ⟨xs, by rw [co.K]; exact sqL_le hid_leH s⟩, h _ H1 sb cc (itR_list co.K s r)⟩
    | _ => exact h.elim
theorem itR_range {hs : Addr → Prop} {H1 : Hp} {n : Nat} {lo : Int} : ItR B hs H1 (Itr lo n) (upTo n lo) := by
  refine ⟨fun _ => True, fun i H x H' => i < n ∧ H' = H ∧ x = .int (lo + i), ⟨fun i H hi _ => by rw [upTo_length] at hi; exact hi, fun H _ => by show n ≤ (upTo n lo).length; rw [upTo_length]; exact Nat.le_refl _, fun i H x H' hi _ y => ⟨by rw [upTo_length] at hi; exact hi, y⟩⟩, fun _ _ _ => trivial, fun i H x H' p _ _ y => ?_⟩
  obtain ⟨hi, rfl, rfl⟩ := y
  exact ⟨fun _ _ e => e, _, upTo_get n lo i hi, Rp.int⟩
theorem tA_iApp {f : List Vl → Option (List D)} {env : List Slot} {cs : Cells} {fp : Nat → List Addr} {σ : L2.St} {H : Hp} {R : It → Hp → Prop} (S : StR B env cs fp σ H) (h : TIx B W fp σ H (iApp ms f env cs) R) {Q : List V → Hp → Prop}
    (hQ : ∀ vs H1 xs ds c1, f xs = some ds → StR B env c1 fp σ H1 → PVL B (hsOf B fp) H H1 xs vs → (∀ J, ItR B (hsOf B fp) H1 J ds → R J H1) → Q vs H1) : tA B W ms σ H Q := by
  refine ⟨env, cs, fp, S, ?_⟩
  unfold iApp at h
  cases e : ms env cs with
  | bad => rw [e] at h; exact h
  | exc x fs c => rw [e] at h; exact h
  | ok xs c =>
    simp only [e] at h
    cases e2 : f xs with
    | none => simp only [e2] at h; exact h.elim
    | some ds =>
      simp only [e2] at h
      exact fun vs H1 sb cc p => hQ vs H1 xs ds c e2 (S.next sb cc) p fun J it => h J H1 sb cc it
theorem pi_rng1 (co : Co X B) (hg : Gl X "range") (hm : B.mg "range" = none) (ha : PA X [a] (tA B W ms)) (hs : starEach [a] X.env = [(false, eval a X.env)]) : PIm X B W tg (.Call (.Name "range" p) [a] [] pos) (iApp ms rngF) := by
  refine ⟨_, pi_range1 hg (by rw [co.mg]; exact hm) ha hs, fun σ H R env cs fp S h => tA_iApp S h fun vs H1 xs ds c1 e S1 pl q => ?_⟩
  unfold rngF at e
  split at e
  · split at e
    · rename_i hc
      cases e
      obtain ⟨v, rfl, p1⟩ := pl.one
      cases p1.int
      exact ⟨_, rfl, hc.1, hc.2, q _ itR_range⟩
    · cases e
  · cases e
theorem pi_rng2 (co : Co X B) (hg : Gl X "range") (hm : B.mg "range" = none) (ha : PA X [a, b] (tA B W ms)) (hs : starEach [a, b] X.env = [(false, eval a X.env), (false, eval b X.env)]) (hs2 : starEach [b] X.env = [(false, eval b X.env)]) : PIm X B W tg (.Call (.Name "range" p) [a, b] [] pos) (iApp ms rngF2) := by
  refine ⟨_, pi_range2 hg (by rw [co.mg]; exact hm) ha hs hs2, fun σ H R env cs fp S h => tA_iApp S h fun vs H1 xs ds c1 e S1 pl q => ?_⟩
  unfold rngF2 at e
  split at e
  · split at e
    · rename_i hc
      cases e
      obtain ⟨v, w, rfl, p1, p2⟩ := pl.two
      cases p1.int
      cases p2.int
      exact ⟨_, _, rfl, hc, q _ itR_range⟩
    · cases e
  · cases e
end

/-! ### targets -/
/-- a store of a plain datum -/
abbrev GS := D → List Slot → Option (List Slot)
def gN (i : Nat) : GS := fun d env => if i < env.length then some (env.set i (.sh d)) else none
def gT (is : List Nat) : GS := fun d env => match d with
  | .tup ds => if ds.length = is.length then (is.zip ds).foldlM (fun env p => gN p.1 p.2 env) env else none
  | .lst ds => if ds.length = is.length then (is.zip ds).foldlM (fun env p => gN p.1 p.2 env) env else none
  | _ => none
/-- the slots outside vs are as they were -/
def Off (vs : List Nat) (σ σ' : L2.St) : Prop := σ'.length = σ.length ∧ ∀ j, j ∉ vs → σ'[j]? = σ[j]?
theorem Off.refl {vs : List Nat} {σ : L2.St} : Off vs σ σ := ⟨rfl, fun _ _ => rfl⟩
theorem Off.trans {vs : List Nat} {σ σ1 σ2 : L2.St} (a : Off vs σ σ1) (b : Off vs σ1 σ2) : Off vs σ σ2 := ⟨b.1.trans a.1, fun j h => (b.2 j h).trans (a.2 j h)⟩
theorem Off.set {vs : List Nat} {σ : L2.St} {i : Nat} {v : Option V} (h : i ∈ vs) : Off vs σ (σ.set i v) := ⟨by simp, fun j hj => by rw [List.getElem?_set_ne]; rintro rfl; exact hj h⟩
theorem wipe_get {σ : L2.St} : ∀ {vs : List Nat} {j : Nat}, j < σ.length → (wipe σ vs)[j]? = if j ∈ vs then some none else σ[j]?
  | [], j, h => by simp [wipe]
  | v :: vs, j, h => by
    unfold wipe
    by_cases e : v = j
    · subst e
      rw [List.getElem?_set_self (by rw [wipe_length]; exact h)]
      simp
    · rw [List.getElem?_set_ne e, wipe_get h]
      have e' : ¬ j = v := fun z => e z.symm
      simp [e']
theorem Off.wipe {vs : List Nat} {σ σ' : L2.St} (o : Off vs σ σ') : wipe σ' vs = wipe σ vs := by
  apply List.ext_getElem?
  intro j
  by_cases h : j < σ.length
  · rw [wipe_get h, wipe_get (by rw [o.1]; exact h)]
    split
    · rfl
    · rename_i hj
      exact o.2 j hj
  · rw [List.getElem?_eq_none (by rw [wipe_length, o.1]; omega), List.getElem?_eq_none (by rw [wipe_length]; omega)]
def fpOff (fp : Nat → List Addr) (i : Nat) : Nat → List Addr := fun j => if j = i then [] else fp j
section
variable {B : Bx} {env env' : List Slot} {cs : Cells} {fp fp' : Nat → List Addr} {σ σ' : L2.St} {H : Hp} {d : D} {v : V}
theorem hs_off {i : Nat} : ∀ a, hsOf B (fpOff fp i) a → hsOf B fp a := fun a h => by
  rcases h with h | ⟨j, h⟩
  · exact .inl h
  · unfold fpOff at h
    split at h
    · cases h
    · exact .inr ⟨j, h⟩
theorem CsR.less {hs hs' : Addr → Prop} (h : ∀ a, hs' a → hs a) (c : CsR B hs H cs) : CsR B hs' H cs :=
  ⟨c.len, c.nd, fun i ds a e1 e2 => let ⟨xs, h1, h2⟩ := c.at_ i ds a e1 e2; ⟨xs, h1, RpL.mono (hid_le h fun _ _ _ e => e) _ _ h2⟩⟩
/-- a slot takes a plain value -/
theorem StR.set' {i : Nat} (S : StR B env cs fp σ H) (hi : i < env.length) (r : B.Rp H (hsOf B (fpOff fp i)) d v) : StR B (env.set i (.sh d)) cs (fpOff fp i) (σ.set i (some v)) H := by
  have le : Le (hid H (hsOf B fp)) (hid H (hsOf B (fpOff fp i))) := hid_le hs_off fun _ _ _ e => e
  have mem : ∀ {j a}, a ∈ fpOff fp i j → a ∈ fp j := fun {j a} h => by
    unfold fpOff at h
    split at h
    · cases h
    · exact h
  refine ⟨by simp [S.len], fun j s e => ?_, fun j hj => ?_, S.cells.less hs_off, S.ps0, S.th0, fun j a h => S.own j a (mem h), fun j k a h1 h2 => S.dis j k a (mem h1) (mem h2), fun j => ?_⟩
  · by_cases hj : j = i
    · subst hj
      rw [List.getElem?_set_self hi] at e
      cases e
      refine ⟨by simp [fpOff], v, ?_, r⟩
      rw [List.getElem?_set_self (by rw [← S.len]; exact hi)]
    · rw [List.getElem?_set_ne (Ne.symm hj)] at e
      have q := S.slot j s e
      rw [List.getElem?_set_ne (Ne.symm hj), show fpOff fp i j = fp j by simp [fpOff, hj]]
      cases s with
      | emp => exact q
      | sh d' => exact ⟨q.1, q.2.choose, q.2.choose_spec.1, Rp.mono le _ _ q.2.choose_spec.2⟩
      | ow k d' =>
        obtain ⟨w, e1, ro⟩ := q
        exact ⟨w, e1, ro.mono (Rp.mono le) fun _ _ _ e => e⟩
      | od d' =>
        obtain ⟨w, e1, ef, ro⟩ := q
        exact ⟨w, e1, ef, ro.mono (fun _ e => e) fun ds xs z => RpL.mono le ds xs z⟩
  · unfold fpOff
    split
    · rfl
    · exact S.out j (by simpa using hj)
  · unfold fpOff
    split
    · exact List.nodup_nil
    · exact S.nd j
end
theorem StR.set {B : Bx} {env : List Slot} {cs : Cells} {fp : Nat → List Addr} {σ : L2.St} {H : Hp} {d : D} {v : V} {i : Nat} (S : StR B env cs fp σ H) (hi : i < env.length) (r : B.Rp H (hsOf B fp) d v) : StR B (env.set i (.sh d)) cs (fpOff fp i) (σ.set i (some v)) H :=
  S.set' hi (Rp.mono (hid_le hs_off fun _ _ _ e => e) _ _ r)
/-- own lists that stood in the slots vs may be gone -/
structure FpSub (vs : List Nat) (fp fp' : Nat → List Addr) : Prop where
  sub : ∀ i a, a ∈ fp' i → a ∈ fp i
  back : ∀ i a, a ∈ fp i → a ∈ fp' i ∨ i ∈ vs
theorem FpSub.refl {vs : List Nat} {fp : Nat → List Addr} : FpSub vs fp fp := ⟨fun _ _ h => h, fun _ _ h => .inl h⟩
theorem FpSub.trans {vs : List Nat} {fp fp1 fp2 : Nat → List Addr} (a : FpSub vs fp fp1) (b : FpSub vs fp1 fp2) : FpSub vs fp fp2 :=
  ⟨fun i x h => a.sub i x (b.sub i x h), fun i x h => (a.back i x h).elim (fun z => b.back i x z) .inr⟩
theorem FpSub.hs {vs : List Nat} {fp fp' : Nat → List Addr} {B : Bx} (f : FpSub vs fp fp') : ∀ a, hsOf B fp' a → hsOf B fp a := fun a h => h.elim .inl fun ⟨i, z⟩ => .inr ⟨i, f.sub i a z⟩
theorem FpSub.off {vs : List Nat} {fp : Nat → List Addr} {i : Nat} (h : i ∈ vs) : FpSub vs fp (fpOff fp i) := by
  refine ⟨fun j a m => ?_, fun j a m => ?_⟩
  · unfold fpOff at m
    split at m
    · cases m
    · exact m
  · unfold fpOff
    split
    · rename_i e
      subst e
      exact .inr h
    · exact .inl m
structure PGm (X : Cx) (tg : Expr) (g : GS) (vs : List Nat) (t : TG) : Prop where
  pg : PG X tg t
  rd : ∀ (B : Bx), B.K = X.K → ∀ env env' cs fp (σ : L2.St) H d v (Q : L2.St → Hp → Prop), StR B env cs fp σ H → B.Rp H (hsOf B fp) d v → g d env = some env' →
    (∀ fp' σ', StR B env' cs fp' σ' H → Off vs σ σ' → FpSub vs fp fp' → Q σ' H) → t v σ H Q
theorem PG.or {X : Cx} {tg : Expr} {t1 t2 : TG} (h1 : PG X tg t1) (h2 : PG X tg t2) : PG X tg (fun v σ H Q => t1 v σ H Q ∨ t2 v σ H Q) := ⟨fun pins s σ H v u Q I r h => h.elim (h1.run pins s σ H v u Q I r) (h2.run pins s σ H v u Q I r)⟩
section
variable {X : Cx} {pos : Pos} {vs : List Nat}
theorem pgm_name (nd : X.N.Nodup) {i : Nat} {x : Str} (hi : X.N[i]? = some x) (hx : Loc X.env.scope x) (hf : X.fn x = true ∨ X.env.scope.names.lookup x = some .local) (hm : i ∈ vs) : PGm X (.Name x pos) (gN i) vs (gName i) := by
  refine ⟨pg_name nd hi hx hf, fun B hK env env' cs fp σ H d v Q S r e h => ?_⟩
  unfold gN at e
  split at e
  · rename_i hl
    cases e
    exact h _ _ (S.set hl r) (.set hm) (.off hm)
  · cases e
/-- several names, one after another -/
structure PGsm (X : Cx) (ts : List Expr) (is : List Nat) (vs : List Nat) (t : TGs) : Prop where
  pg : PGs X ts t
  rd : ∀ (B : Bx), B.K = X.K → ∀ env env' cs fp (σ : L2.St) H ds xs (Q : L2.St → Hp → Prop), StR B env cs fp σ H → B.RpL H (hsOf B fp) ds xs → ds.length = is.length → (is.zip ds).foldlM (fun env (p : Nat × D) => gN p.1 p.2 env) env = some env' →
    (∀ fp' σ', StR B env' cs fp' σ' H → Off vs σ σ' → FpSub vs fp fp' → Q σ' H) → t xs σ H Q
theorem pgsm_nil : PGsm X [] [] vs gNil := by
  refine ⟨pgs_nil, fun B hK env env' cs fp σ H ds xs Q S r hl e h => ?_⟩
  cases ds with
  | nil =>
    unfold Bx.RpL RpL at r
    subst r
    simp at e
    subst e
    exact ⟨rfl, h fp σ S .refl .refl⟩
  | cons d ds => simp at hl
theorem pgsm_cons {e1 : Expr} {ts : List Expr} {i : Nat} {is : List Nat} {t1 : TG} {t2 : TGs} (h1 : PGm X e1 (gN i) vs t1) (h2 : PGsm X ts is vs t2) (hs : (assignEach (e1 :: ts) X.env).map (·.2) = assign e1 X.env :: (assignEach ts X.env).map (·.2)) : PGsm X (e1 :: ts) (i :: is) vs (gCons t1 t2) := by
  refine ⟨pgs_cons h1.pg h2.pg hs, fun B hK env env' cs fp σ H ds xs Q S r hl e h => ?_⟩
  cases ds with
  | nil => simp at hl
  | cons d ds =>
    unfold Bx.RpL RpL at r
    obtain ⟨x, rx, rfl, r1, r2⟩ := r
    rw [List.zip_cons_cons, List.foldlM_cons] at e
    cases e1 : gN i d env with
    | none => simp [e1] at e
    | some env1 =>
      simp only [e1, Option.bind_eq_bind, Option.bind_some] at e
      refine ⟨x, rx, rfl, h1.rd B hK env env1 cs fp σ H d x _ S r1 e1 fun fp1 σ1 S1 o1 l1 => ?_⟩
      refine h2.rd B hK env1 env' cs fp1 σ1 H ds rx Q S1 (RpL.mono (hid_le l1.hs fun _ _ _ e => e) _ _ r2) (by simpa using hl) e fun fp2 σ2 S2 o2 l2 => h fp2 σ2 S2 (o1.trans o2) (l1.trans l2)
theorem pgm_tup (hc : X.calm = true) {ts : List Expr} {is : List Nat} {k : Nat} {t : TGs} (h : PGsm X ts is vs t) (hn : (assignEach ts X.env).length = is.length) (hst : (assignEach ts X.env).findIdx? (·.1) = none) :
    PGm X (.Tuple ts k pos) (gT is) vs (fun v σ H Q => gTup X.K is.length t v σ H Q ∨ gLst X.K is.length t v σ H Q) := by
  refine ⟨PG.or (pg_tup hc h.pg hn hst) (pg_lst hc h.pg hn hst), fun B hK env env' cs fp σ H d v Q S r e hq => ?_⟩
  unfold gT at e
  split at e
  · rename_i ds
    split at e
    · rename_i hl
      obtain ⟨a, xs, rfl, s, rl⟩ := Rp.tup_of r
      exact .inl ⟨a, xs, rfl, by rw [← hK]; exact sqT_le hid_leH s.sq, by rw [← rl.length]; exact hl, h.rd B hK env env' cs fp σ H ds xs Q S rl hl e hq⟩
    · cases e
  · rename_i ds
    split at e
    · rename_i hl
      obtain ⟨a, xs, rfl, s, rl⟩ := Rp.lst_of r
      exact .inr ⟨a, xs, rfl, SqL.of (hid_leH _ _ s), by rw [← rl.length]; exact hl, h.rd B hK env env' cs fp σ H ds xs Q S rl hl e hq⟩
    · cases e
  · cases e
end
end Pc

set_option Elab.async false
set_option maxRecDepth 100000
set_option maxHeartbeats 4000000
namespace Pc
open PySem PySem.Spec PyProof.Rows L2 RZ

/-! ### zip of two sequences, each a list or a tuple -/
/-- l holds xs: a tuple (true), a list (false) -/
def Src (t : Bool) (h : Heap) (l : Addr) (xs : Array Value) : Prop := if t = true then h.IsTuple l xs else h.IsList l xs
/-- i goes through l, at k -/
def Sit (t : Bool) (h : Heap) (i l : Addr) (k : Nat) : Prop := if t = true then h.IsTupleIter i l k else h.IsListIter i l k
def sitO (t : Bool) (l : Addr) : Obj := if t = true then { cls := .type "tuple_iterator", data := .fields #[.ref l, .int 0 0] } else { cls := .type "list_iterator", data := .fields #[.ref l, .int 0 0] }
theorem Src.ext {t : Bool} {g g' : Heap} {l b : Addr} {xs : Array Value} (x : Src t g l xs) (e : Heap.ExtBut b g g') (n : l ≠ b) : Src t g' l xs := by
  cases t
  · exact Heap.IsList.extBut (show g.IsList l xs from x) e n
  · exact Heap.IsTuple.extBut (show g.IsTuple l xs from x) e n
theorem Sit.ext {t : Bool} {g g' : Heap} {i l b : Addr} {k : Nat} (x : Sit t g i l k) (e : Heap.ExtBut b g g') (n : i ≠ b) : Sit t g' i l k := by
  cases t
  · exact Heap.IsListIter.extBut (show g.IsListIter i l k from x) e n
  · exact Heap.IsTupleIter.extBut (show g.IsTupleIter i l k from x) e n
theorem Sit.to {t : Bool} {g g' : Heap} {i l : Addr} {k : Nat} (x : Sit t g i l k) (e : ∀ o, g.get? i = some o → g'.get? i = some o) : Sit t g' i l k := by
  cases t
  · exact Heap.IsListIter.at (show g.IsListIter i l k from x) e
  · exact Heap.IsTupleIter.at (show g.IsTupleIter i l k from x) e
theorem Sit.lives {t : Bool} {g : Heap} {i l : Addr} {k : Nat} (x : Sit t g i l k) : ∃ o, g.get? i = some o ∧ ∀ v, o.data ≠ .cell v := by
  cases t
  · obtain ⟨o, e, _, d⟩ := (show g.IsListIter i l k from x)
    exact ⟨o, e, fun v q => by rw [d] at q; cases q⟩
  · obtain ⟨o, e, _, d⟩ := (show g.IsTupleIter i l k from x)
    exact ⟨o, e, fun v q => by rw [d] at q; cases q⟩
theorem Src.push {t : Bool} {g : Heap} {l : Addr} {xs : Array Value} (x : Src t g l xs) (o : Obj) : Src t (g.push o) l xs := by
  cases t
  · exact Heap.IsList.push (show g.IsList l xs from x) o
  · exact Heap.IsTuple.push (show g.IsTuple l xs from x) o
section
variable {prog : Program} {w : World} {A : Around} {E : Value → Shared → Prop} {s : Shared}
theorem nx_item {t : Bool} {it l : Addr} {i : Nat} {xs : Array Value} {x : Value} {Q : Value → Shared → Prop} (a : Sit t s.heap it l i) (b : Src t s.heap l xs) (c : xs[i]? = some x)
    (q : ∀ g, Sit t g it l (i + 1) → Heap.SameBut it s.heap g → Q x { s with heap := g }) : wpAny (model prog w) A (Builtin.SmallTypes.nextOf (.ref it)) Q E s := by
  cases t
  · exact wpAny_nextOf_list_item (show s.heap.IsListIter it l i from a) (show s.heap.IsList l xs from b) c q
  · exact nextOf_tuple_item (show s.heap.IsTupleIter it l i from a) (show s.heap.IsTuple l xs from b) c q
theorem nx_end {t : Bool} {it l : Addr} {i : Nat} {xs : Array Value} {Q : Value → Shared → Prop} (hh : A.handled = none) (a : Sit t s.heap it l i) (b : Src t s.heap l xs) (c : xs[i]? = none)
    (q : ∀ g e, Heap.ExtBut it s.heap g → (∃ o, g.get? e = some o ∧ o.cls = .type "StopIteration") → E (.ref e) { s with heap := g }) : wpAny (model prog w) A (Builtin.SmallTypes.nextOf (.ref it)) Q E s := by
  cases t
  · exact wpAny_nextOf_list_end hh (show s.heap.IsListIter it l i from a) (show s.heap.IsList l xs from b) c q
  · exact nextOf_tuple_end hh (show s.heap.IsTupleIter it l i from a) (show s.heap.IsTuple l xs from b) c q
/-- what a turn of zip leaves as it was -/
def ZKeep (z T i j : Addr) (g g' : Heap) : Prop := ∀ c o, c ≠ z → c ≠ T → c ≠ i → c ≠ j → g.get? c = some o → g'.get? c = some o
variable {t1 t2 : Bool} {z I T i j l m : Addr} {k n : Nat} {xs ys : Array Value} {x y u v : Value}
theorem z_item {Q : Value → Shared → Prop} (D : ZipApart z I T i j l m) (hz : IsZip s.heap z I T .none) (hI : IsPair s.heap I (.ref i) (.ref j)) (hT : IsPair s.heap T u v) (a1 : Sit t1 s.heap i l k) (a2 : Sit t2 s.heap j m n) (b1 : Src t1 s.heap l xs) (b2 : Src t2 s.heap m ys)
    (c1 : xs[k]? = some x) (c2 : ys[n]? = some y)
    (q : ∀ g, IsZip g z I T (rawInt s.heap.objs.size) → IsPair g T x y → Sit t1 g i l (k + 1) → Sit t2 g j m (n + 1) → IsPair g s.heap.objs.size x y → g.objs.size = s.heap.objs.size + 1 → ZKeep z T i j s.heap g → Q (.ref s.heap.objs.size) { s with heap := g }) :
    wpAny (model prog w) A (Builtin.«zip.__next__» ⟨[.ref z], []⟩) (fun r s' => ∃ o, r = .done (.ret o) ∧ Q o s') E s := by
  show wpAny _ _ (field (.ref z) 2 >>= _) _ _ _; refine wpAny_bind (wpAny_field hz rfl (x := .bool false) rfl ?_)
  show wpAny _ _ (field (.ref z) 3 >>= _) _ _ _; refine wpAny_bind (wpAny_field hz rfl (x := .ref I) rfl (wpAny_bind (wpAny_seqItems hI rfl ?_)))
  show wpAny _ _ (Builtin.SmallTypes.ownedTupleIsFree (.ref z) >>= _) _ _ _; unfold Builtin.SmallTypes.ownedTupleIsFree
  refine wpAny_bind (wpAny_bind (wpAny_field hz rfl (x := .none) rfl (wpAny_pure ?_))); simp only [if_true]
  refine wpAny_bind (wpAny_rule (wpAny_bind (wpAny_field hz rfl (x := .ref T) rfl (wpAny_bind (wpAny_setField_rec hz (by simp) fun g1 z1 e1 => ?_)))))
  have z1 : IsZip g1 z I T .ellipsis := z1
  refine wpAny_bind ?_; simp only [List.zipIdx_cons, List.zipIdx_nil, List.forIn_cons, List.forIn_nil]
  -- the first source
  refine wpAny_bind (wpAny_bind (wpAny_onRaise ?_)); show wpAny _ _ (Builtin.SmallTypes.nextOf (.ref i) >>= _) _ _ _
  refine wpAny_bind (nx_item (a1.ext e1.extBut D.i1z) (b1.ext e1.extBut D.l1z) c1 fun g2 a12 e2 => wpAny_pure ?_)
  have T2 : IsPair g2 T u v := e2.extBut _ _ D.TOi1 (e1.extBut _ _ D.TOz hT)
  refine wpAny_bind (wpAny_seqItems T2 rfl (wpAny_bind (wpAny_updateSeq_pair T2 fun g3 T3 e3 => wpAny_bind (wpAny_letGo (wpAny_pure ?_)))))
  have T3 : IsPair g3 T x v := T3
  -- the second
  refine wpAny_bind (wpAny_bind (wpAny_onRaise ?_)); show wpAny _ _ (Builtin.SmallTypes.nextOf (.ref j) >>= _) _ _ _
  refine wpAny_bind (nx_item (((a2.ext e1.extBut D.i2z).ext e2.extBut D.i12.symm).ext e3.extBut D.TOi2.symm) (((b2.ext e1.extBut D.l2z).ext e2.extBut D.l2i1).ext e3.extBut D.l2TO) c2 fun g4 a24 e4 => wpAny_pure ?_)
  have T4 : IsPair g4 T x v := e4.extBut _ _ D.TOi2 T3
  refine wpAny_bind (wpAny_seqItems T4 rfl (wpAny_bind (wpAny_updateSeq_pair T4 fun g5 T5 e5 => wpAny_bind (wpAny_letGo (wpAny_pure (wpAny_pure ?_))))))
  have T5 : IsPair g5 T x y := T5
  refine wpAny_bind (wpAny_seqItems T5 rfl (wpAny_bind (wpAny_newTuple ?_)))
  have sz : g5.objs.size = s.heap.objs.size := by rw [e5.1, e4.1, e3.1, e2.1, e1.1]
  have z5 : IsZip g5 z I T .ellipsis := e5.extBut _ _ D.TOz.symm (e4.extBut _ _ D.i2z.symm (e3.extBut _ _ D.TOz.symm (e2.extBut _ _ D.i1z.symm z1)))
  have k5 : ZKeep z T i j s.heap g5 := fun c o n1 n2 n3 n4 e => e5.extBut _ _ n2 (e4.extBut _ _ n4 (e3.extBut _ _ n2 (e2.extBut _ _ n3 (e1.extBut _ _ n1 e))))
  have a15 : Sit t1 g5 i l (k + 1) := ((a12.ext e3.extBut D.TOi1.symm).ext e4.extBut D.i12).ext e5.extBut D.TOi1.symm
  have a25 : Sit t2 g5 j m (n + 1) := a24.ext e5.extBut D.TOi2.symm
  have zl : z < g5.objs.size := Heap.lt_size z5
  show wpAny _ _ (Builtin.SmallTypes.ownedTupleHandOut (.ref z) (.ref g5.objs.size) >>= _) _ _ _; unfold Builtin.SmallTypes.ownedTupleHandOut
  have z6 : IsZip (g5.push { cls := .type "tuple", data := .seq #[x, y] }) z I T .ellipsis := Heap.get?_push_of_some _ z5
  refine wpAny_bind (wpAny_bind (wpAny_setField_rec z6 (by simp) fun g7 z7 e7 => ?_))
  have z7 : IsZip g7 z I T (rawInt g5.objs.size) := z7
  refine wpAny_setField_rec z7 (by simp) fun g8 z8 e8 => ?_
  have z8 : IsZip g8 z I T (rawInt g5.objs.size) := z8
  have up : ∀ c o, c ≠ z → g5.get? c = some o → g8.get? c = some o := fun c o n1 e => e8.extBut _ _ n1 (e7.extBut _ _ n1 (Heap.get?_push_of_some _ e))
  have p8 : IsPair g8 g5.objs.size x y := e8.extBut _ _ (Nat.ne_of_gt zl) (e7.extBut _ _ (Nat.ne_of_gt zl) (Heap.get?_push_size _ rfl))
  have s8 : g8.objs.size = g5.objs.size + 1 := by rw [e8.1, e7.1, Heap.size_push]
  rw [sz] at z8 p8 s8
  refine wpAny_pure ⟨_, rfl, ?_⟩
  show Q (.ref g5.objs.size) _
  rw [sz]
  exact q g8 z8 (up _ _ D.TOz T5) (a15.to fun o e => up _ o D.i1z e) (a25.to fun o e => up _ o D.i2z e) p8 s8 fun c o n1 n2 n3 n4 e => up c o n1 (k5 c o n1 n2 n3 n4 e)
theorem z_end {Q : Fin → Shared → Prop} (hh : A.handled = none) (D : ZipApart z I T i j l m) (hz : IsZip s.heap z I T .none) (hI : IsPair s.heap I (.ref i) (.ref j)) (hT : IsPair s.heap T u v) (a1 : Sit t1 s.heap i l k) (a2 : Sit t2 s.heap j m n) (b1 : Src t1 s.heap l xs) (b2 : Src t2 s.heap m ys)
    (hend : xs[k]? = none ∨ ys[n]? = none) (q : ∀ g e, ZKeep z T i j s.heap g → (∃ o, g.get? e = some o ∧ o.cls = .type "StopIteration") → E (.ref e) { s with heap := g }) :
    wpAny (model prog w) A (Builtin.«zip.__next__» ⟨[.ref z], []⟩) Q E s := by
  show wpAny _ _ (field (.ref z) 2 >>= _) _ _ _; refine wpAny_bind (wpAny_field hz rfl (x := .bool false) rfl ?_)
  show wpAny _ _ (field (.ref z) 3 >>= _) _ _ _; refine wpAny_bind (wpAny_field hz rfl (x := .ref I) rfl (wpAny_bind (wpAny_seqItems hI rfl ?_)))
  show wpAny _ _ (Builtin.SmallTypes.ownedTupleIsFree (.ref z) >>= _) _ _ _; unfold Builtin.SmallTypes.ownedTupleIsFree
  refine wpAny_bind (wpAny_bind (wpAny_field hz rfl (x := .none) rfl (wpAny_pure ?_))); simp only [if_true]
  refine wpAny_bind (wpAny_rule (wpAny_bind (wpAny_field hz rfl (x := .ref T) rfl (wpAny_bind (wpAny_setField_rec hz (by simp) fun g1 z1 e1 => ?_)))))
  have z1 : IsZip g1 z I T .ellipsis := z1
  refine wpAny_bind ?_; simp only [List.zipIdx_cons, List.zipIdx_nil, List.forIn_cons, List.forIn_nil]
  refine wpAny_bind (wpAny_bind (wpAny_onRaise ?_)); show wpAny _ _ (Builtin.SmallTypes.nextOf (.ref i) >>= _) _ _ _
  cases hx : xs[k]? with
  | none =>
    refine wpAny_bind (nx_end hh (a1.ext e1.extBut D.i1z) (b1.ext e1.extBut D.l1z) hx fun g2 e e2 he => ?_)
    obtain ⟨oe, h1, h2⟩ := he
    have z2 : IsZip g2 z I T .ellipsis := e2 _ _ D.i1z.symm z1
    have ez : e ≠ z := fun r => by subst r; rw [z2] at h1; cases h1; simp at h2
    refine wpAny_setField_rec z2 (by simp) fun g3 _ e3 => q g3 e (fun c o n1 _ n3 _ r => e3.extBut _ _ n1 (e2 _ _ n3 (e1.extBut _ _ n1 r))) ⟨oe, e3.extBut _ _ ez h1, h2⟩
  | some x =>
    have hy : ys[n]? = none := hend.elim (fun h => by rw [hx] at h; cases h) id
    refine wpAny_bind (nx_item (a1.ext e1.extBut D.i1z) (b1.ext e1.extBut D.l1z) hx fun g2 a12 e2 => wpAny_pure ?_)
    have T2 : IsPair g2 T u v := e2.extBut _ _ D.TOi1 (e1.extBut _ _ D.TOz hT)
    refine wpAny_bind (wpAny_seqItems T2 rfl (wpAny_bind (wpAny_updateSeq_pair T2 fun g3 T3 e3 => wpAny_bind (wpAny_letGo (wpAny_pure ?_)))))
    refine wpAny_bind (wpAny_bind (wpAny_onRaise ?_)); show wpAny _ _ (Builtin.SmallTypes.nextOf (.ref j) >>= _) _ _ _
    refine wpAny_bind (nx_end hh (((a2.ext e1.extBut D.i2z).ext e2.extBut D.i12.symm).ext e3.extBut D.TOi2.symm) (((b2.ext e1.extBut D.l2z).ext e2.extBut D.l2i1).ext e3.extBut D.l2TO) hy fun g4 e e4 he => ?_)
    obtain ⟨oe, h1, h2⟩ := he
    have z4 : IsZip g4 z I T .ellipsis := e4 _ _ D.i2z.symm (e3.extBut _ _ D.TOz.symm (e2.extBut _ _ D.i1z.symm z1))
    have ez : e ≠ z := fun r => by subst r; rw [z4] at h1; cases h1; simp at h2
    refine wpAny_setField_rec z4 (by simp) fun g5 _ e5 => q g5 e (fun c o n1 n2 n3 n4 r => e5.extBut _ _ n1 (e4 _ _ n4 (e3.extBut _ _ n2 (e2.extBut _ _ n3 (e1.extBut _ _ n1 r))))) ⟨oe, e5.extBut _ _ ez h1, h2⟩
theorem zn_item {Q : Option Value → Shared → Prop} (D : ZipApart z I T i j l m) (hz : IsZip s.heap z I T .none) (hI : IsPair s.heap I (.ref i) (.ref j)) (hT : IsPair s.heap T u v) (a1 : Sit t1 s.heap i l k) (a2 : Sit t2 s.heap j m n) (b1 : Src t1 s.heap l xs) (b2 : Src t2 s.heap m ys)
    (c1 : xs[k]? = some x) (c2 : ys[n]? = some y)
    (q : ∀ g, IsZip g z I T (rawInt s.heap.objs.size) → IsPair g T x y → Sit t1 g i l (k + 1) → Sit t2 g j m (n + 1) → IsPair g s.heap.objs.size x y → g.objs.size = s.heap.objs.size + 1 → ZKeep z T i j s.heap g → Q (some (.ref s.heap.objs.size)) { s with heap := g }) :
    wpAny (model prog w) A (pyNext (.ref z)) Q E s := by
  have ty : s.TypeIs (.ref z) "zip" := ⟨_, hz, rfl⟩
  unfold pyNext
  refine wpAny_bind (wpAny_attempt (wpAny_callSpecial?_slot (name := Str.ofString "__next__") ty F.slot_zip_next (wpAny_call_entry F.slot_zip_next ty F.entry_zip_next ?_ (F.args_zip_next_1 _))))
  exact z_item D hz hI hT a1 a2 b1 b2 c1 c2 fun g h1 h2 h3 h4 h5 h6 h7 => wpAny_pure (q g h1 h2 h3 h4 h5 h6 h7)
theorem zn_end {Q : Option Value → Shared → Prop} (hh : A.handled = none) (D : ZipApart z I T i j l m) (hz : IsZip s.heap z I T .none) (hI : IsPair s.heap I (.ref i) (.ref j)) (hT : IsPair s.heap T u v) (a1 : Sit t1 s.heap i l k) (a2 : Sit t2 s.heap j m n) (b1 : Src t1 s.heap l xs) (b2 : Src t2 s.heap m ys)
    (hend : xs[k]? = none ∨ ys[n]? = none) (q : ∀ g, ZKeep z T i j s.heap g → Q none { s with heap := g }) : wpAny (model prog w) A (pyNext (.ref z)) Q E s := by
  have ty : s.TypeIs (.ref z) "zip" := ⟨_, hz, rfl⟩
  unfold pyNext
  refine wpAny_bind (wpAny_attempt (wpAny_callSpecial?_slot (name := Str.ofString "__next__") ty F.slot_zip_next (wpAny_call_entry F.slot_zip_next ty F.entry_zip_next ?_ (F.args_zip_next_1 _))))
  refine z_end hh D hz hI hT a1 a2 b1 b2 hend fun g e h1 h2 => ?_
  obtain ⟨o, ho, hc⟩ := h2
  exact wpAny_bind (wpAny_isInstance (T := "StopIteration") (b := true) ⟨o, ho, hc⟩ isSubtype_stop (wpAny_pure (q _ h1)))
end
/-! its making -/
def zg1 (t : Bool) (g : Heap) (l : Addr) : Heap := g.push (sitO t l)
def zg3 (t1 t2 : Bool) (g : Heap) (l m : Addr) : Heap := (zg1 t2 (zg1 t1 g l) m).push { cls := .type "tuple", data := .seq #[.ref g.objs.size, .ref (zg1 t1 g l).objs.size] }
def zg4 (t1 t2 : Bool) (g : Heap) (l m : Addr) : Heap := (zg3 t1 t2 g l m).push { cls := .type "tuple", data := .seq #[.none, .none] }
def zg5 (t1 t2 : Bool) (g : Heap) (l m : Addr) : Heap := (zg4 t1 t2 g l m).push { cls := .type "zip", data := .fields #[.none, .bool false, .bool false, .ref (zg1 t2 (zg1 t1 g l) m).objs.size, .ref (zg3 t1 t2 g l m).objs.size] }
theorem z_new (t1 t2 : Bool) (l m : Addr) (xs ys : Array Value) :
    Meets (Builtin.«zip.__new__» ⟨[.type "zip", .ref l, .ref m], []⟩) (fun _ R s => Src t1 s.heap l xs ∧ Src t2 s.heap m ys ∧ R (.ok (.ret (.ref (zg4 t1 t2 s.heap l m).objs.size))) { s with heap := zg5 t1 t2 s.heap l m }) :=
  .of_wp fun prog w A R s h => by
    obtain ⟨hp, g, d, tk, os⟩ := s
    obtain ⟨b1, b2, h⟩ := h
    have hsub := sub_zip
    have c2 := b2.push (sitO t1 l)
    cases t1 <;> cases t2
    · have d1 : Heap.IsList (Shared.heap ⟨hp, g, d, tk, os⟩) l xs := b1
      have d2 : Heap.IsList (Shared.heap ⟨hp.push { cls := .type "list_iterator", data := .fields #[.ref l, .int 0 0] }, g, d, tk, os⟩) m ys := c2
      wp_walk using wpAny_pyIter_list d1, wpAny_pyIter_list d2
      exact ⟨_, rfl, h⟩
    · have d1 : Heap.IsList (Shared.heap ⟨hp, g, d, tk, os⟩) l xs := b1
      have d2 : Heap.IsTuple (Shared.heap ⟨hp.push { cls := .type "list_iterator", data := .fields #[.ref l, .int 0 0] }, g, d, tk, os⟩) m ys := c2
      wp_walk using wpAny_pyIter_list d1, wpAny_pyIter_tuple d2
      exact ⟨_, rfl, h⟩
    · have d1 : Heap.IsTuple (Shared.heap ⟨hp, g, d, tk, os⟩) l xs := b1
      have d2 : Heap.IsList (Shared.heap ⟨hp.push { cls := .type "tuple_iterator", data := .fields #[.ref l, .int 0 0] }, g, d, tk, os⟩) m ys := c2
      wp_walk using wpAny_pyIter_tuple d1, wpAny_pyIter_list d2
      exact ⟨_, rfl, h⟩
    · have d1 : Heap.IsTuple (Shared.heap ⟨hp, g, d, tk, os⟩) l xs := b1
      have d2 : Heap.IsTuple (Shared.heap ⟨hp.push { cls := .type "tuple_iterator", data := .fields #[.ref l, .int 0 0] }, g, d, tk, os⟩) m ys := c2
      wp_walk using wpAny_pyIter_tuple d1, wpAny_pyIter_tuple d2
      exact ⟨_, rfl, h⟩
theorem sit_new (t : Bool) {g : Heap} {i l : Addr} (h : g.get? i = some (sitO t l)) : Sit t g i l 0 := by
  cases t
  · exact (⟨_, h, rfl, rfl⟩ : g.IsListIter i l 0)
  · exact (⟨_, h, rfl, rfl⟩ : g.IsTupleIter i l 0)
theorem sitO_live (t : Bool) (l : Addr) : (sitO t l).isFreed = false := by cases t <;> rfl
section
variable {prog : Program} {w : World} {A : Around} {E : Value → Shared → Prop} {s : Shared} {t1 t2 : Bool} {l m : Addr} {xs ys : Array Value} {Q : Value → Shared → Prop}
theorem z_call (b1 : Src t1 s.heap l xs) (b2 : Src t2 s.heap m ys)
    (q : ∀ g, IsZip g (s.heap.objs.size + 4) (s.heap.objs.size + 2) (s.heap.objs.size + 3) .none → IsPair g (s.heap.objs.size + 2) (.ref s.heap.objs.size) (.ref (s.heap.objs.size + 1)) → IsPair g (s.heap.objs.size + 3) .none .none →
      Sit t1 g s.heap.objs.size l 0 → Sit t2 g (s.heap.objs.size + 1) m 0 → (∀ c o, s.heap.get? c = some o → g.get? c = some o) → Q (.ref (s.heap.objs.size + 4)) { s with heap := g }) :
    wpAny (model prog w) A (call (.type "zip") [.ref l, .ref m]) Q E s := by
  refine callType_new F.called_zip (by decide) (F.typeCall_zip_2 _ _) (F.newCall_zip_2 _ _) (fun o => F.args_object_init_3 o _ _) F.entry_zip_new (z_new t1 t2 l m xs ys) ⟨b1, b2, ?_⟩
  generalize hn : s.heap.objs.size = n at q ⊢
  have n1 : (zg1 t1 s.heap l).objs.size = n + 1 := by unfold zg1; rw [Heap.size_push, hn]
  have n2 : (zg1 t2 (zg1 t1 s.heap l) m).objs.size = n + 2 := by unfold zg1 at n1 ⊢; rw [Heap.size_push, n1]
  have n3 : (zg3 t1 t2 s.heap l m).objs.size = n + 3 := by unfold zg3; rw [Heap.size_push, n2]
  have n4 : (zg4 t1 t2 s.heap l m).objs.size = n + 4 := by unfold zg4; rw [Heap.size_push, n3]
  have o5 : (zg5 t1 t2 s.heap l m).get? (n + 4) = some { cls := .type "zip", data := .fields #[.none, .bool false, .bool false, .ref (n + 2), .ref (n + 3)] } := by
    unfold zg5
    rw [n2, n3, ← n4]
    exact Heap.get?_push_size _ rfl
  have o4 : (zg5 t1 t2 s.heap l m).get? (n + 3) = some { cls := .type "tuple", data := .seq #[.none, .none] } := by
    unfold zg5
    refine Heap.get?_push_of_some _ ?_
    unfold zg4
    rw [← n3]
    exact Heap.get?_push_size _ rfl
  have o3 : (zg5 t1 t2 s.heap l m).get? (n + 2) = some { cls := .type "tuple", data := .seq #[.ref n, .ref (n + 1)] } := by
    unfold zg5 zg4
    refine Heap.get?_push_of_some _ (Heap.get?_push_of_some _ ?_)
    unfold zg3
    rw [hn, n1, ← n2]
    exact Heap.get?_push_size _ rfl
  have o2 : (zg5 t1 t2 s.heap l m).get? (n + 1) = some (sitO t2 m) := by
    unfold zg5 zg4 zg3
    refine Heap.get?_push_of_some _ (Heap.get?_push_of_some _ (Heap.get?_push_of_some _ ?_))
    rw [← n1]
    exact Heap.get?_push_size _ (sitO_live t2 m)
  have old : ∀ c o, (zg1 t1 s.heap l).get? c = some o → (zg5 t1 t2 s.heap l m).get? c = some o := fun c o e =>
    Heap.get?_push_of_some _ (Heap.get?_push_of_some _ (Heap.get?_push_of_some _ (Heap.get?_push_of_some _ e)))
  have o1 : (zg5 t1 t2 s.heap l m).get? n = some (sitO t1 l) := old _ _ (by rw [← hn]; exact Heap.get?_push_size _ (sitO_live t1 l))
  show _ ∧ _
  rw [n4]
  exact ⟨⟨_, o5, rfl⟩, q _ o5 o3 o4 (sit_new t1 o1) (sit_new t2 o2) fun c o e => old c o (Heap.get?_push_of_some _ e)⟩
end
end Pc

set_option Elab.async false
set_option maxRecDepth 100000
set_option maxHeartbeats 4000000
namespace Pc
open PySem PySem.Spec PyProof.Rows L2 RZ

/-! ### zip: its turns -/
def Sq (t : Bool) (K : PySem.W.Frag) (H : Hp) (a : Addr) (xs : List V) : Prop := if t = true then SqT K H a xs else SqL K H a xs
theorem sq_src {X : Cx} {pins : List (Addr × Obj)} {σ : L2.St} {H : Hp} {s : Shared} (I : Inv X pins σ H s) {t : Bool} {a : Addr} {xs : List V} (h : Sq t X.K H a xs) : ∃ its, Vals xs its ∧ Src t s.heap a its.toArray ∧ a < s.heap.objs.size := by
  cases t
  · obtain ⟨its, rv, p, _⟩ := I.list (show SqL X.K H a xs from h)
    exact ⟨its, rv, p.isList, p.lt⟩
  · obtain ⟨its, rv, p, _⟩ := I.tuple (show SqT X.K H a xs from h)
    obtain ⟨o, ho, _⟩ := id p
    exact ⟨its, rv, p, Heap.lt_size ho⟩
theorem sq_inj {X : Cx} {pins : List (Addr × Obj)} {σ : L2.St} {H : Hp} {s : Shared} (I : Inv X pins σ H s) {t : Bool} {a : Addr} {xs ys : List V} (h : Sq t X.K H a xs) (h' : Sq t X.K H a ys) : xs = ys := by
  cases t
  · exact I.list_inj (show SqL X.K H a xs from h) (show SqL X.K H a ys from h')
  · exact I.tuple_inj (show SqT X.K H a xs from h) (show SqT X.K H a ys from h')
theorem sq_le {t : Bool} {K : PySem.W.Frag} {H H' : Hp} {a : Addr} {xs : List V} (l : Le H H') (h : Sq t K H a xs) : Sq t K H' a xs := by
  cases t
  · exact sqL_le l (show SqL K H a xs from h)
  · exact sqT_le l (show SqT K H a xs from h)
def ItzM (K : PySem.W.Frag) (t1 t2 : Bool) (a b : Addr) : It :=
  ⟨fun i H => ∃ (xs ys : List V) (x y : V), Sq t1 K H a xs ∧ Sq t2 K H b ys ∧ xs[i]? = some x ∧ ys[i]? = some y, fun i H v H' => ∃ T x y, v = .ref T ∧ H T = none ∧ H' = upd H T (.tup [x, y]) ∧ (∀ l, Sq t1 K H a l → l[i]? = some x) ∧ ∀ l, Sq t2 K H b l → l[i]? = some y,
    fun i H => ∃ xs ys : List V, Sq t1 K H a xs ∧ Sq t2 K H b ys ∧ (xs.length ≤ i ∨ ys.length ≤ i)⟩
theorem turn_zipM {P : Program} {w : World} {K : PySem.W.Frag} {elts : List Expr} {kk : Nat} {tpos : Pos} {t1 t2 : Bool} {a b z I T i j : Addr} (D : ZipApart z I T i j a b) :
    Turn P w K (.Tuple elts kk tpos) (ItzM K t1 t2 a b) [z, I, T, i, j] z (fun n h => IsZip h z I T .none ∧ IsPair h I (.ref i) (.ref j) ∧ (∃ x y, IsPair h T x y) ∧ Sit t1 h i a n ∧ Sit t2 h j b n) where
  mem := by simp
  obj := fun n h st c hc => by
    obtain ⟨hz, hI, ⟨x, y, hT⟩, h1, h2⟩ := st
    simp only [List.mem_cons, List.not_mem_nil, or_false] at hc
    rcases hc with rfl | rfl | rfl | rfl | rfl
    · exact ⟨_, hz, fun v q => nomatch q⟩
    · exact ⟨_, hI, fun v q => nomatch q⟩
    · exact ⟨_, hT, fun v q => nomatch q⟩
    · exact h1.lives
    · exact h2.lives
  keep := fun n h h' ⟨hz, hI, ⟨x, y, hT⟩, h1, h2⟩ k =>
    ⟨k z (by simp) _ hz, k I (by simp) _ hI, ⟨x, y, k T (by simp) _ hT⟩, h1.to fun o q => k i (by simp) o q, h2.to fun o q => k j (by simp) o q⟩
  item := by
    intro X hP hw hK hc n pins s σ H E J hf st hg
    subst hP hw hK
    obtain ⟨hz, hI, ⟨x0, y0, hT⟩, h1, h2⟩ := st
    obtain ⟨xs, ys, x, y, q1, q2, e1, e2⟩ := hg
    obtain ⟨its1, v1, p1, _⟩ := sq_src J q1
    obtain ⟨its2, v2, p2, _⟩ := sq_src J q2
    obtain ⟨u1, hu1, r1⟩ := v1.get e1
    obtain ⟨u2, hu2, r2⟩ := v2.get e2
    have zl : z < s.heap.objs.size := Heap.lt_size hz
    refine zn_item D hz hI hT h1 h2 p1 p2 (x := u1) (y := u2) (by simpa using hu1) (by simpa using hu2) fun g z' T' a1' a2' pT sz kp => ?_
    refine ⟨_, rfl, wpAny_letOwnedTupleGo_zip (s := { s with heap := g }) z' fun g2 z2 sb => ?_⟩
    have pT2 : g2.get? s.heap.objs.size = some { cls := .type "tuple", data := .seq #[u1, u2] } := (sb.2 _ (Nat.ne_of_gt zl)).trans pT
    have new : ObjOk X.prog X.w (upd H s.heap.objs.size (.tup [x, y])) g2 s.heap.objs.size (.tup [x, y]) := ⟨(by decide : 2 ≤ sizeLine), [u1, u2], .cons r1 (.cons r2 .nil), ⟨_, pT2, rfl, _, rfl⟩⟩
    have J1 : Inv X pins σ (upd H s.heap.objs.size (.tup [x, y])) { s with heap := g2 } :=
      J.turnedNew (t' := s.toks) (ch := [z, I, T, i, j]) (fun c o hb q => by
        simp only [List.mem_cons, List.not_mem_nil, or_false, not_or] at hb
        exact (sb.2 c hb.1).trans (kp c o hb.1 hb.2.2.1 hb.2.2.2.1 hb.2.2.2.2 q)) hf (Nat.le_refl _) new
    refine ⟨.ref s.heap.objs.size, _, J1, rfl, ⟨_, x, y, rfl, J.hok.fresh (Nat.le_refl _), rfl, fun l hl => by rw [sq_inj J hl q1]; exact e1, fun l hl => by rw [sq_inj J hl q2]; exact e2⟩, ⟨z2, (sb.2 _ D.TIz).trans (kp _ _ D.TIz D.TITO D.TIi1 D.TIi2 hI), ⟨u1, u2, (sb.2 _ D.TOz).trans T'⟩,
      a1'.to fun o q => (sb.2 _ D.i1z).trans q, a2'.to fun o q => (sb.2 _ D.i2z).trans q⟩, fun c hm => ?_⟩
    have lt : c < s.heap.objs.size := by
      have hm2 := hm
      simp only [List.mem_cons, List.not_mem_nil, or_false] at hm2
      rcases hm2 with rfl | rfl | rfl | rfl | rfl
      · exact zl
      · exact Heap.lt_size hI
      · exact Heap.lt_size hT
      · obtain ⟨_, e, _⟩ := h1.lives; exact Heap.lt_size e
      · obtain ⟨_, e, _⟩ := h2.lives; exact Heap.lt_size e
    rw [upd_ne (Nat.ne_of_lt lt)]
    exact (hf c hm).1
  done := by
    intro X hP hw hK hc n pins s σ H E J hf st hg
    subst hP hw hK
    obtain ⟨hz, hI, ⟨x0, y0, hT⟩, h1, h2⟩ := st
    obtain ⟨xs, ys, q1, q2, hend⟩ := hg
    obtain ⟨its1, v1, p1, _⟩ := sq_src J q1
    obtain ⟨its2, v2, p2, _⟩ := sq_src J q2
    have l1 := v1.length
    have l2 := v2.length
    have he : its1.toArray[n]? = none ∨ its2.toArray[n]? = none := hend.imp (fun q => by simp; omega) fun q => by simp; omega
    exact zn_end (J.ok.hd hc) D hz hI hT h1 h2 p1 p2 he fun g kp => ⟨rfl, J.turnedL (t' := s.toks) (ch := [z, I, T, i, j]) (fun c o hb q => by
      simp only [List.mem_cons, List.not_mem_nil, or_false, not_or] at hb
      exact kp c o hb.1 hb.2.2.1 hb.2.2.2.1 hb.2.2.2.2 q) hf⟩
  self := fun A n s Q E st h => wpAny_pyIter_zip st.1 h
def iZipM (K : PySem.W.Frag) (ta : TA) : TI := fun σ H R => ta σ H fun vs H1 => ∃ a b t1 t2 xs ys, vs = [.ref a, .ref b] ∧ Sq t1 K H1 a xs ∧ Sq t2 K H1 b ys ∧ R (ItzM K t1 t2 a b) H1
theorem pi_zipM {X : Cx} {e e2 : Expr} {ta : TA} {p pos tpos : Pos} {elts : List Expr} {kk : Nat} (hg : Gl X "zip") (hm : X.mg "zip" = none) (ha : PA X [e, e2] ta) (hs : starEach [e, e2] X.env = (false, eval e X.env) :: starEach [e2] X.env) (hpl : (backTo pos (starEach [e2] X.env)).any (·.1) = false) :
    PI X (.Tuple elts kk tpos) (.Call (.Name "zip" p) [e, e2] [] pos) (iZipM X.K ta) := by
  refine ⟨fun pins s σ H R I h => Call_ (ld_blt I hg hm PyProof.Rows.boot_zip (PyProof.Rows.callWith_type1 (thn (ha.run pos pins s σ H _ I h) fun us s1 ⟨vs, H1, I1, r1, q1⟩ => ?_) hs hpl))⟩
  obtain ⟨a, b, t1, t2, xs, ys, rfl, q1, q2, q⟩ := q1
  cases r1 with
  | cons r rr =>
    cases rr with
    | cons r' rr =>
      cases rr
      cases r
      cases r'
      obtain ⟨its1, v1, p1, l1⟩ := sq_src I1 q1
      obtain ⟨its2, v2, p2, l2⟩ := sq_src I1 q2
      refine z_call p1 p2 fun g hz hI hT h1 h2 hk => wpAny_pyIter_zip hz ?_
      have I2 : Inv X pins σ H1 { s1 with heap := g } := I1.kept (t' := s1.toks) hk
      refine ⟨s1.heap.objs.size + 4, [s1.heap.objs.size + 4, s1.heap.objs.size + 2, s1.heap.objs.size + 3, s1.heap.objs.size, s1.heap.objs.size + 1], _, _, H1, rfl, I2, turn_zipM (PySem.W.ktu_apart s1.heap.objs.size a b l1 l2), ⟨hz, hI, ⟨_, _, hT⟩, h1, h2⟩, fun c hc => ?_, q⟩
      have le : s1.heap.objs.size ≤ c := by
        simp only [List.mem_cons, List.not_mem_nil, or_false] at hc
        rcases hc with rfl | rfl | rfl | rfl | rfl <;> first | exact Nat.le_add_right _ _ | exact Nat.le_refl _
      exact I1.fpOk le (I1.hok.fresh le)
/-! its data -/
def seqK : Vl → Option (List D)
  | (t, .lst ds) => if t.plain = true then some ds else none
  | (_, .tup ds) => some ds
  | (_, .frz ds) => some ds
  | _ => none
def zipF : List Vl → Option (List D)
  | [x, y] => (seqK x).bind fun ds => (seqK y).map fun es => (ds.zip es).map fun p => .tup [p.1, p.2]
  | _ => none
section
variable {X : Cx} {B : Bx} {W : WX} {ms : AS}
theorem seqK_sq {hs : Addr → Prop} {H0 H1 : Hp} {x : Vl} {v : V} {ds : List D} (h : seqK x = some ds) (p : PV B hs H0 H1 x.1 x.2 v) : ∃ t a xs, v = .ref a ∧ Sq t B.K (hid H1 hs) a xs ∧ B.RpL H1 hs ds xs := by
  obtain ⟨t, d⟩ := x
  cases d with
  | lst ds' =>
    have h : (if t.plain = true then some ds' else none) = some ds := h
    split at h
    · rename_i hp
      cases h
      obtain ⟨q, xs, rfl, s, r⟩ := Rp.lst_of (p.rp hp)
      exact ⟨false, q, xs, rfl, (SqL.of s : SqL B.K (hid H1 hs) q xs), r⟩
    · cases h
  | tup ds' =>
    cases h
    obtain ⟨q, xs, rfl, s, r⟩ := Rp.tup_of (p.atom fun ds e => by cases e)
    exact ⟨true, q, xs, rfl, s.sq, r⟩
  | frz ds' =>
    cases h
    obtain ⟨q, xs, rfl, s, r⟩ := Rp.frz_of (p.atom fun ds e => by cases e)
    exact ⟨false, q, xs, rfl, s, r⟩
  | _ => cases h
theorem itR_zip {hs : Addr → Prop} {H1 : Hp} {a b : Addr} {t1 t2 : Bool} {xs ys : List V} {ds es : List D} (hK : X.K = B.K) (s1 : Sq t1 B.K (hid H1 hs) a xs) (s2 : Sq t2 B.K (hid H1 hs) b ys) (r1 : B.RpL H1 hs ds xs) (r2 : B.RpL H1 hs es ys) :
    ItR B hs H1 (ItzM X.K t1 t2 a b) ((ds.zip es).map fun p => .tup [p.1, p.2]) := by
  have l1 := r1.length
  have l2 := r2.length
  have ln : ((ds.zip es).map fun p => D.tup [p.1, p.2]).length = min xs.length ys.length := by simp [l1, l2]
  refine ⟨fun H => Sq t1 X.K H a xs ∧ Sq t2 X.K H b ys, YPair (fun i => xs[i]?) fun i => ys[i]?, ⟨fun i H hi g => ?_, fun H g => ?_, fun i H x H' hi g y => ?_⟩, fun H p le => ?_, fun i H x H' p pl le y => ?_⟩
  · rw [ln] at hi
    exact ⟨xs, ys, xs[i]'(by omega), ys[i]'(by omega), g.1, g.2, List.getElem?_eq_getElem _, List.getElem?_eq_getElem _⟩
  · refine ⟨xs, ys, g.1, g.2, ?_⟩
    rw [ln]
    omega
  · obtain ⟨T, u, v, e1, e2, e3, e4, e5⟩ := y
    exact ⟨T, u, v, e1, e2, e3, e4 xs g.1, e5 ys g.2⟩
  · rw [hK]
    exact ⟨sq_le (fun a o e => hid_leH a o (le a o e)) s1, sq_le (fun a o e => hid_leH a o (le a o e)) s2⟩
  · obtain ⟨T, u, v, rfl, e2, rfl, e4, e5⟩ := y
    have i1 : i < ds.length := by rw [l1]; exact (List.getElem?_eq_some_iff.mp e4).1
    have i2 : i < es.length := by rw [l2]; exact (List.getElem?_eq_some_iff.mp e5).1
    obtain ⟨u', f1, ru⟩ := r1.get (List.getElem?_eq_getElem i1)
    obtain ⟨v', f2, rv⟩ := r2.get (List.getElem?_eq_getElem i2)
    have e4 : xs[i]? = some u := e4
    have e5 : ys[i]? = some v := e5
    rw [e4] at f1
    rw [e5] at f2
    cases f1
    cases f2
    have nT : ¬ p T := fun q => by
      obtain ⟨o, z, _⟩ := pl T q
      rw [e2] at z; cases z
    have le2 : Le (hid H p) (hid (upd H T (.tup [u, v])) p) := hid_le (fun _ h => h) fun c o _ e => upd_le e2 c o e
    refine ⟨upd_le e2, .tup [ds[i], es[i]], ?_, ?_⟩
    · rw [List.getElem?_map, List.getElem?_eq_getElem (by simp; omega), List.getElem_zip]
      rfl
    · refine Rp.tup (xs := [u, v]) ?_ (RpL.cons (Rp.mono le2 _ _ (Rp.mono le _ _ ru)) (RpL.cons (Rp.mono le2 _ _ (Rp.mono le _ _ rv)) RpL.nil))
      exact hid_some.mpr ⟨nT, upd_same⟩
theorem pi_zipD {e e2 : Expr} {p pos tpos : Pos} {elts : List Expr} {kk : Nat} (co : Co X B) (hg : Gl X "zip") (hm : B.mg "zip" = none) (ha : PA X [e, e2] (tA B W ms)) (hs : starEach [e, e2] X.env = (false, eval e X.env) :: starEach [e2] X.env) (hpl : (backTo pos (starEach [e2] X.env)).any (·.1) = false) :
    PIm X B W (.Tuple elts kk tpos) (.Call (.Name "zip" p) [e, e2] [] pos) (iApp ms zipF) := by
  refine ⟨_, pi_zipM hg (by rw [co.mg]; exact hm) ha hs hpl, fun σ H R env cs fp S h => tA_iApp S h fun vs H1 xs ds c1 ee S1 pl q => ?_⟩
  unfold zipF at ee
  split at ee
  case h_2 => cases ee
  rename_i x y
  obtain ⟨v, w, rfl, p1, p2⟩ := pl.two
  cases k1 : seqK x with
  | none => rw [k1] at ee; cases ee
  | some ds1 =>
    cases k2 : seqK y with
    | none => rw [k1, k2] at ee; cases ee
    | some ds2 =>
      rw [k1, k2] at ee
      cases ee
      obtain ⟨t1, a, xs, rfl, s1, r1⟩ := seqK_sq k1 p1
      obtain ⟨t2, b, ys, rfl, s2, r2⟩ := seqK_sq k2 p2
      have up : ∀ a o, hid H1 (hsOf B fp) a = some o → H1 a = some o := fun a o z => hid_leH a o z
      exact ⟨a, b, t1, t2, xs, ys, rfl, by rw [co.K]; exact sq_le up s1, by rw [co.K]; exact sq_le up s2, q _ (itR_zip co.K s1 s2 r1 r2)⟩
end
end Pc

set_option Elab.async false
set_option maxRecDepth 100000
set_option maxHeartbeats 4000000
namespace Pc
open PySem PySem.Spec PyProof.Rows L2

/-! ### list comprehensions -/
def wipeE (env : List Slot) : List Nat → List Slot
  | [] => env
  | v :: vs => (wipeE env vs).set v .emp
theorem wipeE_length (env : List Slot) : ∀ vs : List Nat, (wipeE env vs).length = env.length
  | [] => rfl
  | v :: vs => by unfold wipeE; rw [List.length_set, wipeE_length env vs]
theorem wipeE_get {env : List Slot} : ∀ {vs : List Nat} {j : Nat}, j < env.length → (wipeE env vs)[j]? = if j ∈ vs then some .emp else env[j]?
  | [], j, h => by simp [wipeE]
  | v :: vs, j, h => by
    unfold wipeE
    by_cases e : v = j
    · subst e
      rw [List.getElem?_set_self (by rw [wipeE_length]; exact h)]
      simp
    · rw [List.getElem?_set_ne e, wipeE_get h]
      have e' : ¬ j = v := fun z => e z.symm
      simp [e']
def Slot.isOw : Slot → Bool
  | .ow _ _ => true
  | .od _ => true
  | _ => false
/-- no own list stands in these slots -/
def noOwn (env : List Slot) (vs : List Nat) : Bool := vs.all fun i => match env[i]? with
  | some s => !s.isOw
  | none => true
def okTag : Nat → Tg → Bool
  | 0, t => t.plain
  | k + 1, .fr j => decide (j = k)
  | _ + 1, _ => false
def D.isInt : D → Bool
  | .int _ => true
  | _ => false
def atomC (cs : Cells) : Bool := cs.all fun ds => ds.all D.isInt
/-- the turns of a comprehension: its items' data -/
def compGo (kk : Nat) (g : GS) (mc me : ES) (env : List Slot) : List D → Cells → Rs (List D)
  | [], cs => .ok [] cs
  | d :: ds, cs => match g d env with
    | none => .bad
    | some env1 => (match mc env1 cs with
      | .ok x c => (match truthD x.2 with
        | some true => (match me env1 c with
          | .ok y c1 => if okTag kk y.1 = true ∧ (kk = 0 ∨ atomC c1 = true) then (match compGo kk g mc me env ds c1 with
            | .ok es c2 => .ok (y.2 :: es) c2
            | _ => .bad) else .bad
          | _ => .bad)
        | some false => compGo kk g mc me env ds c
        | none => .bad)
      | _ => .bad)
def sComp (kk : Nat) (vs : List Nat) (g : GS) (mi : IS) (mc me : ES) : ES := fun env cs => match mi env cs with
  | .ok ds c => if ds.length ≤ 100000 ∧ noOwn env vs = true then (match compGo kk g mc me (wipeE env vs) ds c with
    | .ok es c2 => .ok (.fr kk, .lst es) c2
    | _ => .bad) else .bad
  | .exc x fs c => .exc x fs c
  | .bad => .bad
/-- no exception is let out -/
abbrev WF : WX := fun _ _ _ _ => False
/-- whatever is hidden -/
def tEx (B : Bx) (m : ES) : TE := fun σ H Q => ∃ h0, tE ⟨B.K, B.mg, B.ps, h0⟩ WF m σ H Q
def tTx (B : Bx) (m : ES) : TT := fun σ H Q => ∃ h0, tT ⟨B.K, B.mg, B.ps, h0⟩ WF m σ H Q
theorem pe_ex {X : Cx} {B : Bx} {e : Expr} {m : ES} (h : ∀ h0, PE X e (tE ⟨B.K, B.mg, B.ps, h0⟩ WF m)) : PE X e (tEx B m) := ⟨fun pins s σ H Q I ⟨h0, q⟩ => (h h0).run pins s σ H Q I q⟩
theorem PTs.imp {X : Cx} {es : List Expr} {t u : TT} (h : PTs X es t) (i : ∀ σ H Q, u σ H Q → t σ H Q) : PTs X es u := ⟨fun pins s σ H Q I q => h.run pins s σ H Q I (i σ H Q q)⟩
theorem pts_ex {X : Cx} {B : Bx} {es : List Expr} {m : ES} (h : ∀ h0, PTs X es (tT ⟨B.K, B.mg, B.ps, h0⟩ WF m)) : PTs X es (tTx B m) := ⟨fun pins s σ H Q I ⟨h0, q⟩ => (h h0).run pins s σ H Q I q⟩
/-- the tests of a clause: none, or one -/
theorem ptm_nil {X : Cx} {B : Bx} {W : WX} : PTs X [] (tT B W (sRet (.bl true))) := PTs.imp pts_nil fun σ H Q ⟨env, cs, fp, S, h⟩ => by
  obtain ⟨b, e, q⟩ := h
  cases e
  exact q H SB.refl S.cells
theorem ptm_one {X : Cx} {B : Bx} {W : WX} {c : Expr} {m : ES} (h : PM X B W c m) : PTs X [c] (tT B W m) := pts_one h.pt
section
variable {B : Bx} {env : List Slot} {cs cs' : Cells} {fp : Nat → List Addr} {σ : L2.St} {H H1 H' : Hp} {vs : List Nat}
theorem atom_rpl {p q : Addr → Prop} {H G : Hp} : ∀ {ds : List D} {xs : List V}, ds.all D.isInt = true → B.RpL H p ds xs → B.RpL G q ds xs
  | [], xs, _, h => by
    unfold Bx.RpL RpL at h
    subst h
    exact RpL.nil
  | d :: ds, xs, e, h => by
    unfold Bx.RpL RpL at h
    obtain ⟨x, r, rfl, h1, h2⟩ := h
    rw [List.all_cons, Bool.and_eq_true] at e
    cases d <;> simp only [D.isInt, reduceCtorEq, Bool.false_eq_true, false_and] at e
    cases Rp.int_of h1
    exact RpL.cons Rp.int (atom_rpl e.2 h2)
/-- the state within the block of a comprehension: l, the addresses that are hidden there besides -/
theorem StR.block {l : List Addr} (S : StR B env cs fp σ H1) (no : noOwn env vs = true) (sb : SB B.ps H1 H') (fresh : ∀ a ∈ l, H1 a = none ∧ a ∉ B.ps ∧ ∃ o, H' a = some o ∧ HO.nt o = true)
    (cc : CsR B (fun a => hsOf B fp a ∨ a ∈ l) H' cs') : StR ⟨B.K, B.mg, B.ps, fun a => B.h0 a ∨ a ∈ l⟩ (wipeE env vs) cs' fp (wipe σ vs) H' := by
  have hP : ∀ a, hsOf ⟨B.K, B.mg, B.ps, fun a => B.h0 a ∨ a ∈ l⟩ fp a ↔ (hsOf B fp a ∨ a ∈ l) := fun a => by
    constructor
    · rintro ((h | h) | h)
      · exact .inl (.inl h)
      · exact .inr h
      · exact .inl (.inr h)
    · rintro ((h | h) | h)
      · exact .inl (.inl h)
      · exact .inr h
      · exact .inl (.inr h)
  have le : Le (hid H1 (hsOf B fp)) (hid H' (hsOf ⟨B.K, B.mg, B.ps, fun a => B.h0 a ∨ a ∈ l⟩ fp)) := fun a o e => by
    obtain ⟨n, e⟩ := hid_some.mp e
    refine hid_some.mpr ⟨fun z => ?_, sb a o (fun m => n (S.ps a m)) e⟩
    rcases (hP a).mp z with z | z
    · exact n z
    · rw [(fresh a z).1] at e; cases e
  refine ⟨by rw [wipeE_length, wipe_length]; exact S.len, fun i s e => ?_, fun i hi => S.out i (by rw [wipeE_length] at hi; exact hi), ?_, fun a h => .inl (S.ps0 a h), ?_, S.own, S.dis, S.nd⟩
  · have hi : i < env.length := by
      have := (List.getElem?_eq_some_iff.mp e).1
      rw [wipeE_length] at this
      exact this
    rw [wipeE_get hi] at e
    rw [wipe_get (by rw [← S.len]; exact hi)]
    have q := S.slot i env[i] (List.getElem?_eq_getElem hi)
    by_cases hv : i ∈ vs
    · rw [if_pos hv] at e
      cases e
      have ho := List.all_eq_true.mp no i hv
      rw [List.getElem?_eq_getElem hi] at ho
      show fp i = []
      cases es : env[i] with
      | emp => rw [es] at q; exact q
      | sh d => rw [es] at q; exact q.1
      | ow k d => rw [es] at ho; simp [Slot.isOw] at ho
      | od d => rw [es] at ho; simp [Slot.isOw] at ho
    · rw [if_neg hv] at e ⊢
      rw [List.getElem?_eq_getElem hi] at e
      cases e
      cases es : env[i] with
      | emp => rw [es] at q; exact q
      | sh d => rw [es] at q; exact ⟨q.1, q.2.choose, q.2.choose_spec.1, Rp.mono le _ _ q.2.choose_spec.2⟩
      | ow k d =>
        rw [es] at q
        obtain ⟨v, e1, r⟩ := q
        exact ⟨v, e1, r.mono (Rp.mono le) fun a o m z => sb a o (S.own i a m) z⟩
      | od d =>
        rw [es] at q
        obtain ⟨a, e1, ef, r⟩ := q
        exact ⟨a, e1, ef, r.mono (fun o z => sb a o (S.own i a (by rw [ef]; exact List.mem_singleton.mpr rfl)) z) fun ds xs z => RpL.mono le ds xs z⟩
  · exact ⟨cc.len, cc.nd, fun i ds a e1 e2 => let ⟨xs, h1, h2⟩ := cc.at_ i ds a e1 e2; ⟨xs, h1, RpL.mono (hid_le (fun a z => (hP a).mp z) fun _ _ _ e => e) _ _ h2⟩⟩
  · rintro a (h | h)
    · by_cases hp : a ∈ B.ps
      · obtain ⟨xs, e⟩ := cc.there hp
        exact ⟨_, e, rfl⟩
      · obtain ⟨o, e, t⟩ := S.th0 a h
        exact ⟨o, sb a o hp e, t⟩
    · exact (fresh a h).2.2
end
section
variable {X : Cx} {B : Bx} {W : WX} {tg iter elt : Expr} {ifs : List Expr} {scope : Scope} {own : List (Str × Nat)} {pos : Pos} {g : GS} {t : TG} {mi : IS} {mc me : ES} {kk : Nat}
/-- what the turns from acc on are to reach -/
def TCx (B : Bx) (W : WX) (kk : Nat) (fp : Nat → List Addr) (σ : L2.St) (H : Hp) (Q : VK) (acc : List D) (r : Rs (List D)) : Prop :=
  match r with
  | .ok es c => TEx B W fp σ H (.ok (.fr kk, .lst (acc ++ es)) c) Q
  | _ => False
theorem compRead (wi : TI) (hwi : ∀ (σ : L2.St) (H : Hp) (R : It → Hp → Prop) env cs fp, StR B env cs fp σ H → TIx B W fp σ H (mi env cs) R → wi σ H R) (vs : List Nat)
    (hg : ∀ (B' : Bx), B'.K = B.K → ∀ env env' cs fp (σ : L2.St) H d v (Q : L2.St → Hp → Prop), StR B' env cs fp σ H → B'.Rp H (hsOf B' fp) d v → g d env = some env' →
      (∀ fp' σ', StR B' env' cs fp' σ' H → Off vs σ σ' → FpSub vs fp fp' → Q σ' H) → t v σ H Q)
    (σ : L2.St) (H : Hp) (Q : VK) (h : tE B W (sComp kk vs g mi mc me) σ H Q) : tLc wi t (tTx B mc) (tEx B me) vs σ H Q := by
  obtain ⟨env, cs, fp, S, h⟩ := h
  unfold sComp at h
  refine hwi σ H _ env cs fp S ?_
  cases e : mi env cs with
  | bad => rw [e] at h; exact h
  | exc x fs c => rw [e] at h; exact h
  | ok ds c =>
    simp only [e] at h
    split at h
    case isFalse => exact h.elim
    rename_i hc
    obtain ⟨hlen, hno⟩ := hc
    have h : TCx B W kk fp σ H Q [] (compGo kk g mc me (wipeE env vs) ds c) := by
      cases e2 : compGo kk g mc me (wipeE env vs) ds c with
      | ok es c2 => simp only [e2] at h; exact h
      | exc x fs c2 => simp only [e2] at h; exact h.elim
      | bad => simp only [e2] at h; exact h.elim
    intro J H1 sb1 cc1 it D hD
    have S1 := S.next sb1 cc1
    obtain ⟨G, Y, wk, hG, hY⟩ := it
    have hDps : D ∉ B.ps := fun m => by
      obtain ⟨xs, e⟩ := cc1.there m
      rw [hD] at e; cases e
    have hDhs : ¬ hsOf B fp D := fun m => by
      obtain ⟨o, e⟩ := S1.there m
      rw [hD] at e; cases e
    -- what holds at the i-th turn
    refine lc_it wk (fun i H' => ∃ (xs : List V) (acc : List Pc.D) (fps : List (List Addr)) (c' : Cells), SB B.ps H1 H' ∧ CsR B (fun a => hsOf B fp a ∨ a ∈ D :: fps.flatten) H' c' ∧ H' D = some (.lst xs) ∧
      All3 (RpO (B.Rp H' fun a => hsOf B fp a ∨ a ∈ D :: fps.flatten) H' kk) acc xs fps ∧ (D :: fps.flatten).Nodup ∧ (∀ a ∈ fps.flatten, H1 a = none ∧ a ∉ B.ps ∧ ∃ o, H' a = some o ∧ HO.nt o = true) ∧ xs.length ≤ i ∧
      TCx B W kk fp σ H Q acc (compGo kk g mc me (wipeE env vs) (ds.drop i) c')) ?_ ?_ ?_ ?_
    · -- the start
      refine ⟨[], [], [], c, SB.upd hD, ?_, upd_same, .nil, by simp, fun a m => by simp at m, Nat.le_refl _, h⟩
      refine ⟨cc1.len, cc1.nd, fun i ds a e1 e2 => ?_⟩
      obtain ⟨ys, h1, h2⟩ := cc1.at_ i ds a e1 e2
      refine ⟨ys, upd_le hD _ _ h1, RpL.mono (fun b o q => ?_) _ _ h2⟩
      obtain ⟨n, q⟩ := hid_some.mp q
      refine hid_some.mpr ⟨fun z => ?_, upd_le hD _ _ q⟩
      rcases z with z | z
      · exact n z
      · have z : b = D := by simpa using z
        subst z
        rw [hD] at q; cases q
    · -- the walked thing stands
      rintro i H' _ ⟨xs, acc, fps, c', sb, cc, hd', al, nd, fr, _, _⟩
      refine hG H' (fun a => hsOf B fp a ∨ a ∈ D :: fps.flatten) fun a o q => ?_
      obtain ⟨n, q⟩ := hid_some.mp q
      refine hid_some.mpr ⟨fun z => ?_, sb a o (fun m => n (S1.ps a m)) q⟩
      rcases z with z | z
      · exact n z
      · rcases List.mem_cons.mp z with z | z
        · subst z; rw [hD] at q; cases q
        · rw [(fr a z).1] at q; cases q
    · -- a turn
      rintro i x H' H2 hi ⟨xs, acc, fps, c', sb, cc, hd', al, nd, fr, hxs, hr⟩ y
      have leP : Le (hid H1 (hsOf B fp)) (hid H' fun a => hsOf B fp a ∨ a ∈ D :: fps.flatten) := fun a o q => by
        obtain ⟨n, q⟩ := hid_some.mp q
        refine hid_some.mpr ⟨fun z => ?_, sb a o (fun m => n (S1.ps a m)) q⟩
        rcases z with z | z
        · exact n z
        · rcases List.mem_cons.mp z with z | z
          · subst z; rw [hD] at q; cases q
          · rw [(fr a z).1] at q; cases q
      have thP : ∀ a, (hsOf B fp a ∨ a ∈ D :: fps.flatten) → ∃ o, H' a = some o ∧ HO.nt o = true := by
        rintro a (z | z)
        · by_cases hp : a ∈ B.ps
          · obtain ⟨zs, e⟩ := cc.there hp
            exact ⟨_, e, rfl⟩
          · obtain ⟨o, e, t⟩ := S1.thereN z
            exact ⟨o, sb a o hp e, t⟩
        · rcases List.mem_cons.mp z with z | z
          · subst z; exact ⟨_, hd', rfl⟩
          · exact (fr a z).2.2
      obtain ⟨le2, d, ed, rx⟩ := hY i H' x H2 _ thP leP y
      -- the block's state at H2
      have sb2 : SB B.ps H1 H2 := sb.trans fun a o _ q => le2 a o q
      have fr2 : ∀ a ∈ D :: fps.flatten, H1 a = none ∧ a ∉ B.ps ∧ ∃ o, H2 a = some o ∧ HO.nt o = true := fun a m => by
        rcases List.mem_cons.mp m with m | m
        · subst m; exact ⟨hD, hDps, _, le2 _ _ hd', rfl⟩
        · obtain ⟨h1, h2, o, h3, h4⟩ := fr a m
          exact ⟨h1, h2, o, le2 _ _ h3, h4⟩
      have cc2 : CsR B (fun a => hsOf B fp a ∨ a ∈ D :: fps.flatten) H2 c' := cc.next (fun a m => .inl (S1.ps a m)) le2
      have S2 := S1.block (vs := vs) hno sb2 fr2 cc2
      have hP : ∀ a, hsOf ⟨B.K, B.mg, B.ps, fun a => B.h0 a ∨ a ∈ D :: fps.flatten⟩ fp a ↔ (hsOf B fp a ∨ a ∈ D :: fps.flatten) := fun a => by
        constructor
        · rintro ((h | h) | h)
          · exact .inl (.inl h)
          · exact .inr h
          · exact .inl (.inr h)
        · rintro ((h | h) | h)
          · exact .inl (.inl h)
          · exact .inr h
          · exact .inl (.inr h)
      rw [List.drop_eq_getElem_cons hi] at hr
      have ed' : ds[i] = d := by
        rw [List.getElem?_eq_getElem hi] at ed
        exact Option.some.inj ed
      rw [ed'] at hr
      unfold compGo at hr
      cases eg : g d (wipeE env vs) with
      | none => simp only [eg] at hr; exact hr.elim
      | some env1 =>
        simp only [eg] at hr
        refine hg ⟨B.K, B.mg, B.ps, fun a => B.h0 a ∨ a ∈ D :: fps.flatten⟩ rfl _ env1 c' fp _ H2 d x _ S2 (Rp.mono (hid_le (fun a z => (hP a).mp z) fun _ _ _ e => e) _ _ rx) eg fun fp3 σ3 S3 off3 l3 => ⟨?_, ?_⟩
        · rw [off3.wipe]
          apply List.ext_getElem?
          intro j
          by_cases hj : j < σ.length
          · rw [wipe_get (by rw [wipe_length]; exact hj), wipe_get hj]
            split <;> rfl
          · rw [List.getElem?_eq_none (by rw [wipe_length, wipe_length]; omega), List.getElem?_eq_none (by rw [wipe_length]; omega)]
        -- the test
        refine ⟨fun a => B.h0 a ∨ a ∈ D :: fps.flatten, env1, c', fp3, S3, ?_⟩
        cases em : mc env1 c' with
        | bad => simp only [em] at hr; exact hr.elim
        | exc x fs c2 => simp only [em] at hr; exact hr.elim
        | ok z c2 =>
          simp only [em] at hr
          cases et : truthD z.2 with
          | none => simp only [et] at hr; exact hr.elim
          | some b =>
            refine ⟨b, et, fun H3 sb3 cc3 => ?_⟩
            have S4 := S3.next sb3 cc3
            have fpE : ∀ i a, a ∈ fp i → a ∈ fp3 i := fun i a m => by
              rcases l3.back i a m with z | z
              · exact z
              · by_cases hi : i < env.length
                · have ho := List.all_eq_true.mp hno i z
                  rw [List.getElem?_eq_getElem hi] at ho
                  have q := S1.slot i env[i] (List.getElem?_eq_getElem hi)
                  cases es : env[i] with
                  | emp => rw [es] at q; rw [show fp i = [] from q] at m; cases m
                  | sh d => rw [es] at q; rw [q.1] at m; cases m
                  | ow k d => rw [es] at ho; simp [Slot.isOw] at ho
                  | od d => rw [es] at ho; simp [Slot.isOw] at ho
                · rw [S1.out i (by omega)] at m; cases m
            have hP3 : ∀ a, hsOf ⟨B.K, B.mg, B.ps, fun a => B.h0 a ∨ a ∈ D :: fps.flatten⟩ fp3 a ↔ (hsOf B fp a ∨ a ∈ D :: fps.flatten) := fun a =>
              ⟨fun z => (hP a).mp (l3.hs a z), fun z => ((hP a).mpr z).elim .inl fun ⟨i, m⟩ => .inr ⟨i, fpE i a m⟩⟩
            have reR : ∀ {G : Hp} {p q : Addr → Prop}, (∀ a, p a ↔ q a) → Le (hid G p) (hid G q) := fun h => hid_le (fun a z => (h a).mpr z) fun _ _ _ e => e
            have reC : ∀ {G : Hp} {c : Cells} {B2 : Bx} {p q : Addr → Prop}, B2.K = B.K → B2.mg = B.mg → B2.ps = B.ps → (∀ a, q a → p a) → CsR B2 p G c → CsR B q G c := fun h1 h2 h3 h c => (CsR.re h1 h2 h3 c).less h
            have sb23 : ∀ {H4 : Hp}, SB B.ps H2 H4 → SB B.ps H1 H4 := fun s => sb2.trans s
            have alAt : ∀ {H4 : Hp}, SB B.ps H2 H4 → All3 (RpO (B.Rp H4 fun a => hsOf B fp a ∨ a ∈ D :: fps.flatten) H4 kk) acc xs fps := fun {H4} s => al.imp fun e v f m r => r.mono (Rp.mono (hid_le (fun _ h => h) fun a o n q => s a o (fun m => n (.inl (S1.ps a m))) (le2 a o q))) fun a o m2 q => s a o (fr a (List.mem_flatten.mpr ⟨f, m, m2⟩)).2.1 (le2 a o q)
            have frAt : ∀ {H4 : Hp}, SB B.ps H2 H4 → ∀ a ∈ fps.flatten, H1 a = none ∧ a ∉ B.ps ∧ ∃ o, H4 a = some o ∧ HO.nt o = true := fun s a m => let ⟨h1, h2, o, h3, h4⟩ := fr a m; ⟨h1, h2, o, s a o h2 (le2 a o h3), h4⟩
            cases b with
            | false =>
              simp only [et] at hr
              refine iteF ⟨xs, acc, fps, c2, sb23 sb3, reC (B2 := ⟨B.K, B.mg, B.ps, fun a => B.h0 a ∨ a ∈ D :: fps.flatten⟩) rfl rfl rfl (fun a z => (hP3 a).mpr z) cc3, sb3 D _ hDps (le2 D _ hd'), alAt sb3, nd, frAt sb3, by omega, hr⟩
            | true =>
              simp only [et] at hr
              refine iteT ⟨fun a => B.h0 a ∨ a ∈ D :: fps.flatten, env1, c2, fp3, S4, ?_⟩
              cases ee : me env1 c2 with
              | bad => simp only [ee] at hr; exact hr.elim
              | exc x fs c3 => simp only [ee] at hr; exact hr.elim
              | ok y c3 =>
                simp only [ee] at hr
                split at hr
                case isFalse => exact hr.elim
                rename_i hk
                obtain ⟨hk1, hk2⟩ := hk
                intro z H4 sb4 cc4 pz
                have sb24 : SB B.ps H2 H4 := fun a o n q => sb4 a o n (sb3 a o n q)
                have hd4 : H4 D = some (.lst xs) := sb24 D _ hDps (le2 D _ hd')
                have hsl := sizeLine_eq
                have hr' : TCx B W kk fp σ H Q (acc ++ [y.2]) (compGo kk g mc me (wipeE env vs) (ds.drop (i + 1)) c3) := by
                  cases e9 : compGo kk g mc me (wipeE env vs) (ds.drop (i + 1)) c3 with
                  | ok es c4 => simp only [e9] at hr; show TEx B W fp σ H (.ok (.fr kk, .lst ((acc ++ [y.2]) ++ es)) c4) Q; rw [List.append_assoc]; exact hr
                  | exc x fs c4 => simp only [e9] at hr; exact hr.elim
                  | bad => simp only [e9] at hr; exact hr.elim
                refine ⟨xs, hd4, by omega, ?_⟩
                have updS : SB B.ps H2 (upd H4 D (.lst (xs ++ [z]))) → True := fun _ => trivial
                have updL : ∀ a o, a ≠ D → H4 a = some o → upd H4 D (.lst (xs ++ [z])) a = some o := fun a o n q => by rw [upd_ne n]; exact q
                have sb1D : SB B.ps H1 (upd H4 D (.lst (xs ++ [z]))) := fun a o n q => updL a o (fun e => by subst e; rw [hD] at q; cases q) (sb23 sb24 a o n q)
                -- the new element: its own lists at f
                obtain ⟨f, ndf, frf, rz⟩ : ∃ f : List Addr, f.Nodup ∧ (∀ a ∈ f, H3 a = none ∧ a ∉ B.ps ∧ ¬ (hsOf B fp a ∨ a ∈ D :: fps.flatten)) ∧ RpO (B.Rp H4 fun a => (hsOf B fp a ∨ a ∈ D :: fps.flatten) ∨ a ∈ f) H4 kk y.2 z f := by
                  cases kk with
                  | zero =>
                    refine ⟨[], List.nodup_nil, fun a m => (nomatch m), rfl, ?_⟩
                    refine Rp.mono (hid_le (fun a z => ?_) fun _ _ _ e => e) _ _ (pz.rp hk1)
                    rcases z with z | z
                    · exact (hP3 a).mpr z
                    · cases z
                  | succ k =>
                    obtain ⟨ty, dy⟩ := y
                    cases ty with
                    | st => cases hk1
                    | tr j => cases hk1
                    | fr j =>
                      have hj : j = k := of_decide_eq_true hk1
                      subst hj
                      obtain ⟨f, h1, h2, h3⟩ := pz
                      exact ⟨f, h1, fun a m => ⟨(h2 a m).1, (h2 a m).2.1, fun z => (h2 a m).2.2 ((hP3 a).mpr z)⟩, h3.mono (Rp.mono (hid_le (fun a z => z.elim (fun z => .inl ((hP3 a).mpr z)) .inr) fun _ _ _ e => e)) fun _ _ _ e => e⟩
                have thereF : ∀ a ∈ f, ∃ o, H4 a = some o ∧ HO.nt o = true := fun a m => let ⟨zs, e⟩ := rz.there a m; ⟨_, e, rfl⟩
                have fH : ∀ a ∈ f, H' a = none := fun a m => by
                  cases e : H' a with
                  | none => rfl
                  | some o =>
                    have := sb3 a o (frf a m).2.1 (le2 a o e)
                    rw [(frf a m).1] at this; cases this
                have fl : (fps ++ [f]).flatten = fps.flatten ++ f := by simp
                have memP : ∀ a, (hsOf B fp a ∨ a ∈ D :: (fps ++ [f]).flatten) ↔ ((hsOf B fp a ∨ a ∈ D :: fps.flatten) ∨ a ∈ f) := fun a => by
                  rw [fl]
                  simp only [List.mem_cons, List.mem_append]
                  constructor
                  · rintro (z | z | z | z)
                    · exact .inl (.inl z)
                    · exact .inl (.inr (.inl z))
                    · exact .inl (.inr (.inr z))
                    · exact .inr z
                  · rintro ((z | z | z) | z)
                    · exact .inl z
                    · exact .inr (.inl z)
                    · exact .inr (.inr (.inl z))
                    · exact .inr (.inr (.inr z))
                -- what is represented without D stays so
                have leD : ∀ {p : Addr → Prop}, p D → Le (hid H4 p) (hid (upd H4 D (.lst (xs ++ [z]))) p) := fun hp a o q => by
                  obtain ⟨n, q⟩ := hid_some.mp q
                  exact hid_some.mpr ⟨n, updL a o (fun e => by subst e; exact n hp) q⟩
                refine ⟨xs ++ [z], acc ++ [y.2], fps ++ [f], c3, sb1D, ?_, upd_same, ?_, ?_, ?_, by simp; omega, hr'⟩
                · -- the cells
                  refine ⟨cc4.len, cc4.nd, fun j es a e1 e2 => ?_⟩
                  obtain ⟨ys, h1, h2⟩ := cc4.at_ j es a e1 e2
                  have haD : a ≠ D := fun e => hDps (by rw [← e]; exact List.mem_of_getElem? e2)
                  refine ⟨ys, updL a _ haD h1, ?_⟩
                  rcases hk2 with hk2 | hk2
                  · subst hk2
                    have f0 : f = [] := rz.1
                    subst f0
                    refine RpL.mono (fun b o q => ?_) _ _ h2
                    obtain ⟨n, q⟩ := hid_some.mp q
                    refine hid_some.mpr ⟨fun w => n ((hP3 b).mpr ?_), updL b o (fun e => n ((hP3 b).mpr (.inr (by rw [e]; exact List.mem_cons_self ..)))) q⟩
                    rcases (memP b).mp w with w | w
                    · exact w
                    · cases w
                  · exact atom_rpl (List.all_eq_true.mp hk2 es (List.mem_of_getElem? e1)) h2
                · -- the elements
                  refine All3.append (al.imp fun e v f' m r => r.mono (Rp.mono fun a o q => ?_) fun a o m2 q => ?_) (.cons (rz.mono (Rp.mono fun a o q => ?_) fun a o m q => updL a o (fun e => ?_) q) .nil)
                  · obtain ⟨n, q⟩ := hid_some.mp q
                    refine hid_some.mpr ⟨fun w => ?_, updL a o (fun e => n (.inr (by rw [e]; exact List.mem_cons_self ..))) (sb24 a o (fun m => n (.inl (S1.ps a m))) (le2 a o q))⟩
                    rcases (memP a).mp w with w | w
                    · exact n w
                    · rw [fH a w] at q; cases q
                  · refine updL a o (fun e => ?_) (sb24 a o (fr a (List.mem_flatten.mpr ⟨f', m, m2⟩)).2.1 (le2 a o q))
                    exact (List.nodup_cons.mp nd).1 (by rw [← e]; exact List.mem_flatten.mpr ⟨f', m, m2⟩)
                  · obtain ⟨n, q⟩ := hid_some.mp q
                    exact hid_some.mpr ⟨fun w => n ((memP a).mp w), updL a o (fun e => n (.inl (.inr (by rw [e]; exact List.mem_cons_self ..)))) q⟩
                  · exact (frf a m).2.2 (.inr (by rw [e]; exact List.mem_cons_self ..))
                · -- apart
                  rw [fl]
                  have h1 := List.nodup_cons.mp nd
                  refine List.nodup_cons.mpr ⟨fun m => ?_, List.nodup_append.mpr ⟨h1.2, ndf, fun a ma b mb e => ?_⟩⟩
                  · rcases List.mem_append.mp m with m | m
                    · exact h1.1 m
                    · exact (frf D m).2.2 (.inr (List.mem_cons_self ..))
                  · subst e
                    exact (frf a mb).2.2 (.inr (List.mem_cons_of_mem _ ma))
                · intro a m
                  rw [fl] at m
                  rcases List.mem_append.mp m with m | m
                  · obtain ⟨h1, h2, o, h3, h4⟩ := frAt sb24 a m
                    exact ⟨h1, h2, o, updL a o (fun e => (List.nodup_cons.mp nd).1 (by rw [← e]; exact m)) h3, h4⟩
                  · obtain ⟨o, h3, h4⟩ := thereF a m
                    refine ⟨?_, (frf a m).2.1, o, updL a o (fun e => (frf a m).2.2 (.inr (by rw [e]; exact List.mem_cons_self ..))) h3, h4⟩
                    cases e : H1 a with
                    | none => rfl
                    | some o' =>
                      have := sb a o' (frf a m).2.1 e
                      rw [fH a m] at this; cases this
    · -- the end
      rintro H' ⟨xs, acc, fps, c', sb, cc, hd', al, nd, fr, _, hr⟩
      rw [List.drop_length] at hr
      have hr : TEx B W fp σ H (.ok (.fr kk, .lst (acc ++ [])) c') Q := hr
      rw [List.append_nil] at hr
      refine hr _ H' (sb1.trans sb) (cc.less fun a z => .inl z) ⟨D :: fps.flatten, nd, fun a m => ?_, D, acc, xs, fps, rfl, rfl, hd', rfl, al⟩
      have none_of : ∀ a, H1 a = none → a ∉ B.ps → H a = none := fun a n m => by
        cases e : H a with
        | none => rfl
        | some o =>
          have := sb1 a o m e
          rw [n] at this; cases this
      rcases List.mem_cons.mp m with m | m
      · subst m; exact ⟨none_of _ hD hDps, hDps, hDhs⟩
      · obtain ⟨h1, h2, _⟩ := fr a m
        refine ⟨none_of a h1 h2, h2, fun z => ?_⟩
        obtain ⟨o, e⟩ := S1.there z
        rw [h1] at e; cases e
end
end Pc

set_option Elab.async false
set_option maxRecDepth 100000
set_option maxHeartbeats 4000000
/-! Pc9b: comprehensions of several clauses: a clause's loop, whatever stands behind it. -/
namespace Pc
open PySem PySem.Spec PyProof.Rows L2
/-- what stands behind a clause: the list at D grows; then Nx -/
abbrev BT := L2.St → Hp → Addr → (Hp → Prop) → Prop
/-- the element -/
def bEl (te : TE) : BT := fun σ H D Nx => te σ H fun y H' => ∃ acc, H' D = some (.lst acc) ∧ acc.length < sizeLine ∧ Nx (upd H' D (.lst (acc ++ [y])))
def lpW (J : It) (g : TG) (tt : TT) (b : BT) (vs : List Nat) (σ : L2.St) (D : Addr) (Hs : Hp) (Fin : Hp → Prop) : Prop := ∃ W : Nat → Nat → Hp → Prop, (∃ m, W 0 m Hs) ∧ ∀ j k H, W j k H →
  (J.stop j H ∧ Fin H) ∨ (J.go j H ∧ ∃ Nx : Hp → Prop, (∀ H', Nx H' → ∃ k', k' < k ∧ W (j + 1) k' H') ∧ ∀ x H', J.yld j H x H' → g x (wipe σ vs) H' fun σ3 H5 => wipe σ3 vs = wipe σ vs ∧ tt σ3 H5 fun bb H6 => if bb = true then b σ3 H6 D Nx else Nx H6)
/-- a further clause -/
def bLp (wi : TI) (g : TG) (tt : TT) (b : BT) (vs : List Nat) : BT := fun σ H D Nx => wi σ H fun J H4 => lpW J g tt b vs σ D H4 Nx
/-- the whole -/
def tOut (wi : TI) (g : TG) (tt : TT) (b : BT) (vs : List Nat) : TE := fun σ H Q => wi σ H fun J H1 => ∀ D, H1 D = none → lpW J g tt b vs σ D (upd H1 D (.lst [])) fun H => Q (.ref D) H
/-! the plain reading -/
abbrev BS := List Slot → Cells → Rs (List D)
def sEl (me : ES) : BS := fun env c => match me env c with
  | .ok y c1 => if y.1.plain = true then .ok [y.2] c1 else .bad
  | _ => .bad
def lpGo (g : GS) (mc : ES) (mb : BS) (env : List Slot) : List D → Cells → Rs (List D)
  | [], c => .ok [] c
  | d :: ds, c => match g d env with
    | none => .bad
    | some env1 => (match mc env1 c with
      | .ok x c1 => (match truthD x.2 with
        | some true => (match mb env1 c1 with
          | .ok es c2 => (match lpGo g mc mb env ds c2 with
            | .ok rs c3 => .ok (es ++ rs) c3
            | _ => .bad)
          | _ => .bad)
        | some false => lpGo g mc mb env ds c1
        | none => .bad)
      | _ => .bad)
def sLp (vs : List Nat) (g : GS) (mi : IS) (mc : ES) (mb : BS) : BS := fun env c => match mi env c with
  | .ok ds c1 => if noOwn env vs = true then lpGo g mc mb (wipeE env vs) ds c1 else .bad
  | _ => .bad
/-- as a value -/
def sCompN (vs : List Nat) (g : GS) (mi : IS) (mc : ES) (mb : BS) : ES := fun env cs => match mi env cs with
  | .ok ds c => if noOwn env vs = true then (match lpGo g mc mb (wipeE env vs) ds c with
    | .ok es c2 => if es.length ≤ 100000 then .ok (.fr 0, .lst es) c2 else .bad
    | _ => .bad) else .bad
  | .exc x fs c => .exc x fs c
  | .bad => .bad
/-- all stands but the list at D -/
def SBd (ps : List Addr) (D : Addr) (H H' : Hp) : Prop := ∀ a o, a ∉ ps → a ≠ D → H a = some o → H' a = some o
theorem SBd.trans {ps : List Addr} {D : Addr} {H H1 H2 : Hp} (a : SBd ps D H H1) (b : SBd ps D H1 H2) : SBd ps D H H2 := fun c o n m e => b c o n m (a c o n m e)
theorem SB.d {ps : List Addr} {D : Addr} {H H1 : Hp} (a : SB ps H H1) : SBd ps D H H1 := fun c o n _ e => a c o n e
structure BodyR (B : Bx) (b : BT) (sem : BS) : Prop where
  rd : ∀ (h0 : Addr → Prop) (env : List Slot) (c c2 : Cells) (fp : Nat → List Addr) (σ : L2.St) (H : Hp) (A : Addr) (xs : List V) (acc es : List D) (Nx : Hp → Prop), A ∉ B.ps → h0 A → (∀ i, A ∉ fp i) → StR ⟨B.K, B.mg, B.ps, h0⟩ env c fp σ H → H A = some (.lst xs) → Pc.RpL B.K B.mg B.ps (hid H (hsOf ⟨B.K, B.mg, B.ps, h0⟩ fp)) acc xs →
    sem env c = .ok es c2 → acc.length + es.length ≤ 100000 →
    (∀ H' xs', SBd B.ps A H H' → CsR ⟨B.K, B.mg, B.ps, h0⟩ (hsOf ⟨B.K, B.mg, B.ps, h0⟩ fp) H' c2 → H' A = some (.lst xs') → Pc.RpL B.K B.mg B.ps (hid H' (hsOf ⟨B.K, B.mg, B.ps, h0⟩ fp)) (acc ++ es) xs' → Nx H') → b σ H A Nx
theorem RpO.mk1' {K : PySem.W.Frag} {mg : Str → Option Value} {ps : List Addr} {H G : Hp} {ds : List D} {a : Addr} {xs : List V} (h : H a = some (.lst xs)) (r : Pc.RpL K mg ps G ds xs) : RpO (Pc.Rp K mg ps G) H 1 (.lst ds) (.ref a) [a] :=
  ⟨a, ds, xs, ds.map fun _ => [], rfl, rfl, h, by rw [flatten_map_nil], RpL.all3 (fun _ _ h => h) r⟩
section
variable {B : Bx} {env : List Slot} {cs cs' : Cells} {fp : Nat → List Addr} {σ : L2.St} {H H' H1 : Hp} {A : Addr}
theorem sbd_le (hA : B.h0 A) (hps : ∀ a, a ∈ B.ps → B.h0 a) (s : SBd B.ps A H H') : Le (hid H (hsOf B fp)) (hid H' (hsOf B fp)) := hid_le (fun _ h => h) fun a o n e => s a o (fun m => n (.inl (hps a m))) (fun e => n (.inl (by rw [e]; exact hA))) e
/-- behind a growth of the list at A -/
theorem StR.nextd (S : StR B env cs fp σ H) (hA : B.h0 A) (hf : ∀ i, A ∉ fp i) (s : SBd B.ps A H H') (there : ∃ o, H' A = some o ∧ HO.nt o = true) (c : CsR B (hsOf B fp) H' cs') : StR B env cs' fp σ H' := by
  have le := sbd_le (fp := fp) hA S.ps0 s
  refine ⟨S.len, fun i sl e => ?_, S.out, c, S.ps0, fun a h => ?_, S.own, S.dis, S.nd⟩
  · have q := S.slot i sl e
    cases sl with
    | emp => exact q
    | sh d => exact ⟨q.1, q.2.choose, q.2.choose_spec.1, Rp.mono le _ _ q.2.choose_spec.2⟩
    | ow k d =>
      obtain ⟨v, e1, r⟩ := q
      exact ⟨v, e1, r.mono (Rp.mono le) fun a o m z => s a o (S.own i a m) (fun e => hf i (by rw [← e]; exact m)) z⟩
    | od d =>
      obtain ⟨a, e1, ef, r⟩ := q
      have m : a ∈ fp i := by rw [ef]; exact List.mem_singleton.mpr rfl
      exact ⟨a, e1, ef, r.mono (fun o z => s a o (S.own i a m) (fun e => hf i (by rw [← e]; exact m)) z) fun ds xs z => RpL.mono le ds xs z⟩
  · by_cases hp : a ∈ B.ps
    · obtain ⟨xs, e⟩ := c.there hp
      exact ⟨_, e, rfl⟩
    · by_cases ha : a = A
      · rw [ha]; exact there
      · obtain ⟨o, e, t⟩ := S.th0 a h
        exact ⟨o, s a o hp ha e, t⟩
theorem csr_upd (hA : A ∉ B.ps) (hh : hsOf B fp A) {u : HO} (c : CsR B (hsOf B fp) H cs) : CsR B (hsOf B fp) (upd H A u) cs := by
  refine ⟨c.len, c.nd, fun j es b e1 e2 => ?_⟩
  obtain ⟨ys, h1, h2⟩ := c.at_ j es b e1 e2
  have hb : b ≠ A := fun e => hA (by rw [← e]; exact List.mem_of_getElem? e2)
  exact ⟨ys, by rw [upd_ne hb]; exact h1, RpL.mono (hid_le (fun _ h => h) fun a o n q => by rw [upd_ne (fun e => n (by rw [e]; exact hh))]; exact q) _ _ h2⟩
theorem body_el {me : ES} : BodyR B (bEl (tEx B me)) (sEl me) := by
  refine ⟨fun h0 env c c2 fp σ H A xs acc es Nx hA hA0 hAf S hd r e hl fin => ?_⟩
  refine ⟨h0, env, c, fp, S, ?_⟩
  unfold sEl at e
  cases em : me env c with
  | bad => rw [em] at e; cases e
  | exc => rw [em] at e; cases e
  | ok y c1 =>
    rw [em] at e
    simp only at e
    split at e
    case isFalse => cases e
    rename_i hp
    cases e
    intro v H1 sb cc p
    have hd1 : H1 A = some (.lst xs) := sb A _ hA hd
    have hsl := sizeLine_eq
    have hlx := r.length
    simp at hl
    have hh : hsOf ⟨B.K, B.mg, B.ps, h0⟩ fp A := .inl hA0
    have le0 : Le (hid H (hsOf ⟨B.K, B.mg, B.ps, h0⟩ fp)) (hid H1 (hsOf ⟨B.K, B.mg, B.ps, h0⟩ fp)) := sb_le S.ps0 sb
    have le1 : Le (hid H1 (hsOf ⟨B.K, B.mg, B.ps, h0⟩ fp)) (hid (upd H1 A (.lst (xs ++ [v]))) (hsOf ⟨B.K, B.mg, B.ps, h0⟩ fp)) := hid_le (fun _ h => h) fun a o n q => by rw [upd_ne (fun e => n (by rw [e]; exact hh))]; exact q
    refine ⟨xs, hd1, by omega, fin _ (xs ++ [v]) (fun a o n m q => by rw [upd_ne m]; exact sb a o n q) (csr_upd (B := ⟨B.K, B.mg, B.ps, h0⟩) hA hh cc) upd_same ?_⟩
    exact RpL.append (RpL.mono le1 _ _ (RpL.mono le0 _ _ r)) (RpL.cons (Rp.mono le1 _ _ (p.rp hp)) RpL.nil)
/-- the loop of a clause -/
theorem loop_core {J : It} {ds : List D} {g : GS} {t : TG} {mc : ES} {b : BT} {mb : BS} {vs : List Nat} {xs0 : List V} {acc0 es : List D} {c c2 : Cells} {Fin : Hp → Prop} {envw : List Slot} {σ0 : L2.St}
    (hg : ∀ (B' : Bx), B'.K = B.K → ∀ env env' cs fp (σ : L2.St) H d v (Q : L2.St → Hp → Prop), StR B' env cs fp σ H → B'.Rp H (hsOf B' fp) d v → g d env = some env' →
      (∀ fp' σ', StR B' env' cs fp' σ' H → Off vs σ σ' → FpSub vs fp fp' → Q σ' H) → t v σ H Q)
    (hb : BodyR B b mb) (hA : A ∉ B.ps) (hA0 : B.h0 A) (hAf : ∀ i, A ∉ fp i) (hE : ∀ i ∈ vs, fp i = []) (hw : σ = wipe σ0 vs)
    (S : StR B envw c fp σ H) (it : ItR B (hsOf B fp) H1 J ds) (le1 : Le (hid H1 (hsOf B fp)) (hid H (hsOf B fp))) (hd : H A = some (.lst xs0)) (r0 : Pc.RpL B.K B.mg B.ps (hid H (hsOf B fp)) acc0 xs0)
    (e0 : lpGo g mc mb envw ds c = .ok es c2) (hl0 : acc0.length + es.length ≤ 100000)
    (fin : ∀ H' xs', SBd B.ps A H H' → CsR B (hsOf B fp) H' c2 → H' A = some (.lst xs') → Pc.RpL B.K B.mg B.ps (hid H' (hsOf B fp)) (acc0 ++ es) xs' → Fin H') :
    lpW J t (tTx B mc) b vs σ0 A H Fin := by
  obtain ⟨G, Y, wk, hG, hY⟩ := it
  have Pv : Nat → Hp → Prop := fun _ _ => True
  let P : Nat → Hp → Prop := fun i H' => ∃ xs acc es' c', SBd B.ps A H H' ∧ CsR B (hsOf B fp) H' c' ∧ H' A = some (.lst xs) ∧ Pc.RpL B.K B.mg B.ps (hid H' (hsOf B fp)) acc xs ∧ lpGo g mc mb envw (ds.drop i) c' = .ok es' c2 ∧ acc ++ es' = acc0 ++ es
  have hps : ∀ a, a ∈ B.ps → B.h0 a := S.ps0
  have leH : ∀ {H'}, SBd B.ps A H H' → Le (hid H (hsOf B fp)) (hid H' (hsOf B fp)) := fun s => sbd_le hA0 hps s
  refine ⟨fun i m H' => m = ds.length - i ∧ i ≤ ds.length ∧ P i H', ⟨ds.length, by simp, Nat.zero_le _, xs0, acc0, es, c, fun _ _ _ _ e => e, S.cells, hd, r0, e0, rfl⟩, ?_⟩
  rintro i m H' ⟨rfl, hi, xs, acc, es', c', sb, cc, hd', ra, ego, etot⟩
  have q : G H' := hG H' (hsOf B fp) fun a o z => leH sb a o (le1 a o z)
  by_cases hlt : i < ds.length
  case neg =>
    have ei : i = ds.length := by omega
    subst ei
    rw [List.drop_length] at ego
    cases ego
    refine .inl ⟨wk.stops H' q, fin H' xs sb cc hd' ?_⟩
    rw [← etot, List.append_nil]
    exact ra
  refine .inr ⟨wk.goes i H' hlt q, P (i + 1), fun H2 p2 => ⟨ds.length - (i + 1), by omega, rfl, hlt, p2⟩, fun x H2 y => ?_⟩
  have S1 : StR B envw c' fp σ H' := S.nextd hA0 hAf sb ⟨_, hd', rfl⟩ cc
  have thP : ∀ a, hsOf B fp a → ∃ o, H' a = some o ∧ HO.nt o = true := fun a z => S1.thereN z
  obtain ⟨le2, d, ed, rx⟩ := hY i H' x H2 (hsOf B fp) thP (fun a o z => leH sb a o (le1 a o z)) (wk.yields i H' x H2 hlt q y)
  have cc2 : CsR B (hsOf B fp) H2 c' := cc.next (fun a m => .inl (hps a m)) le2
  have S2 : StR B envw c' fp σ H2 := S1.next (fun a o _ e => le2 a o e) cc2
  have lehid2 : Le (hid H' (hsOf B fp)) (hid H2 (hsOf B fp)) := hid_le (fun _ h => h) fun a o _ e => le2 a o e
  rw [List.drop_eq_getElem_cons hlt] at ego
  have ed' : ds[i] = d := by
    rw [List.getElem?_eq_getElem hlt] at ed
    exact Option.some.inj ed
  rw [ed'] at ego
  unfold lpGo at ego
  cases eg : g d envw with
  | none => simp only [eg] at ego; cases ego
  | some env1 =>
    simp only [eg] at ego
    rw [← hw]
    refine hg B rfl _ env1 c' fp σ H2 d x _ S2 rx eg fun fp3 σ3 S3 off3 l3 => ⟨?_, ?_⟩
    · rw [off3.wipe, hw]
      apply List.ext_getElem?
      intro j
      by_cases hj : j < σ0.length
      · rw [wipe_get (by rw [wipe_length]; exact hj), wipe_get hj]
        split <;> rfl
      · rw [List.getElem?_eq_none (by rw [wipe_length, wipe_length]; omega), List.getElem?_eq_none (by rw [wipe_length]; omega)]
    have hP3 : ∀ a, hsOf B fp3 a ↔ hsOf B fp a := fun a => ⟨fun z => l3.hs a z, fun z => z.elim .inl fun ⟨j, m⟩ => (l3.back j a m).elim (fun m => .inr ⟨j, m⟩) fun hv => by rw [hE j hv] at m; cases m⟩
    have eP3 : hsOf B fp3 = hsOf B fp := funext fun a => propext (hP3 a)
    have hAf3 : ∀ j, A ∉ fp3 j := fun j m => hAf j (l3.sub j A m)
    refine ⟨B.h0, env1, c', fp3, S3, ?_⟩
    cases em : mc env1 c' with
    | bad => simp only [em] at ego; cases ego
    | exc z fs c3 => simp only [em] at ego; cases ego
    | ok z c3 =>
      simp only [em] at ego
      cases et : truthD z.2 with
      | none => simp only [et] at ego; cases ego
      | some bb =>
        refine ⟨bb, et, fun H3 sb3 cc3 => ?_⟩
        have S4 : StR B env1 c3 fp3 σ3 H3 := S3.next sb3 cc3
        have sb23 : SBd B.ps A H' H3 := fun a o n _ e => sb3 a o n (le2 a o e)
        have hd3 : H3 A = some (.lst xs) := sb3 A _ hA (le2 _ _ hd')
        have le3 : Le (hid H' (hsOf B fp)) (hid H3 (hsOf B fp)) := fun a o z => sb_le hps sb3 a o (lehid2 a o z)
        cases bb with
        | false =>
          simp only [et] at ego
          have cc3 : CsR B (hsOf B fp3) H3 c3 := cc3
          rw [eP3] at cc3
          exact iteF ⟨xs, acc, es', c3, sb.trans sb23, cc3, hd3, RpL.mono le3 _ _ ra, ego, etot⟩
        | true =>
          simp only [et] at ego
          cases eb : mb env1 c3 with
          | bad => simp only [eb] at ego; cases ego
          | exc => simp only [eb] at ego; cases ego
          | ok es1 c4 =>
            simp only [eb] at ego
            cases er : lpGo g mc mb envw (ds.drop (i + 1)) c4 with
            | bad => simp only [er] at ego; cases ego
            | exc => simp only [er] at ego; cases ego
            | ok rs c5 =>
              simp only [er] at ego
              cases ego
              have hlen : acc.length + (es1 ++ rs).length = acc0.length + es.length := by
                have := congrArg List.length etot
                simpa using this
              have hl1 : acc.length + es1.length ≤ 100000 := by
                rw [List.length_append] at hlen
                omega
              have ra3 : Pc.RpL B.K B.mg B.ps (hid H3 (hsOf B fp3)) acc xs := by rw [eP3]; exact RpL.mono le3 _ _ ra
              refine iteT (hb.rd B.h0 env1 c3 c4 fp3 σ3 H3 A xs acc es1 _ hA hA0 hAf3 S4 hd3 ra3 eb hl1 fun H5 xs5 sb5 cc5 hd5 r5 => ?_)
              have cc5 : CsR B (hsOf B fp3) H5 c4 := cc5
              have r5 : Pc.RpL B.K B.mg B.ps (hid H5 (hsOf B fp3)) (acc ++ es1) xs5 := r5
              rw [eP3] at cc5 r5
              exact ⟨xs5, acc ++ es1, rs, c4, (sb.trans sb23).trans sb5, cc5, hd5, r5, er, by rw [List.append_assoc]; exact etot⟩
theorem wipe_slots {vs : List Nat} (S : StR B env cs fp σ H) (no : noOwn env vs = true) : ∀ i ∈ vs, fp i = [] := by
  intro i hv
  by_cases hi : i < env.length
  · have ho := List.all_eq_true.mp no i hv
    rw [List.getElem?_eq_getElem hi] at ho
    have q := S.slot i env[i] (List.getElem?_eq_getElem hi)
    cases es : env[i] with
    | emp => rw [es] at q; exact q
    | sh d => rw [es] at q; exact q.1
    | ow k d => rw [es] at ho; simp [Slot.isOw] at ho
    | od d => rw [es] at ho; simp [Slot.isOw] at ho
  · exact S.out i (by omega)
/-- a further clause -/
theorem body_lp {wi : TI} {g : GS} {t : TG} {mi : IS} {mc : ES} {b : BT} {mb : BS} {vs : List Nat}
    (hwi : ∀ (h0 : Addr → Prop) (σ : L2.St) (H : Hp) (R : It → Hp → Prop) env cs fp, StR ⟨B.K, B.mg, B.ps, h0⟩ env cs fp σ H → TIx ⟨B.K, B.mg, B.ps, h0⟩ WF fp σ H (mi env cs) R → wi σ H R)
    (hg : ∀ (B' : Bx), B'.K = B.K → ∀ env env' cs fp (σ : L2.St) H d v (Q : L2.St → Hp → Prop), StR B' env cs fp σ H → B'.Rp H (hsOf B' fp) d v → g d env = some env' →
      (∀ fp' σ', StR B' env' cs fp' σ' H → Off vs σ σ' → FpSub vs fp fp' → Q σ' H) → t v σ H Q)
    (hb : BodyR B b mb) : BodyR B (bLp wi t (tTx B mc) b vs) (sLp vs g mi mc mb) := by
  refine ⟨fun h0 env c c2 fp σ H A xs acc es Nx hA hA0 hAf S hd r e hl fin => ?_⟩
  unfold sLp at e
  refine hwi h0 σ H _ env c fp S ?_
  cases em : mi env c with
  | bad => rw [em] at e; cases e
  | exc => rw [em] at e; cases e
  | ok ds c1 =>
    rw [em] at e
    simp only at e
    split at e
    case isFalse => cases e
    rename_i no
    intro J H4 sb cc it
    have S4 : StR ⟨B.K, B.mg, B.ps, h0⟩ env c1 fp σ H4 := S.next sb cc
    have hE := wipe_slots S4 no
    have e0 : (fun a => h0 a ∨ a ∈ ([] : List Addr)) = h0 := funext fun a => propext ⟨fun z => z.elim id fun m => (by cases m), .inl⟩
    have Sw := S4.block (l := []) (vs := vs) no SB.refl (fun a m => by cases m) (cc.less fun a z => z.elim id fun m => (by cases m))
    rw [e0] at Sw
    have hd4 : H4 A = some (.lst xs) := sb A _ hA hd
    have r4 : Pc.RpL B.K B.mg B.ps (hid H4 (hsOf ⟨B.K, B.mg, B.ps, h0⟩ fp)) acc xs := RpL.mono (sb_le S.ps0 sb) _ _ r
    have hb' : BodyR ⟨B.K, B.mg, B.ps, h0⟩ b mb := ⟨hb.rd⟩
    refine loop_core (B := ⟨B.K, B.mg, B.ps, h0⟩) (fun B' e => hg B' e) hb' hA hA0 hAf hE rfl Sw it (fun _ _ e => e) hd4 r4 e hl fun H' xs' s1 s2 s3 s4 => fin H' xs' (sb.d.trans s1) s2 s3 s4
/-- the whole -/
theorem compN_read {W : WX} {wi : TI} {g : GS} {t : TG} {mi : IS} {mc : ES} {b : BT} {mb : BS} {vs : List Nat}
    (hwi : ∀ (σ : L2.St) (H : Hp) (R : It → Hp → Prop) env cs fp, StR B env cs fp σ H → TIx B W fp σ H (mi env cs) R → wi σ H R)
    (hg : ∀ (B' : Bx), B'.K = B.K → ∀ env env' cs fp (σ : L2.St) H d v (Q : L2.St → Hp → Prop), StR B' env cs fp σ H → B'.Rp H (hsOf B' fp) d v → g d env = some env' →
      (∀ fp' σ', StR B' env' cs fp' σ' H → Off vs σ σ' → FpSub vs fp fp' → Q σ' H) → t v σ H Q)
    (hb : BodyR B b mb) (σ : L2.St) (H : Hp) (Q : VK) (h : tE B W (sCompN vs g mi mc mb) σ H Q) : tOut wi t (tTx B mc) b vs σ H Q := by
  obtain ⟨env, cs, fp, S, h⟩ := h
  unfold sCompN at h
  refine hwi σ H _ env cs fp S ?_
  cases e : mi env cs with
  | bad => rw [e] at h; exact h
  | exc x fs c => rw [e] at h; exact h
  | ok ds c =>
    simp only [e] at h
    split at h
    case isFalse => exact h.elim
    rename_i no
    cases e2 : lpGo g mc mb (wipeE env vs) ds c with
    | bad => simp only [e2] at h; exact h.elim
    | exc => simp only [e2] at h; exact h.elim
    | ok es c2 =>
      simp only [e2] at h
      split at h
      case isFalse => exact h.elim
      rename_i hl
      intro J H1 sb1 cc1 it A hA
      have S1 := S.next sb1 cc1
      have hAps : A ∉ B.ps := fun m => by
        obtain ⟨xs, e⟩ := cc1.there m
        rw [hA] at e; cases e
      have hAhs : ¬ hsOf B fp A := fun m => by
        obtain ⟨o, e⟩ := S1.there m
        rw [hA] at e; cases e
      have hAf : ∀ i, A ∉ fp i := fun i m => hAhs (.inr ⟨i, m⟩)
      have hE := wipe_slots S1 no
      have hP : ∀ a, hsOf ⟨B.K, B.mg, B.ps, fun a => B.h0 a ∨ a ∈ [A]⟩ fp a ↔ (hsOf B fp a ∨ a = A) := fun a => by
        constructor
        · rintro ((h | h) | h)
          · exact .inl (.inl h)
          · exact .inr (List.mem_singleton.mp h)
          · exact .inl (.inr h)
        · rintro ((h | h) | h)
          · exact .inl (.inl h)
          · exact .inr h
          · exact .inl (.inr (List.mem_singleton.mpr h))
      have leU : Le (hid H1 (hsOf B fp)) (hid (upd H1 A (.lst [])) (hsOf ⟨B.K, B.mg, B.ps, fun a => B.h0 a ∨ a ∈ [A]⟩ fp)) := fun a o q => by
        obtain ⟨n, q⟩ := hid_some.mp q
        refine hid_some.mpr ⟨fun z => ?_, upd_le hA a o q⟩
        rcases (hP a).mp z with z | z
        · exact n z
        · rw [z, hA] at q; cases q
      have ccU : CsR B (fun a => hsOf B fp a ∨ a ∈ [A]) (upd H1 A (.lst [])) c := by
        refine ⟨cc1.len, cc1.nd, fun i es a e1 e2 => ?_⟩
        obtain ⟨ys, h1, h2⟩ := cc1.at_ i es a e1 e2
        refine ⟨ys, upd_le hA _ _ h1, RpL.mono (fun b o q => ?_) _ _ h2⟩
        obtain ⟨n, q⟩ := hid_some.mp q
        refine hid_some.mpr ⟨fun z => ?_, upd_le hA _ _ q⟩
        rcases z with z | z
        · exact n z
        · rw [List.mem_singleton.mp z, hA] at q; cases q
      have Sw := S1.block (l := [A]) (vs := vs) no (SB.upd hA) (fun a m => by rw [List.mem_singleton.mp m]; exact ⟨hA, hAps, _, upd_same, rfl⟩) ccU
      have hb' : BodyR ⟨B.K, B.mg, B.ps, fun a => B.h0 a ∨ a ∈ [A]⟩ b mb := ⟨hb.rd⟩
      have it' : ItR ⟨B.K, B.mg, B.ps, fun a => B.h0 a ∨ a ∈ [A]⟩ (hsOf B fp) H1 J ds := it
      -- the walked thing, seen from the block
      obtain ⟨G, Y, wk, hG, hY⟩ := it
      have it2 : ItR ⟨B.K, B.mg, B.ps, fun a => B.h0 a ∨ a ∈ [A]⟩ (hsOf ⟨B.K, B.mg, B.ps, fun a => B.h0 a ∨ a ∈ [A]⟩ fp) (upd H1 A (.lst [])) J ds :=
        ⟨G, Y, wk, fun H' p le => hG H' p fun a o q => le a o (leU a o q), fun i H' x H2 p th le y => hY i H' x H2 p th (fun a o q => le a o (leU a o q)) y⟩
      refine loop_core (B := ⟨B.K, B.mg, B.ps, fun a => B.h0 a ∨ a ∈ [A]⟩) (fun B' e => hg B' e) hb' hAps (.inr (List.mem_singleton.mpr rfl)) hAf hE rfl Sw it2 (fun _ _ e => e) upd_same (RpL.nil) e2 (by simpa using hl) fun H' xs' s1 s2 s3 s4 => ?_
      have nA : ∀ a ∈ [A], H1 a = none ∧ a ∉ B.ps ∧ ¬ hsOf B fp a := fun a m => by rw [List.mem_singleton.mp m]; exact ⟨hA, hAps, hAhs⟩
      have sbF : SB B.ps H1 H' := fun a o n q => s1 a o n (fun e => by rw [e, hA] at q; cases q) (upd_le hA a o q)
      refine h (.ref A) H' (sb1.trans sbF) (CsR.less (fun a z => (hP a).mpr (.inl z)) (CsR.re (B := ⟨B.K, B.mg, B.ps, fun a => B.h0 a ∨ a ∈ [A]⟩) (B' := B) rfl rfl rfl s2)) ?_
      refine ⟨[A], List.nodup_cons.mpr ⟨by simp, .nil⟩, fun a m => ⟨?_, (nA a m).2⟩, ?_⟩
      · cases e : H a with
        | none => rfl
        | some o =>
          have := sb1 a o (nA a m).2.1 e
          rw [(nA a m).1] at this; cases this
      · have s4 : Pc.RpL B.K B.mg B.ps (hid H' (hsOf ⟨B.K, B.mg, B.ps, fun a => B.h0 a ∨ a ∈ [A]⟩ fp)) ([] ++ es) xs' := s4
        rw [List.nil_append] at s4
        refine RpO.mk1' s3 (RpL.mono (hid_le (fun a z => ?_) fun _ _ _ e => e) _ _ s4)
        rcases z with z | z
        · exact (hP a).mpr (.inl z)
        · exact (hP a).mpr (.inr (List.mem_singleton.mp z))
end
/-- an inner clause's source, whatever is hidden -/
def tIx (B : Bx) (mi : IS) : TI := fun σ H R => ∃ h0 env cs fp, StR ⟨B.K, B.mg, B.ps, h0⟩ env cs fp σ H ∧ TIx ⟨B.K, B.mg, B.ps, h0⟩ WF fp σ H (mi env cs) R
theorem pi_ex {X : Cx} {B : Bx} {tg iter : Expr} {mi : IS} (h : ∀ h0, PIm X ⟨B.K, B.mg, B.ps, h0⟩ WF tg iter mi) : PI X tg iter (tIx B mi) :=
  ⟨fun pins s σ H R I ⟨h0, env, cs, fp, S, q⟩ => by
    obtain ⟨wi, hp, rd⟩ := (h h0).ex
    exact hp.run pins s σ H R I (rd σ H R env cs fp S q)⟩
end Pc

set_option Elab.async false
set_option maxRecDepth 100000
set_option maxHeartbeats 4000000
/-! Pc9c: a clause's loop in the model, whatever stands behind it; three clauses. -/
namespace Pc
open PySem PySem.Spec PyProof.Rows L2
/-- no error comes out -/
abbrev nE : Value → Shared → Prop := fun _ _ => False
abbrev Cd := Value → (Shared → Prop) → Shared → Prop
/-- a clause's loop, turn by turn -/
structure LoopRule (Y : Cx) (CE : Expr) (l : Nat) (tg : Expr) (ifs : List Expr) (code : Cd) : Prop where
  run : ∀ (it acc : Value) (R : Result → Shared → Prop) (Iv : Nat → Shared → Prop),
    (∀ k st, Iv k st → wpAny (model Y.prog Y.w) Y.A (pyNext it) (fun r st1 => match r with
      | none => R (.ok .next) st1
      | some v => wpAny (model Y.prog Y.w) Y.A (letOwnedTupleGo tg it v) (fun _ st2 => wpAny (model Y.prog Y.w) Y.A (assign tg Y.env v) (fun _ st3 =>
          wpAny (model Y.prog Y.w) Y.A (forIn ifs true fun c r => if r = true then (do let ok ← isTrue c Y.env (eval c Y.env); pure (ForInStep.yield ok)) else pure (ForInStep.yield r))
            (fun ok st4 => if ok = true then code acc (fun st5 => ∃ m, m < k ∧ Iv m st5) st4 else ∃ m, m < k ∧ Iv m st4) nE st3) nE st2) nE st1) nE st) →
    ∀ k st, Iv k st → codeAny (model Y.prog Y.w) Y.A (.compLoop CE l it acc Y.env) R st
  mono : ∀ (acc : Value) (P P' : Shared → Prop) (st : Shared), (∀ st, P st → P' st) → code acc P st → code acc P' st
/-- what stands behind a clause, in the model -/
structure BodyC (Y : Cx) (b : BT) (vsb : List Nat) (code : Cd) : Prop where
  run : ∀ (pins : List (Addr × Obj)) (st : Shared) (σ : L2.St) (H : Hp) (A : Addr) (Nx : Hp → Prop), Inv Y pins σ H st → b σ H A Nx → code (.ref A) (fun st' => ∃ H', Inv Y pins (wipe σ vsb) H' st' ∧ Nx H') st
theorem wipe_back {σ σ8 : L2.St} {vs vsb : List Nat} (hw : wipe σ8 vs = wipe σ vs) (hs : ∀ i ∈ vsb, i ∈ vs) : (wipe σ vs).length = (wipe σ8 vsb).length ∧ ∀ (j : Nat) v, (wipe σ vs)[j]? = some (some v) → (wipe σ8 vsb)[j]? = some (some v) := by
  refine ⟨by rw [← hw, wipe_length, wipe_length], fun j v e => ?_⟩
  rw [← hw] at e
  obtain ⟨e1, e2⟩ := wipe_some e
  rw [wipe_out fun z => e2 (hs j z)]
  exact e1
theorem clause_loop {Y : Cx} {CE tg : Expr} {l : Nat} {ifs : List Expr} {code : Cd} {t : TG} {tt : TT} {b : BT} {vs vsb : List Nat} (hc : Y.calm = true) (hx : Y.xe = fun _ _ => False) (LR : LoopRule Y CE l tg ifs code) (pg : PG Y tg t) (pt : PTs Y ifs tt) (bc : BodyC Y b vsb code) (hsub : ∀ i ∈ vsb, i ∈ vs)
    {pins : List (Addr × Obj)} {it : Addr} {fp : List Addr} {tn : Nat → Heap → Prop} {J : It} {σ : L2.St} {H : Hp} {s : Shared} {A : Addr} {Fin : Hp → Prop} (T : Turn Y.prog Y.w Y.K tg J fp it tn) (I : Inv Y pins (wipe σ vs) H s) (st : tn 0 s.heap) (fo : ∀ b ∈ fp, H b = none)
    (stat : ∀ {σ' : L2.St} {H' : Hp} {s' : Shared}, Inv Y pins σ' H' s' → (∀ b ∈ fp, H' b = none) → ∀ b ∈ fp, FpOk Y pins H' b) (hl : lpW J t tt b vs σ A H Fin) :
    codeAny (model Y.prog Y.w) Y.A (.compLoop CE l (.ref it) (.ref A) Y.env) (fun r s' => match r with
      | .ok f => f = .next ∧ ∃ H', Inv Y pins (wipe σ vs) H' s' ∧ Fin H'
      | .error _ => False) s := by
  obtain ⟨W, ⟨m0, w0⟩, turn⟩ := hl
  refine LR.run (.ref it) (.ref A) _ (fun k s' => ∃ i H', Inv Y pins (wipe σ vs) H' s' ∧ tn i s'.heap ∧ (∀ b ∈ fp, H' b = none) ∧ W i k H') ?_ m0 s ⟨0, H, I, st, fo, w0⟩
  rintro k s5 ⟨i, H5, I5, st5, n5, w5⟩
  rcases turn i k H5 w5 with ⟨stop, q⟩ | ⟨go, Nx, hNx, step⟩
  · refine thnF (T.done Y rfl rfl rfl hc i pins s5 _ H5 nE I5 (stat I5 n5) st5 stop) fun r s6 ⟨hr, I6⟩ => ?_
    subst hr
    exact ⟨rfl, H5, I6, q⟩
  refine thnF (T.item Y rfl rfl rfl hc i pins s5 _ H5 nE I5 (stat I5 n5) st5 go) fun r s6 ⟨u, hr, h6⟩ => ?_
  subst hr
  refine thnF h6 fun _ s7 ⟨x, H7, I7, r7, y7, st7, n7⟩ => ?_
  have I7' := I7.pinned (stat I7 n7) (T.obj _ _ st7)
  have hxe : ∀ {α : Type} {m : Sem α} {P : α → Shared → Prop} {z : Shared}, wpAny (model Y.prog Y.w) Y.A m P Y.xe z → wpAny (model Y.prog Y.w) Y.A m P nE z := fun h => by rw [hx] at h; exact h
  -- the turn's end
  have fin : ∀ {σ9 : L2.St} {s' : Shared} {H' : Hp}, Inv Y (pins ++ pinsAt fp s7.heap) σ9 H' s' → (wipe σ vs).length = σ9.length → (∀ (j : Nat) v, (wipe σ vs)[j]? = some (some v) → σ9[j]? = some (some v)) → Nx H' →
      ∃ m, m < k ∧ ∃ i H', Inv Y pins (wipe σ vs) H' s' ∧ tn i s'.heap ∧ (∀ b ∈ fp, H' b = none) ∧ W i m H' := fun {σ9 s' H'} I' e1 e2 nx => by
    obtain ⟨m', hm, w'⟩ := hNx H' nx
    have held : ∀ b ∈ fp, ∀ o, s7.heap.get? b = some o → s'.heap.get? b = some o ∧ H' b = none := fun b hb o e => by
      obtain ⟨z1, z2, _⟩ := I'.pin (b, o) (List.mem_append_right _ (List.mem_append_right _ (mem_pinsAt hb e)))
      exact ⟨z1, z2⟩
    refine ⟨m', hm, i + 1, H', (I'.unpinned (pins := pins)).weak e1 e2, T.keep _ _ _ st7 fun b hb o e => (held b hb o e).1, fun b hb => ?_, w'⟩
    obtain ⟨o, e, _⟩ := T.obj _ _ st7 b hb
    exact (held b hb o e).2
  refine thnF (hxe (pg.run _ s7 _ H7 x u _ I7' r7 (step x H7 y7))) fun _ s8 ⟨σ8, H8, I8, hw8, q8⟩ => ?_
  refine thnF (hxe (pt.run _ s8 σ8 H8 _ I8 q8)) fun bb s9 ⟨H9, I9, q9⟩ => ?_
  cases bb with
  | false =>
    have q9 : Nx H9 := by simpa using q9
    obtain ⟨z1, z2⟩ := wipe_back (vsb := []) hw8 fun i m => by cases m
    simp only [Bool.false_eq_true, if_false]
    exact fin I9 z1 z2 q9
  | true =>
    have q9 : b σ8 H9 A Nx := by simpa using q9
    obtain ⟨z1, z2⟩ := wipe_back hw8 hsub
    simp only [if_true]
    exact LR.mono _ _ _ _ (fun s' ⟨H', I', nx⟩ => fin I' z1 z2 nx) (bc.run _ s9 σ8 H9 A Nx I9 q9)
/-- the element -/
def cEl (Y : Cx) (elt : Expr) : Cd := fun acc P st => wpAny (model Y.prog Y.w) Y.A (eval elt Y.env) (fun x st1 => wpAny (model Y.prog Y.w) Y.A (call (.builtin "list.append") [acc, x]) (fun _ st2 => P st2) nE st1) nE st
theorem bodyC_el {Y : Cx} {elt : Expr} {te : TE} (hx : Y.xe = fun _ _ => False) (pe : PE Y elt te) : BodyC Y (bEl te) [] (cEl Y elt) := by
  refine ⟨fun pins st σ H A Nx I h => ?_⟩
  have q := pe.run pins st σ H _ I h
  rw [hx] at q
  refine thnF q fun v st1 ⟨y, H1, I1, r1, acc, hA, hz, nx⟩ => ?_
  exact app_ok I1 hA hz r1 fun st2 I2 => ⟨_, I2, nx⟩
/-- a further clause -/
def cLp (Y : Cx) (CE : Expr) (l : Nat) (iter : Expr) : Cd := fun acc P st => wpAny (model Y.prog Y.w) Y.A (eval iter Y.env) (fun x st1 => wpAny (model Y.prog Y.w) Y.A (pyIter x) (fun it st2 =>
  codeAny (model Y.prog Y.w) Y.A (.compStart CE l it acc Y.env) (fun r st3 => match r with
    | .ok _ => P st3
    | .error _ => False) st2) nE st1) nE st
/-- the start of a clause that is not the first -/
def StartRule (Y : Cx) (CE : Expr) (l : Nat) : Prop := ∀ (it acc : Value) (R : Result → Shared → Prop) (st : Shared), codeAny (model Y.prog Y.w) Y.A (.compLoop CE l it acc Y.env) R st →
  wpAny (model Y.prog Y.w) Y.A (pyIter it) (fun it' st' => codeAny (model Y.prog Y.w) Y.A (.compLoop CE l it' acc Y.env) R st') nE st → codeAny (model Y.prog Y.w) Y.A (.compStart CE l it acc Y.env) R st
theorem bodyC_lp {Y : Cx} {CE tg iter : Expr} {l : Nat} {ifs : List Expr} {code : Cd} {wi : TI} {t : TG} {tt : TT} {b : BT} {vs vsb : List Nat} (hc : Y.calm = true) (hx : Y.xe = fun _ _ => False) (SR : StartRule Y CE l) (LR : LoopRule Y CE l tg ifs code) (pi : PI Y tg iter wi) (pg : PG Y tg t) (pt : PTs Y ifs tt) (bc : BodyC Y b vsb code) (hsub : ∀ i ∈ vsb, i ∈ vs) :
    BodyC Y (bLp wi t tt b vs) vs (cLp Y CE l iter) := by
  refine ⟨fun pins st σ H A Nx I h => ?_⟩
  have q := pi.run pins st σ H _ I h
  rw [hx] at q
  refine thnF q fun v st1 q1 => thnF q1 fun itv st2 q2 => ?_
  obtain ⟨it, fp, tn, J, H2, rfl, I2, T, st0, fo, hl⟩ := q2
  have lp := clause_loop hc hx LR pg pt bc hsub T (I2.weak (wipe_length _ _) fun j v e => (wipe_some e).1) st0 (fun b hb => (fo b hb).1) (fun {σ' H' s'} _ hn b hb => ⟨hn b hb, (fo b hb).2⟩) hl
  have lp' : codeAny (model Y.prog Y.w) Y.A (.compLoop CE l (.ref it) (.ref A) Y.env) (fun r st3 => match r with
      | .ok _ => ∃ H', Inv Y pins (wipe σ vs) H' st3 ∧ Nx H'
      | .error _ => False) st2 := codeAny_mono lp fun r st3 z => by
    cases r with
    | ok f => exact z.2
    | error e => exact z
  exact SR _ _ _ _ lp' (T.self Y.A 0 _ _ _ st0 lp')
/-! three clauses -/
abbrev ce3 (elt t0 i0 t1 i1 t2 i2 : Expr) (f0 f1 f2 : List Expr) (sc : Scope) (po : Pos) : Expr := .ListComp elt [⟨t0, i0, f0, 0⟩, ⟨t1, i1, f1, 0⟩, ⟨t2, i2, f2, 0⟩] sc po
section
variable {elt t0 i0 t1 i1 t2 i2 : Expr} {f0 f1 f2 : List Expr} {sc : Scope} {po : Pos}
theorem turn3_0 (it acc : Value) (env : Env) : compTurn (ce3 elt t0 i0 t1 i1 t2 i2 f0 f1 f2 sc po) 0 it acc env = (do
    standAt i0.pos
    match ← pyNext it with
    | none => pure (.done .next)
    | some v => do
      letOwnedTupleGo t0 it v; assign t0 env v
      let mut ok := true
      for c in f0 do
        if ok then ok ← (isTrue c env (eval c env))
      if ok then
        let x ← eval i1 env; standAt i1.pos; let x ← foldedSetIterable i1 env x
        let _ ← runOwn (.compStart (ce3 elt t0 i0 t1 i1 t2 i2 f0 f1 f2 sc po) 1 (← holding [x] (pyIter x)) acc env) env
      again (.compLoop (ce3 elt t0 i0 t1 i1 t2 i2 f0 f1 f2 sc po) 0 it acc env)) := by rfl
theorem turn3_1 (it acc : Value) (env : Env) : compTurn (ce3 elt t0 i0 t1 i1 t2 i2 f0 f1 f2 sc po) 1 it acc env = (do
    standAt i1.pos
    match ← pyNext it with
    | none => pure (.done .next)
    | some v => do
      letOwnedTupleGo t1 it v; assign t1 env v
      let mut ok := true
      for c in f1 do
        if ok then ok ← (isTrue c env (eval c env))
      if ok then
        let x ← eval i2 env; standAt i2.pos; let x ← foldedSetIterable i2 env x
        let _ ← runOwn (.compStart (ce3 elt t0 i0 t1 i1 t2 i2 f0 f1 f2 sc po) 2 (← holding [x] (pyIter x)) acc env) env
      again (.compLoop (ce3 elt t0 i0 t1 i1 t2 i2 f0 f1 f2 sc po) 1 it acc env)) := by rfl
theorem turn3_2 (it acc : Value) (env : Env) : compTurn (ce3 elt t0 i0 t1 i1 t2 i2 f0 f1 f2 sc po) 2 it acc env = (do
    standAt i2.pos
    match ← pyNext it with
    | none => pure (.done .next)
    | some v => do
      letOwnedTupleGo t2 it v; assign t2 env v
      let mut ok := true
      for c in f2 do
        if ok then ok ← (isTrue c env (eval c env))
      if ok then (do let _ ← call (.builtin "list.append") [acc, (← eval elt env)])
      again (.compLoop (ce3 elt t0 i0 t1 i1 t2 i2 f0 f1 f2 sc po) 2 it acc env)) := by rfl
variable {Y : Cx}
theorem loop3_0 (hf : ∀ x, foldedSetIterable i1 Y.env x = pure x) : LoopRule Y (ce3 elt t0 i0 t1 i1 t2 i2 f0 f1 f2 sc po) 0 t0 f0 (cLp Y (ce3 elt t0 i0 t1 i1 t2 i2 f0 f1 f2 sc po) 1 i1) := by
  refine ⟨fun it acc R Iv turn k st hI => codeAny_loop rfl Iv (fun n z hn => ?_) k hI, fun acc P P' st hp h => ?_⟩
  · show wpAny _ Y.A ((compTurn (ce3 elt t0 i0 t1 i1 t2 i2 f0 f1 f2 sc po) 0 it acc Y.env).onRaise fun y => do noteFrame y Y.env; theTreesLotGoes y) _ _ z
    refine wpAny_noted ?_
    rw [turn3_0]
    refine wpAny_bind (wpAny_standAt (wpAny_bind (thnF (turn n z hn) fun r z1 g1 => ?_)))
    cases r with
    | none => exact wpAny_pure g1
    | some u =>
      refine wpAny_bind (thnF g1 fun _ z2 g2 => wpAny_bind (thnF g2 fun _ z3 g3 => wpAny_bind (thnF g3 fun ok z4 g4 => ?_)))
      cases ok with
      | false => exact wpAny_pure ⟨rfl, g4⟩
      | true =>
        have g4 : cLp Y (ce3 elt t0 i0 t1 i1 t2 i2 f0 f1 f2 sc po) 1 i1 acc (fun st5 => ∃ m, m < n ∧ Iv m st5) z4 := g4
        refine wpAny_bind (thnF g4 fun x z5 g5 => wpAny_bind (wpAny_standAt (wpAny_bind (wpAny_of_eq (hf x) (wpAny_bind (wpAny_holding (thnF g5 fun jt z6 g6 => ?_)))))))
        refine wpAny_bind (wpAny_runOwn ?_)
        rw [Around.mark_none]
        refine codeAny_mono g6 fun r z7 hr => ?_
        cases r with
        | error e => exact hr.elim
        | ok f =>
          first
            | exact wpAny_pure ⟨rfl, hr⟩
            | exact wpAny_bind (wpAny_pure (wpAny_pure ⟨rfl, hr⟩))
  · refine thnF h fun x z1 g1 => thnF g1 fun jt z2 g2 => codeAny_mono g2 fun r z3 g3 => ?_
    cases r with
    | ok f => exact hp _ g3
    | error e => exact g3
theorem loop3_1 (hf : ∀ x, foldedSetIterable i2 Y.env x = pure x) : LoopRule Y (ce3 elt t0 i0 t1 i1 t2 i2 f0 f1 f2 sc po) 1 t1 f1 (cLp Y (ce3 elt t0 i0 t1 i1 t2 i2 f0 f1 f2 sc po) 2 i2) := by
  refine ⟨fun it acc R Iv turn k st hI => codeAny_loop rfl Iv (fun n z hn => ?_) k hI, fun acc P P' st hp h => ?_⟩
  · show wpAny _ Y.A ((compTurn (ce3 elt t0 i0 t1 i1 t2 i2 f0 f1 f2 sc po) 1 it acc Y.env).onRaise fun y => do noteFrame y Y.env; theTreesLotGoes y) _ _ z
    refine wpAny_noted ?_
    rw [turn3_1]
    refine wpAny_bind (wpAny_standAt (wpAny_bind (thnF (turn n z hn) fun r z1 g1 => ?_)))
    cases r with
    | none => exact wpAny_pure g1
    | some u =>
      refine wpAny_bind (thnF g1 fun _ z2 g2 => wpAny_bind (thnF g2 fun _ z3 g3 => wpAny_bind (thnF g3 fun ok z4 g4 => ?_)))
      cases ok with
      | false => exact wpAny_pure ⟨rfl, g4⟩
      | true =>
        have g4 : cLp Y (ce3 elt t0 i0 t1 i1 t2 i2 f0 f1 f2 sc po) 2 i2 acc (fun st5 => ∃ m, m < n ∧ Iv m st5) z4 := g4
        refine wpAny_bind (thnF g4 fun x z5 g5 => wpAny_bind (wpAny_standAt (wpAny_bind (wpAny_of_eq (hf x) (wpAny_bind (wpAny_holding (thnF g5 fun jt z6 g6 => ?_)))))))
        refine wpAny_bind (wpAny_runOwn ?_)
        rw [Around.mark_none]
        refine codeAny_mono g6 fun r z7 hr => ?_
        cases r with
        | error e => exact hr.elim
        | ok f =>
          first
            | exact wpAny_pure ⟨rfl, hr⟩
            | exact wpAny_bind (wpAny_pure (wpAny_pure ⟨rfl, hr⟩))
  · refine thnF h fun x z1 g1 => thnF g1 fun jt z2 g2 => codeAny_mono g2 fun r z3 g3 => ?_
    cases r with
    | ok f => exact hp _ g3
    | error e => exact g3
theorem loop3_2 : LoopRule Y (ce3 elt t0 i0 t1 i1 t2 i2 f0 f1 f2 sc po) 2 t2 f2 (cEl Y elt) := by
  refine ⟨fun it acc R Iv turn k st hI => codeAny_loop rfl Iv (fun n z hn => ?_) k hI, fun acc P P' st hp h => ?_⟩
  · show wpAny _ Y.A ((compTurn (ce3 elt t0 i0 t1 i1 t2 i2 f0 f1 f2 sc po) 2 it acc Y.env).onRaise fun y => do noteFrame y Y.env; theTreesLotGoes y) _ _ z
    refine wpAny_noted ?_
    rw [turn3_2]
    refine wpAny_bind (wpAny_standAt (wpAny_bind (thnF (turn n z hn) fun r z1 g1 => ?_)))
    cases r with
    | none => exact wpAny_pure g1
    | some u =>
      refine wpAny_bind (thnF g1 fun _ z2 g2 => wpAny_bind (thnF g2 fun _ z3 g3 => wpAny_bind (thnF g3 fun ok z4 g4 => ?_)))
      cases ok with
      | false => exact wpAny_pure ⟨rfl, g4⟩
      | true =>
        have g4 : cEl Y elt acc (fun st5 => ∃ m, m < n ∧ Iv m st5) z4 := g4
        exact wpAny_bind (wpAny_bind (thnF g4 fun x z5 g5 => wpAny_bind (thnF g5 fun _ z6 g6 => wpAny_pure (wpAny_pure ⟨rfl, g6⟩))))
  · exact thnF h fun x z1 g1 => thnF g1 fun _ z2 g2 => hp _ g2
theorem start3_1 : StartRule Y (ce3 elt t0 i0 t1 i1 t2 i2 f0 f1 f2 sc po) 1 := by
  intro it acc R z h0 h
  refine codeAny_of_tree ?_
  show wpAny _ _ ((compStart (ce3 elt t0 i0 t1 i1 t2 i2 f0 f1 f2 sc po) 1 it acc Y.env).onRaise fun y => do noteFrame y Y.env; standAt theWindowsPlace) _ _ z
  refine wpAny_notedAt ?_
  unfold compStart
  show wpAny _ _ (ask >>= _) _ _ z
  refine wpAny_bind (wpAny_askSetting (wpAny_ite ?_))
  split
  · first
      | exact wpAny_pure ⟨rfl, h0⟩
      | exact wpAny_bind (wpAny_pure (wpAny_pure ⟨rfl, h0⟩))
  · refine wpAny_bind (wpAny_rule ?_)
    first
      | exact wpAny_bind (wpAny_standAt (wpAny_bind (thnF h fun jt z1 g1 => wpAny_pure ⟨rfl, g1⟩)))
      | (show wpAny _ _ (standAt i1.pos >>= _) _ _ z; exact wpAny_bind (wpAny_standAt (wpAny_bind (thnF h fun jt z1 g1 => wpAny_pure ⟨rfl, g1⟩))))
theorem start3_2 : StartRule Y (ce3 elt t0 i0 t1 i1 t2 i2 f0 f1 f2 sc po) 2 := by
  intro it acc R z h0 h
  refine codeAny_of_tree ?_
  show wpAny _ _ ((compStart (ce3 elt t0 i0 t1 i1 t2 i2 f0 f1 f2 sc po) 2 it acc Y.env).onRaise fun y => do noteFrame y Y.env; standAt theWindowsPlace) _ _ z
  refine wpAny_notedAt ?_
  unfold compStart
  show wpAny _ _ (ask >>= _) _ _ z
  refine wpAny_bind (wpAny_askSetting (wpAny_ite ?_))
  split
  · first
      | exact wpAny_pure ⟨rfl, h0⟩
      | exact wpAny_bind (wpAny_pure (wpAny_pure ⟨rfl, h0⟩))
  · refine wpAny_bind (wpAny_rule ?_)
    first
      | exact wpAny_bind (wpAny_standAt (wpAny_bind (thnF h fun jt z1 g1 => wpAny_pure ⟨rfl, g1⟩)))
      | (show wpAny _ _ (standAt i2.pos >>= _) _ _ z; exact wpAny_bind (wpAny_standAt (wpAny_bind (thnF h fun jt z1 g1 => wpAny_pure ⟨rfl, g1⟩))))
end
section
variable {X : Cx} {elt t0 i0 t1 i1 t2 i2 : Expr} {f0 f1 f2 : List Expr} {sc : Scope} {po : Pos} {own : List (Str × Nat)} {vs1 vs2 : List Nat} {w0 w1 w2 : TI} {g0 g1 g2 : TG} {tt0 tt1 tt2 : TT} {te : TE}
/-- the block's context -/
abbrev bk3 (X : Cx) (sc : Scope) (z : Shared) (G : Hp) (C : Addr) (cl : List (Str × Addr)) (fp : List Addr) : Cx := X.blk z G sc (compEnvC sc cl C X.env) fp
theorem pe_lc3 (hc : X.calm = true) (hN : X.N.Nodup) (p0 : PI X t0 i0 w0) (ok : BlkOk X.N X.env.scope sc own) (hv1 : ∀ i ∈ vs1, i ∈ own.map (·.2)) (hv2 : ∀ i ∈ vs2, i ∈ vs1)
    (hg0 : ∀ z G C cl fp, PG (bk3 X sc z G C cl fp) t0 g0) (hf0 : ∀ z G C cl fp, PTs (bk3 X sc z G C cl fp) f0 tt0)
    (p1 : ∀ z G C cl fp, PI (bk3 X sc z G C cl fp) t1 i1 w1) (hg1 : ∀ z G C cl fp, PG (bk3 X sc z G C cl fp) t1 g1) (hf1 : ∀ z G C cl fp, PTs (bk3 X sc z G C cl fp) f1 tt1)
    (p2 : ∀ z G C cl fp, PI (bk3 X sc z G C cl fp) t2 i2 w2) (hg2 : ∀ z G C cl fp, PG (bk3 X sc z G C cl fp) t2 g2) (hf2 : ∀ z G C cl fp, PTs (bk3 X sc z G C cl fp) f2 tt2)
    (he : ∀ z G C cl fp, PE (bk3 X sc z G C cl fp) elt te)
    (s0 : ∀ x, foldedSetIterable i0 X.env x = pure x) (s1 : ∀ env x, foldedSetIterable i1 env x = pure x) (s2 : ∀ env x, foldedSetIterable i2 env x = pure x) :
    PE X (ce3 elt t0 i0 t1 i1 t2 i2 f0 f1 f2 sc po) (tOut w0 g0 tt0 (bLp w1 g1 tt1 (bLp w2 g2 tt2 (bEl te) vs2) vs1) (own.map (·.2))) := by
  refine ⟨fun pins st σ H Q I h => ?_⟩
  have h : w0 σ H fun J H1 => ∀ D, H1 D = none → lpW J g0 tt0 (bLp w1 g1 tt1 (bLp w2 g2 tt2 (bEl te) vs2) vs1) (own.map (·.2)) σ D (upd H1 D (.lst [])) fun G => Q (.ref D) G := h
  rw [eval_ListComp]
  have hfr : ∀ y ∈ sc.names, y.2 = .free → ∃ c, X.env.cells.lookup y.1 = some c := fun y hy e => (ok.free y hy e).elim (fun k => I.ok.has _ (.inl k)) fun k => I.ok.has _ (.inr k)
  refine wpAny_comprehension_free (use := none) rfl s0 (closure_ok hfr) ok.kind (fun y hy e => by rw [ok.uniq y hy, e])
    (thn (p0.run pins st σ H _ I h) fun xv st1 hx => thn hx fun itv st2 h2 => ?_)
  obtain ⟨it, fp, tn, J, H2, rfl, I2, T, tn2, fo2, q⟩ := h2
  refine wpAny_newObj_type (newEnv_comp ?_) (by show 0 ≤ sizeLine; decide)
  generalize hD : st2.heap.objs.size = D
  have lw := q D (I2.hok.fresh (Nat.le_of_eq hD))
  generalize hst : ({ st2 with heap := st2.heap.push { cls := .type "list", data := .seq ([] : List Value).toArray } } : Shared) = st3
  have hh3 : st3.heap = st2.heap.push { cls := .type "list", data := .seq ([] : List Value).toArray } := by rw [← hst]
  have I3 : Inv X pins σ (upd H2 D (.lst [])) st3 := by
    rw [← hst]
    refine I2.laid (t' := st2.toks) (fun b o e => Heap.get?_push_of_some _ e) (Nat.le_of_eq hD) ⟨Nat.zero_le _, [], 0, .nil, ?_⟩
    subst hD
    exact Heap.get?_push_size _ rfl
  have low : ∀ b ∈ fp, b < st2.heap.objs.size := fun b hb => (T.obj _ _ tn2 b hb).elim fun o z => Heap.lt_size z.1
  have fo3 : ∀ b ∈ fp, FpOk X pins (upd H2 D (.lst [])) b ∧ b < st3.heap.objs.size := fun b hb => by
    have lt := low b hb
    refine ⟨⟨?_, (fo2 b hb).2⟩, by rw [hh3, Heap.size_push]; exact Nat.lt_succ_of_lt lt⟩
    rw [upd_ne (by rw [← hD]; exact Nat.ne_of_lt lt)]
    exact (fo2 b hb).1
  have tn3 : tn 0 st3.heap := T.keep _ _ _ tn2 fun b _ o e => by rw [hh3]; exact Heap.get?_push_of_some _ e
  have I4 := block_start I3 ok hN fo3
  generalize hcl : cellsFrom (st3.heap.objs.size + 1) sc.names (cloFrom X.env.cells sc.names []) = cl at I4 ⊢
  show codeAny _ _ (.compStart (ce3 elt t0 i0 t1 i1 t2 i2 f0 f1 f2 sc po) 0 (.ref it) (.ref D) (compEnvC sc cl st3.heap.objs.size X.env)) (compPost (model X.prog X.w) X.A X.xe none _ (.ref D) st3.heap.objs.size) { st3 with heap := pushCells (st3.heap.push { cls := .type "dict", data := .dict #[] }) sc.names }
  generalize hG3 : upd H2 D (.lst []) = G3 at I3 I4 lw fo3
  generalize hs4 : ({ st3 with heap := pushCells (st3.heap.push { cls := .type "dict", data := .dict #[] }) sc.names } : Shared) = st4 at I4 ⊢
  have tn4 : tn 0 st4.heap := T.keep _ _ _ tn3 fun b _ o e => by rw [← hs4]; exact pushCells_keeps _ _ _ _ (Heap.get?_push_of_some _ e)
  have b2 := bodyC_lp (Y := bk3 X sc st3 G3 st3.heap.objs.size cl fp) (CE := ce3 elt t0 i0 t1 i1 t2 i2 f0 f1 f2 sc po) (vsb := []) (vs := vs2) hc rfl start3_2 loop3_2 (p2 _ _ _ _ _) (hg2 _ _ _ _ _) (hf2 _ _ _ _ _) (bodyC_el rfl (he _ _ _ _ _)) (by simp)
  have b1 := bodyC_lp (Y := bk3 X sc st3 G3 st3.heap.objs.size cl fp) (CE := ce3 elt t0 i0 t1 i1 t2 i2 f0 f1 f2 sc po) (vs := vs1) hc rfl start3_1 (loop3_1 (s2 _)) (p1 _ _ _ _ _) (hg1 _ _ _ _ _) (hf1 _ _ _ _ _) b2 hv2
  have stt : ∀ {σ' : L2.St} {H' : Hp} {z : Shared}, Inv (bk3 X sc st3 G3 st3.heap.objs.size cl fp) [] σ' H' z → (∀ b ∈ fp, H' b = none) → ∀ b ∈ fp, FpOk (bk3 X sc st3 G3 st3.heap.objs.size cl fp) [] H' b := fun {σ' H' z} K n b hb =>
    ⟨n b hb, (K.ok.exf b hb).1, K.ok.exfs b hb, .inl hb, fun x c e => (K.ok.exf b hb).2 x c e, fun p hp => absurd (show p ∈ ([] : List (Addr × Obj)) ++ [] from hp) (by simp)⟩
  have lp := clause_loop (Y := bk3 X sc st3 G3 st3.heap.objs.size cl fp) hc rfl (loop3_0 (s1 _)) (hg0 _ _ _ _ _) (hf0 _ _ _ _ _) b1 hv1 T I4 tn4 (fun b hb => (fo3 b hb).1.1) stt lw
  suffices lp' : codeAny (model X.prog X.w) X.A (.compLoop (ce3 elt t0 i0 t1 i1 t2 i2 f0 f1 f2 sc po) 0 (.ref it) (.ref D) (compEnvC sc cl st3.heap.objs.size X.env)) (compPost (model X.prog X.w) X.A X.xe none (EP X pins σ Q) (.ref D) st3.heap.objs.size) st4 from codeAny_compStart_list lp' (T.self X.A 0 _ _ _ tn4 lp')
  refine codeAny_mono lp fun r z hr => ?_
  cases r with
  | error e => exact hr.elim
  | ok f =>
    obtain ⟨rfl, H', K, qq⟩ := hr
    have K' : Inv X pins σ H' z := I3.call' (ch := fp) K.os K.base K.hok K.bare fun b hb => ⟨(fo3 b hb).1.2.2.2.1, (fo3 b hb).1.2.1, (fo3 b hb).1.2.2.2.2.1, (fo3 b hb).1.2.2.2.2.2⟩
    have nC : H' st3.heap.objs.size = none := K.free
    obtain ⟨m, hn, _⟩ := K.loc
    have hn : z.heap.Ns st3.heap.objs.size m := hn
    refine ⟨m, hn, fun h2 sb => ?_⟩
    obtain ⟨k0, k1, k2, k3, k4, k5⟩ := I3.fpOk (Nat.le_refl _) nC
    exact ⟨.ref D, H', K'.turned (t' := z.toks) (fun b o hb e => (sb.2 b hb).trans e) k0 k1 k3 k4 k5, rfl, qq⟩
end
end Pc

set_option Elab.async false
set_option maxRecDepth 100000
set_option maxHeartbeats 4000000
namespace Pc
open PySem PySem.Spec PyProof.Rows L2

/-! ### statements -/
inductive Rt where
  | nx (env : List Slot) (c : Cells)
  | brk (env : List Slot) (c : Cells)
  | cnt (env : List Slot) (c : Cells)
  | ret (d : D) (c : Cells)
  | exc (x : Str) (fs : List (Str × D)) (env : List Slot) (c : Cells)
  | bad
abbrev SS := List Slot → Cells → Rt
/-- the state of a def's body that began at H0 -/
structure StS (B : Bx) (H0 : Hp) (bs : List (Hp × (Addr → Prop))) (env : List Slot) (cs : Cells) (fp : Nat → List Addr) (σ : L2.St) (H : Hp) : Prop where
  st : StR B env cs fp σ H
  same : SB B.ps H0 H
  new : ∀ i a, a ∈ fp i → H0 a = none
  th : ∀ a, B.h0 a → ∃ o, H0 a = some o
  bas : ∀ b ∈ bs, Le (hid b.1 b.2) (hid H (hsOf B fp))
def TSx (B : Bx) (H0 : Hp) (bs : List (Hp × (Addr → Prop))) (W : WX) (r : Rt) (E : Ends) : Prop :=
  match r with
  | .nx env cs => ∀ fp σ H, StS B H0 bs env cs fp σ H → E.nx σ H
  | .brk env cs => ∀ fp σ H, StS B H0 bs env cs fp σ H → E.bk σ H
  | .cnt env cs => ∀ fp σ H, StS B H0 bs env cs fp σ H → E.ct σ H
  | .ret d cs => ∀ v H, SB B.ps H0 H → CsR B B.h0 H cs → B.Rp H B.h0 d v → E.rt v H
  | .exc x fs env cs => ∀ cls dd fp σ H, StS B H0 bs env cs fp σ H → ExR B (hsOf B fp) H x fs cls dd → W cls dd σ H
  | .bad => False
def tS (B : Bx) (H0 : Hp) (bs : List (Hp × (Addr → Prop))) (W : WX) (m : SS) : TS := fun E σ H => ∃ env cs fp, StS B H0 bs env cs fp σ H ∧ TSx B H0 bs W (m env cs) E
/-- after an expression -/
def bndS (m : ES) (k : Vl → SS) : SS := fun env cs => match m env cs with
  | .ok x c => k x env c
  | .exc x fs c => .exc x fs env c
  | .bad => .bad
section
variable {B : Bx} {H0 : Hp} {bs : List (Hp × (Addr → Prop))} {W : WX} {env env' : List Slot} {cs cs' : Cells} {fp fp' : Nat → List Addr} {σ σ' : L2.St} {H H1 H' : Hp} {E : Ends} {d : D} {v : V}
theorem StS.next (S : StS B H0 bs env cs fp σ H) (sb : SB B.ps H H') (c : CsR B (hsOf B fp) H' cs') : StS B H0 bs env cs' fp σ H' := ⟨S.st.next sb c, S.same.trans sb, S.new, S.th, fun b hb a o q => sb_le S.st.ps0 sb a o (S.bas b hb a o q)⟩
theorem tE_bndS {m : ES} {k : Vl → SS} (S : StS B H0 bs env cs fp σ H) (h : TSx B H0 bs W (bndS m k env cs) E) {R : VK}
    (hR : ∀ v H1 tg d c1, StS B H0 bs env c1 fp σ H1 → SB B.ps H H1 → PV B (hsOf B fp) H H1 tg d v → TSx B H0 bs W (k (tg, d) env c1) E → R v H1) : tE B W m σ H R := by
  refine ⟨env, cs, fp, S.st, ?_⟩
  unfold bndS at h
  cases e : m env cs with
  | bad => rw [e] at h; exact h.elim
  | exc x fs c => rw [e] at h; exact fun cls dd H' sb cc ex => h cls dd fp σ H' (S.next sb cc) ex
  | ok x c =>
    rw [e] at h
    exact fun v H1 sb cc p => hR v H1 x.1 x.2 c (S.next sb cc) sb p h
theorem tT_bndS {m : ES} {k : Vl → SS} (S : StS B H0 bs env cs fp σ H) (h : TSx B H0 bs W (bndS m k env cs) E) {R : Bool → Hp → Prop} (hk : ∀ x, truthD x.2 = none → k x = fun _ _ => .bad)
    (hR : ∀ x b c1 H1, truthD x.2 = some b → StS B H0 bs env c1 fp σ H1 → TSx B H0 bs W (k x env c1) E → R b H1) : tT B W m σ H R := by
  refine ⟨env, cs, fp, S.st, ?_⟩
  unfold bndS at h
  cases e : m env cs with
  | bad => rw [e] at h; exact h.elim
  | exc x fs c => rw [e] at h; exact fun cls dd H' sb cc ex => h cls dd fp σ H' (S.next sb cc) ex
  | ok x c =>
    rw [e] at h
    cases eb : truthD x.2 with
    | none =>
      have h : TSx B H0 bs W (k x env c) E := h
      rw [hk x eb] at h
      exact h.elim
    | some b => exact ⟨b, eb, fun H1 sb cc => hR x b c H1 eb (S.next sb cc) h⟩
theorem StS.h0le (S : StS B H0 bs env cs fp σ H) : Le (hid H (hsOf B fp)) (hid H B.h0) := hid_le (fun a h => .inl h) fun _ _ _ e => e
/-- a slot takes a plain value -/
theorem StS.set {i : Nat} (S : StS B H0 bs env cs fp σ H) (hi : i < env.length) (r : B.Rp H (hsOf B fp) d v) : StS B H0 bs (env.set i (.sh d)) cs (fpOff fp i) (σ.set i (some v)) H :=
  ⟨S.st.set hi r, S.same, fun j a m => S.new j a ((FpSub.off (vs := [i]) (List.mem_singleton.mpr rfl)).sub j a m), S.th, fun b hb a o q => hid_le hs_off (fun _ _ _ e => e) a o (S.bas b hb a o q)⟩
/-- a slot takes lists of its own (S: the state ahead of the expression) -/
theorem StS.setOwn {i k : Nat} (S : StS B H0 bs env cs fp σ H1) (sb : SB B.ps H1 H) (cc : CsR B (hsOf B fp) H cs') (at0 : atomC cs' = true) (hi : i < env.length) (p : PV B (hsOf B fp) H1 H (.fr k) d v) :
    ∃ fp', StS B H0 bs (env.set i (.ow k d)) cs' fp' (σ.set i (some v)) H := by
  obtain ⟨f, nd, fr, ro⟩ := p
  have ndis : ∀ j a, a ∈ fp j → a ∉ f := fun j a m m' => (fr a m').2.2 (.inr ⟨j, m⟩)
  have none0 : ∀ a ∈ f, H0 a = none := fun a m => by
    cases e : H0 a with
    | none => rfl
    | some o =>
      have := S.same a o (fr a m).2.1 e
      rw [(fr a m).1] at this; cases this
  refine ⟨fun j => if j = i then f else fp j, ?_⟩
  have mem : ∀ {j a}, a ∈ (if j = i then f else fp j) → (j = i ∧ a ∈ f) ∨ (j ≠ i ∧ a ∈ fp j) := fun {j a} m => by
    by_cases h : j = i
    · rw [if_pos h] at m; exact .inl ⟨h, m⟩
    · rw [if_neg h] at m; exact .inr ⟨h, m⟩
  have hsub : ∀ a, hsOf B (fun j => if j = i then f else fp j) a → (hsOf B fp a ∨ a ∈ f) := fun a h => by
    rcases h with h | ⟨j, h⟩
    · exact .inl (.inl h)
    · rcases mem h with ⟨_, m⟩ | ⟨_, m⟩
      · exact .inr m
      · exact .inl (.inr ⟨j, m⟩)
  have le1 : Le (hid H1 (hsOf B fp)) (hid H (hsOf B fun j => if j = i then f else fp j)) := fun a o q => by
    obtain ⟨n, q⟩ := hid_some.mp q
    refine hid_some.mpr ⟨fun z => ?_, sb a o (fun m => n (S.st.ps a m)) q⟩
    rcases hsub a z with z | z
    · exact n z
    · rw [(fr a z).1] at q; cases q
  refine ⟨⟨by simp [S.st.len], fun j s e => ?_, fun j hj => ?_, ?_, S.st.ps0, fun a h => ?_, fun j a h => ?_, fun j l a h1 h2 => ?_, fun j => ?_⟩, S.same.trans sb, fun j a h => ?_, S.th, fun b hb a o q => le1 a o (S.bas b hb a o q)⟩
  · by_cases hj : j = i
    · subst hj
      rw [List.getElem?_set_self hi] at e
      cases e
      refine ⟨v, by rw [List.getElem?_set_self (by rw [← S.st.len]; exact hi)], ?_⟩
      rw [if_pos rfl]
      exact ro.mono (Rp.mono (hid_le (fun a z => hsub a z) fun _ _ _ e => e)) fun _ _ _ e => e
    · rw [List.getElem?_set_ne (Ne.symm hj)] at e
      have q := S.st.slot j s e
      rw [List.getElem?_set_ne (Ne.symm hj), if_neg hj]
      cases s with
      | emp => exact q
      | sh d' => exact ⟨q.1, q.2.choose, q.2.choose_spec.1, Rp.mono le1 _ _ q.2.choose_spec.2⟩
      | ow k d' =>
        obtain ⟨w, e1, r⟩ := q
        exact ⟨w, e1, r.mono (Rp.mono le1) fun a o m q => sb a o (S.st.own j a m) q⟩
      | od d' =>
        obtain ⟨w, e1, ef, r⟩ := q
        exact ⟨w, e1, ef, r.mono (fun o q => sb w o (S.st.own j w (by rw [ef]; exact List.mem_singleton.mpr rfl)) q) fun ds xs z => RpL.mono le1 ds xs z⟩
  · have hj : env.length ≤ j := by simpa using hj
    rw [if_neg (by omega)]
    exact S.st.out j hj
  · exact ⟨cc.len, cc.nd, fun j es a e1 e2 => let ⟨ys, h1, h2⟩ := cc.at_ j es a e1 e2; ⟨ys, h1, atom_rpl (List.all_eq_true.mp at0 es (List.mem_of_getElem? e1)) h2⟩⟩
  · by_cases hp : a ∈ B.ps
    · obtain ⟨xs, e⟩ := cc.there hp
      exact ⟨_, e, rfl⟩
    · obtain ⟨o, e, t⟩ := S.st.th0 a h
      exact ⟨o, sb a o hp e, t⟩
  · rcases mem h with ⟨_, m⟩ | ⟨_, m⟩
    · exact (fr a m).2.1
    · exact S.st.own j a m
  · rcases mem h1 with ⟨e1, m1⟩ | ⟨e1, m1⟩
    · rcases mem h2 with ⟨e2, m2⟩ | ⟨e2, m2⟩
      · rw [e1, e2]
      · exact absurd m1 (ndis l a m2)
    · rcases mem h2 with ⟨e2, m2⟩ | ⟨e2, m2⟩
      · exact absurd m2 (ndis j a m1)
      · exact S.st.dis j l a m1 m2
  · by_cases hj : j = i
    · rw [if_pos hj]; exact nd
    · rw [if_neg hj]; exact S.st.nd j
  · rcases mem h with ⟨_, m⟩ | ⟨_, m⟩
    · exact none0 a m
    · exact S.new j a m
/-- a list of one's own is changed: a, in the slot i -/
theorem StS.ownUpd {i k : Nat} {a : Addr} {xs' : List V} (S : StS B H0 bs env cs fp σ H) (hi : i < env.length) (ha : a ∈ fp i)
    (new : ∃ v, σ[i]? = some (some v) ∧ RpO (B.Rp (upd H a (.lst xs')) (hsOf B fp)) (upd H a (.lst xs')) (k + 1) d v (fp i)) :
    StS B H0 bs (env.set i (.ow k d)) cs fp σ (upd H a (.lst xs')) := by
  have hh : hsOf B fp a := .inr ⟨i, ha⟩
  have le : Le (hid H (hsOf B fp)) (hid (upd H a (.lst xs')) (hsOf B fp)) := fun b o q => by
    obtain ⟨n, q⟩ := hid_some.mp q
    exact hid_some.mpr ⟨n, by rw [upd_ne (fun e => n (by rw [e]; exact hh))]; exact q⟩
  refine ⟨⟨by simp [S.st.len], fun j s e => ?_, fun j hj => S.st.out j (by simpa using hj), ?_, S.st.ps0, fun b h => ?_, S.st.own, S.st.dis, S.st.nd⟩, fun b o n q => ?_, S.new, S.th, fun b hb a o q => le a o (S.bas b hb a o q)⟩
  · by_cases hj : j = i
    · subst hj
      rw [List.getElem?_set_self hi] at e
      cases e
      exact new
    · rw [List.getElem?_set_ne (Ne.symm hj)] at e
      have q := S.st.slot j s e
      cases s with
      | emp => exact q
      | sh d' => exact ⟨q.1, q.2.choose, q.2.choose_spec.1, Rp.mono le _ _ q.2.choose_spec.2⟩
      | ow k d' =>
        obtain ⟨w, e1, r⟩ := q
        exact ⟨w, e1, r.mono (Rp.mono le) fun b o m z => by rw [upd_ne (fun e => hj (S.st.dis j i a (by rw [← e]; exact m) ha))]; exact z⟩
      | od d' =>
        obtain ⟨w, e1, ef, r⟩ := q
        exact ⟨w, e1, ef, r.mono (fun o z => by rw [upd_ne (fun e => hj (S.st.dis j i a (by rw [← e, ef]; exact List.mem_singleton.mpr rfl) ha))]; exact z) fun ds xs z => RpL.mono le ds xs z⟩
  · refine ⟨S.st.cells.len, S.st.cells.nd, fun j es b e1 e2 => ?_⟩
    obtain ⟨ys, h1, h2⟩ := S.st.cells.at_ j es b e1 e2
    have hb : b ≠ a := fun e => S.st.own i a ha (by rw [← e]; exact List.mem_of_getElem? e2)
    exact ⟨ys, by rw [upd_ne hb]; exact h1, RpL.mono le _ _ h2⟩
  · by_cases e : b = a
    · subst e; exact ⟨_, upd_same, rfl⟩
    · obtain ⟨o, q, t⟩ := S.st.th0 b h
      exact ⟨o, by rw [upd_ne e]; exact q, t⟩
  · have hb : b ≠ a := fun e => by
      rw [e, S.new i a ha] at q; cases q
    rw [upd_ne hb]
    exact S.same b o n q
/-- a cell is changed -/
theorem StS.cellUpd {j : Nat} {a : Addr} {ds : List D} {xs : List V} (S : StS B H0 bs env cs fp σ H) (hj : j < cs.length) (ha : B.ps[j]? = some a) (r : B.RpL H (hsOf B fp) ds xs) :
    StS B H0 bs env (cs.set j ds) fp σ (upd H a (.lst xs)) := by
  have hps : a ∈ B.ps := List.mem_of_getElem? ha
  have hh : hsOf B fp a := S.st.ps a hps
  have le : Le (hid H (hsOf B fp)) (hid (upd H a (.lst xs)) (hsOf B fp)) := fun b o q => by
    obtain ⟨n, q⟩ := hid_some.mp q
    exact hid_some.mpr ⟨n, by rw [upd_ne (fun e => n (by rw [e]; exact hh))]; exact q⟩
  refine ⟨⟨S.st.len, fun i s e => ?_, S.st.out, ⟨by rw [List.length_set]; exact S.st.cells.len, S.st.cells.nd, fun i es b e1 e2 => ?_⟩, S.st.ps0, fun b h => ?_, S.st.own, S.st.dis, S.st.nd⟩, fun b o n q => ?_, S.new, S.th, fun b hb a o q => le a o (S.bas b hb a o q)⟩
  · have q := S.st.slot i s e
    cases s with
    | emp => exact q
    | sh d' => exact ⟨q.1, q.2.choose, q.2.choose_spec.1, Rp.mono le _ _ q.2.choose_spec.2⟩
    | ow k d' =>
      obtain ⟨w, e1, r⟩ := q
      exact ⟨w, e1, r.mono (Rp.mono le) fun b o m z => by rw [upd_ne (fun e => S.st.own i a (by rw [← e]; exact m) hps)]; exact z⟩
    | od d' =>
      obtain ⟨w, e1, ef, r⟩ := q
      exact ⟨w, e1, ef, r.mono (fun o z => by rw [upd_ne (fun e => S.st.own i a (by rw [← e, ef]; exact List.mem_singleton.mpr rfl) hps)]; exact z) fun ds xs z => RpL.mono le ds xs z⟩
  · by_cases e : i = j
    · subst e
      rw [List.getElem?_set_self hj] at e1
      cases e1
      rw [ha] at e2
      cases e2
      exact ⟨xs, upd_same, RpL.mono le _ _ r⟩
    · rw [List.getElem?_set_ne (Ne.symm e)] at e1
      obtain ⟨ys, h1, h2⟩ := S.st.cells.at_ i es b e1 e2
      have hb : b ≠ a := fun z => e (by
        subst z
        obtain ⟨l1, q1⟩ := List.getElem?_eq_some_iff.mp e2
        obtain ⟨l2, q2⟩ := List.getElem?_eq_some_iff.mp ha
        exact (List.getElem_inj S.st.cells.nd).mp (q1.trans q2.symm))
      exact ⟨ys, by rw [upd_ne hb]; exact h1, RpL.mono le _ _ h2⟩
  · by_cases e : b = a
    · subst e; exact ⟨_, upd_same, rfl⟩
    · obtain ⟨o, q, t⟩ := S.st.th0 b h
      exact ⟨o, by rw [upd_ne e]; exact q, t⟩
  · have hb : b ≠ a := fun e => n (by rw [e]; exact hps)
    rw [upd_ne hb]
    exact S.same b o n q
/-- own lists are let go (they become plain data) -/
theorem StS.freeze {i k : Nat} (S : StS B H0 bs env cs fp σ H) (e : env[i]? = some (.ow k d)) : StS B H0 bs (env.set i (.sh d)) cs (fpOff fp i) σ H := by
  have hi : i < env.length := (List.getElem?_eq_some_iff.mp e).1
  have q := S.st.slot i _ e
  obtain ⟨v, e1, r⟩ := q
  have le : Le (hid H (hsOf B fp)) (hid H (hsOf B (fpOff fp i))) := hid_le hs_off fun _ _ _ e => e
  have fsub := FpSub.off (vs := [i]) (fp := fp) (List.mem_singleton.mpr rfl)
  have rp : B.Rp H (hsOf B (fpOff fp i)) d v := by
    refine RpO.toRp hs_off r fun a m z => ?_
    rcases z with z | ⟨j, z⟩
    · obtain ⟨o, q⟩ := S.th a z
      rw [S.new i a m] at q; cases q
    · by_cases hj : j = i
      · subst hj
        simp [fpOff] at z
      · exact hj (S.st.dis j i a (fsub.sub j a z) m)
  have eσ : σ.set i (some v) = σ := by
    apply List.ext_getElem?
    intro j
    by_cases hj : j = i
    · subst hj
      rw [List.getElem?_set_self (by rw [← S.st.len]; exact hi), e1]
    · rw [List.getElem?_set_ne (Ne.symm hj)]
  have q := S.st.set' hi rp
  rw [eσ] at q
  exact ⟨q, S.same, fun j a m => S.new j a (fsub.sub j a m), S.th, fun b hb a o q => le a o (S.bas b hb a o q)⟩
/-- a slot takes a new dict -/
theorem StS.setOd {i : Nat} {f : List Addr} {a0 : Addr} (S : StS B H0 bs env cs fp σ H1) (sb : SB B.ps H1 H) (cc : CsR B (hsOf B fp) H cs') (at0 : atomC cs' = true) (hi : i < env.length) (ef0 : f = [a0]) (ev0 : v = .ref a0) (nd : f.Nodup) (fr : ∀ a ∈ f, H1 a = none ∧ a ∉ B.ps ∧ ¬ hsOf B fp a) (ro : DcO H (B.RpL H fun a => hsOf B fp a ∨ a ∈ f) a0 d) :
    ∃ fp', StS B H0 bs (env.set i (.od d)) cs' fp' (σ.set i (some v)) H := by
  have ndis : ∀ j a, a ∈ fp j → a ∉ f := fun j a m m' => (fr a m').2.2 (.inr ⟨j, m⟩)
  have none0 : ∀ a ∈ f, H0 a = none := fun a m => by
    cases e : H0 a with
    | none => rfl
    | some o =>
      have := S.same a o (fr a m).2.1 e
      rw [(fr a m).1] at this; cases this
  refine ⟨fun j => if j = i then f else fp j, ?_⟩
  have mem : ∀ {j a}, a ∈ (if j = i then f else fp j) → (j = i ∧ a ∈ f) ∨ (j ≠ i ∧ a ∈ fp j) := fun {j a} m => by
    by_cases h : j = i
    · rw [if_pos h] at m; exact .inl ⟨h, m⟩
    · rw [if_neg h] at m; exact .inr ⟨h, m⟩
  have hsub : ∀ a, hsOf B (fun j => if j = i then f else fp j) a → (hsOf B fp a ∨ a ∈ f) := fun a h => by
    rcases h with h | ⟨j, h⟩
    · exact .inl (.inl h)
    · rcases mem h with ⟨_, m⟩ | ⟨_, m⟩
      · exact .inr m
      · exact .inl (.inr ⟨j, m⟩)
  have le1 : Le (hid H1 (hsOf B fp)) (hid H (hsOf B fun j => if j = i then f else fp j)) := fun a o q => by
    obtain ⟨n, q⟩ := hid_some.mp q
    refine hid_some.mpr ⟨fun z => ?_, sb a o (fun m => n (S.st.ps a m)) q⟩
    rcases hsub a z with z | z
    · exact n z
    · rw [(fr a z).1] at q; cases q
  refine ⟨⟨by simp [S.st.len], fun j s e => ?_, fun j hj => ?_, ?_, S.st.ps0, fun a h => ?_, fun j a h => ?_, fun j l a h1 h2 => ?_, fun j => ?_⟩, S.same.trans sb, fun j a h => ?_, S.th, fun b hb a o q => le1 a o (S.bas b hb a o q)⟩
  · by_cases hj : j = i
    · subst hj
      rw [List.getElem?_set_self hi] at e
      cases e
      refine ⟨a0, by rw [List.getElem?_set_self (by rw [← S.st.len]; exact hi), ev0], by rw [if_pos rfl]; exact ef0, ?_⟩
      exact ro.mono (fun _ e => e) fun ds xs z => RpL.mono (hid_le (fun a z => hsub a z) fun _ _ _ e => e) ds xs z
    · rw [List.getElem?_set_ne (Ne.symm hj)] at e
      have q := S.st.slot j s e
      rw [List.getElem?_set_ne (Ne.symm hj), if_neg hj]
      cases s with
      | emp => exact q
      | sh d' => exact ⟨q.1, q.2.choose, q.2.choose_spec.1, Rp.mono le1 _ _ q.2.choose_spec.2⟩
      | ow k d' =>
        obtain ⟨w, e1, r⟩ := q
        exact ⟨w, e1, r.mono (Rp.mono le1) fun a o m q => sb a o (S.st.own j a m) q⟩
      | od d' =>
        obtain ⟨w, e1, ef, r⟩ := q
        exact ⟨w, e1, ef, r.mono (fun o q => sb w o (S.st.own j w (by rw [ef]; exact List.mem_singleton.mpr rfl)) q) fun ds xs z => RpL.mono le1 ds xs z⟩
  · have hj : env.length ≤ j := by simpa using hj
    rw [if_neg (by omega)]
    exact S.st.out j hj
  · exact ⟨cc.len, cc.nd, fun j es a e1 e2 => let ⟨ys, h1, h2⟩ := cc.at_ j es a e1 e2; ⟨ys, h1, atom_rpl (List.all_eq_true.mp at0 es (List.mem_of_getElem? e1)) h2⟩⟩
  · by_cases hp : a ∈ B.ps
    · obtain ⟨xs, e⟩ := cc.there hp
      exact ⟨_, e, rfl⟩
    · obtain ⟨o, e, t⟩ := S.st.th0 a h
      exact ⟨o, sb a o hp e, t⟩
  · rcases mem h with ⟨_, m⟩ | ⟨_, m⟩
    · exact (fr a m).2.1
    · exact S.st.own j a m
  · rcases mem h1 with ⟨e1, m1⟩ | ⟨e1, m1⟩
    · rcases mem h2 with ⟨e2, m2⟩ | ⟨e2, m2⟩
      · rw [e1, e2]
      · exact absurd m1 (ndis l a m2)
    · rcases mem h2 with ⟨e2, m2⟩ | ⟨e2, m2⟩
      · exact absurd m2 (ndis j a m1)
      · exact S.st.dis j l a m1 m2
  · by_cases hj : j = i
    · rw [if_pos hj]; exact nd
    · rw [if_neg hj]; exact S.st.nd j
  · rcases mem h with ⟨_, m⟩ | ⟨_, m⟩
    · exact none0 a m
    · exact S.new j a m
/-- a dict of one's own is changed: a, in the slot i -/
theorem StS.odUpd {i : Nat} {a : Addr} {u0 : HO} (S : StS B H0 bs env cs fp σ H) (hi : i < env.length) (ha : a ∈ fp i)
    (new : ∃ b, σ[i]? = some (some (.ref b)) ∧ fp i = [b] ∧ DcO (upd H a u0) (B.RpL (upd H a u0) (hsOf B fp)) b d) :
    StS B H0 bs (env.set i (.od d)) cs fp σ (upd H a u0) := by
  have hh : hsOf B fp a := .inr ⟨i, ha⟩
  have le : Le (hid H (hsOf B fp)) (hid (upd H a u0) (hsOf B fp)) := fun b o q => by
    obtain ⟨n, q⟩ := hid_some.mp q
    exact hid_some.mpr ⟨n, by rw [upd_ne (fun e => n (by rw [e]; exact hh))]; exact q⟩
  refine ⟨⟨by simp [S.st.len], fun j s e => ?_, fun j hj => S.st.out j (by simpa using hj), ?_, S.st.ps0, fun b h => ?_, S.st.own, S.st.dis, S.st.nd⟩, fun b o n q => ?_, S.new, S.th, fun b hb a o q => le a o (S.bas b hb a o q)⟩
  · by_cases hj : j = i
    · subst hj
      rw [List.getElem?_set_self hi] at e
      cases e
      exact new
    · rw [List.getElem?_set_ne (Ne.symm hj)] at e
      have q := S.st.slot j s e
      cases s with
      | emp => exact q
      | sh d' => exact ⟨q.1, q.2.choose, q.2.choose_spec.1, Rp.mono le _ _ q.2.choose_spec.2⟩
      | ow k d' =>
        obtain ⟨w, e1, r⟩ := q
        exact ⟨w, e1, r.mono (Rp.mono le) fun b o m z => by rw [upd_ne (fun e => hj (S.st.dis j i a (by rw [← e]; exact m) ha))]; exact z⟩
      | od d' =>
        obtain ⟨w, e1, ef, r⟩ := q
        exact ⟨w, e1, ef, r.mono (fun o z => by rw [upd_ne (fun e => hj (S.st.dis j i a (by rw [← e, ef]; exact List.mem_singleton.mpr rfl) ha))]; exact z) fun ds xs z => RpL.mono le ds xs z⟩
  · refine ⟨S.st.cells.len, S.st.cells.nd, fun j es b e1 e2 => ?_⟩
    obtain ⟨ys, h1, h2⟩ := S.st.cells.at_ j es b e1 e2
    have hb : b ≠ a := fun e => S.st.own i a ha (by rw [← e]; exact List.mem_of_getElem? e2)
    exact ⟨ys, by rw [upd_ne hb]; exact h1, RpL.mono le _ _ h2⟩
  · by_cases e : b = a
    · subst e
      obtain ⟨w, _, ef, r⟩ := new
      have hw : b = w := by rw [ef] at ha; exact List.mem_singleton.mp ha
      obtain ⟨o, e1, t⟩ := r.thereN
      exact ⟨o, by rw [hw] at e1 ⊢; exact e1, t⟩
    · obtain ⟨o, q, t⟩ := S.st.th0 b h
      exact ⟨o, by rw [upd_ne e]; exact q, t⟩
  · have hb : b ≠ a := fun e => by
      rw [e, S.new i a ha] at q; cases q
    rw [upd_ne hb]
    exact S.same b o n q
/-- an own dict is let go: it is locked for good -/
theorem StS.freezeOd {i : Nat} (S : StS B H0 bs env cs fp σ H) (e : env[i]? = some (.od d)) : ∃ a u, H a = some u ∧ Mut (some u) ∧ ∀ o, StS B H0 bs (env.set i (.sh d)) cs (fpOff fp i) σ (upd H a (.frz o u)) := by
  have hi : i < env.length := (List.getElem?_eq_some_iff.mp e).1
  obtain ⟨a, e1, ef, r⟩ := S.st.slot i _ e
  have ha : a ∈ fp i := by rw [ef]; exact List.mem_singleton.mpr rfl
  have hh : hsOf B fp a := .inr ⟨i, ha⟩
  obtain ⟨u, hu, mu, rp⟩ := r.lock
  refine ⟨a, u, hu, mu, fun o => ?_⟩
  have fsub := FpSub.off (vs := [i]) (fp := fp) (List.mem_singleton.mpr rfl)
  have le : Le (hid H (hsOf B fp)) (hid (upd H a (.frz o u)) (hsOf B (fpOff fp i))) := fun b x q => by
    obtain ⟨n, q⟩ := hid_some.mp q
    exact hid_some.mpr ⟨fun z => n (hs_off _ z), by rw [upd_ne (fun e => n (by rw [e]; exact hh))]; exact q⟩
  have nh : ¬ hsOf B (fpOff fp i) a := fun z => by
    rcases z with z | ⟨j, z⟩
    · obtain ⟨x, q⟩ := S.th a z
      rw [S.new i a ha] at q; cases q
    · by_cases hj : j = i
      · subst hj
        simp [fpOff] at z
      · exact hj (S.st.dis j i a (fsub.sub j a z) ha)
  refine ⟨⟨by simp [S.st.len], fun j s q0 => ?_, fun j hj => ?_, ⟨S.st.cells.len, S.st.cells.nd, fun j es b e1 e2 => ?_⟩, S.st.ps0, fun b h => ?_, fun j b h => S.st.own j b (fsub.sub j b h), fun j k b h1 h2 => S.st.dis j k b (fsub.sub j b h1) (fsub.sub k b h2), fun j => ?_⟩, fun b x n q => ?_, fun j b h => S.new j b (fsub.sub j b h), S.th, fun b hb x y q => le x y (S.bas b hb x y q)⟩
  · by_cases hj : j = i
    · subst hj
      rw [List.getElem?_set_self hi] at q0
      cases q0
      exact ⟨by simp [fpOff], .ref a, e1, Rp.mono (fun b x q => by
        obtain ⟨n, q⟩ := hid_some.mp q
        exact hid_some.mpr ⟨n, q⟩) _ _ (show Pc.Rp B.K B.mg B.ps (hid (upd H a (.frz o u)) (hsOf B (fpOff fp j))) d (.ref a) from by
          obtain ⟨u2, hu2, _, rp2⟩ := (r.mono (fun _ e => e) fun ds xs z => RpL.mono le ds xs z : DcO H (B.RpL (upd H a (.frz o u)) (hsOf B (fpOff fp j))) a d).lock
          rw [hu] at hu2
          cases hu2
          exact rp2 o (hid_some.mpr ⟨nh, upd_same⟩))⟩
    · rw [List.getElem?_set_ne (Ne.symm hj)] at q0
      have q := S.st.slot j s q0
      rw [show fpOff fp i j = fp j by simp [fpOff, hj]]
      have out : ∀ b, b ∈ fp j → b ≠ a := fun b m z => hj (S.st.dis j i a (by rw [← z]; exact m) ha)
      cases s with
      | emp => exact q
      | sh d' => exact ⟨q.1, q.2.choose, q.2.choose_spec.1, Rp.mono le _ _ q.2.choose_spec.2⟩
      | ow k d' =>
        obtain ⟨w, e1, r⟩ := q
        exact ⟨w, e1, r.mono (Rp.mono le) fun b x m z => by rw [upd_ne (out b m)]; exact z⟩
      | od d' =>
        obtain ⟨w, e1, ef, r⟩ := q
        exact ⟨w, e1, ef, r.mono (fun x z => by rw [upd_ne (out w (by rw [ef]; exact List.mem_singleton.mpr rfl))]; exact z) fun ds xs z => RpL.mono le ds xs z⟩
  · unfold fpOff
    split
    · rfl
    · exact S.st.out j (by simpa using hj)
  · obtain ⟨ys, h1, h2⟩ := S.st.cells.at_ j es b e1 e2
    have hb : b ≠ a := fun e => S.st.own i a ha (by rw [← e]; exact List.mem_of_getElem? e2)
    exact ⟨ys, by rw [upd_ne hb]; exact h1, RpL.mono le _ _ h2⟩
  · by_cases e : b = a
    · subst e; exact ⟨_, upd_same, rfl⟩
    · obtain ⟨x, q, t⟩ := S.st.th0 b h
      exact ⟨x, by rw [upd_ne e]; exact q, t⟩
  · unfold fpOff
    split
    · exact List.nodup_nil
    · exact S.st.nd j
  · have hb : b ≠ a := fun e => by
      rw [e, S.new i a ha] at q; cases q
    rw [upd_ne hb]
    exact S.same b x n q
end
end Pc

set_option Elab.async false
set_option maxRecDepth 100000
set_option maxHeartbeats 4000000
namespace Pc
open PySem PySem.Spec PyProof.Rows L2

abbrev Bs := List (Hp × (Addr → Prop))
/-- a statement and its plain reading -/
def PSm (X : Cx) (B : Bx) (W : WX) (st : Stmt) (m : SS) : Prop := ∀ H0 bs, PS X st (tS B H0 bs W m)
def PSsm (X : Cx) (B : Bx) (W : WX) (st : List Stmt) (m : SS) : Prop := ∀ H0 bs, PSs X st (tS B H0 bs W m)
def sNil : SS := fun env cs => .nx env cs
def sSeq (a b : SS) : SS := fun env cs => match a env cs with
  | .nx env' c => b env' c
  | r => r
def sBrk : SS := fun env cs => .brk env cs
def sCnt : SS := fun env cs => .cnt env cs
def tstS (ka kb : SS) : Vl → SS := fun x => match truthD x.2 with
  | some true => ka
  | some false => kb
  | none => fun _ _ => .bad
def sIfS (c : ES) (a b : SS) : SS := bndS c (tstS a b)
def retK (x : Vl) : SS := fun _ cs => if x.1.plain = true then .ret x.2 cs else .bad
def sRetS (m : ES) : SS := bndS m retK
def sRetN : SS := fun _ cs => .ret .non cs
def setK (i : Nat) (x : Vl) : SS := fun env cs => if x.1.plain = true ∧ i < env.length then .nx (env.set i (.sh x.2)) cs else .bad
def sSet (i : Nat) (m : ES) : SS := bndS m (setK i)
def ownK (i : Nat) (x : Vl) : SS := fun env cs => match x.1 with
  | .fr k => if i < env.length ∧ atomC cs = true then .nx (env.set i (.ow k x.2)) cs else .bad
  | _ => .bad
def sOwn (i : Nat) (m : ES) : SS := bndS m (ownK i)
def patK (g : GS) (x : Vl) : SS := fun env cs => if x.1.plain = true then (match g x.2 env with
  | some env' => .nx env' cs
  | none => .bad) else .bad
def sPat (g : GS) (m : ES) : SS := bndS m (patK g)
def sDrop (m : ES) : SS := bndS m fun _ => sNil
def sFrz (i : Nat) (m : SS) : SS := fun env cs => match env[i]? with
  | some (.ow k d) => m (env.set i (.sh d)) cs
  | some (.od d) => m (env.set i (.sh d)) cs
  | _ => m env cs
/-- name = {} -/
def sDnew (i : Nat) (t : Bool) : SS := fun env cs => if i < env.length ∧ atomC cs = true then .nx (env.set i (.od (if t then .dT [] [] else .dK [] []))) cs else .bad
section
variable {X : Cx} {B : Bx} {W : WX} {st : Stmt} {rest a b : List Stmt} {c e : Expr} {m : ES} {m1 m2 : SS} {pos : Pos}
section
variable {H0 : Hp} {bs : Bs} {env : List Slot} {cs : Cells} {fp : Nat → List Addr} {σ : L2.St} {H : Hp} {E E' : Ends}
theorem TSx.mono {r : Rt} (h : TSx B H0 bs W r E) (nx : ∀ σ H, E.nx σ H → E'.nx σ H) (rt : ∀ v H, E.rt v H → E'.rt v H) (bk : ∀ σ H, E.bk σ H → E'.bk σ H) (ct : ∀ σ H, E.ct σ H → E'.ct σ H) : TSx B H0 bs W r E' := by
  cases r with
  | nx env cs => exact fun fp σ H S => nx _ _ (h fp σ H S)
  | brk env cs => exact fun fp σ H S => bk _ _ (h fp σ H S)
  | cnt env cs => exact fun fp σ H S => ct _ _ (h fp σ H S)
  | ret d cs => exact fun v H sb cc r => rt _ _ (h v H sb cc r)
  | exc x fs env cs => exact h
  | bad => exact h
end
theorem ss_nil : PSsm X B W [] sNil := fun H0 bs => PSs.imp pss_nil fun E σ H ⟨env, cs, fp, S, h⟩ => h fp σ H S
theorem seq_imp {H0 : Hp} {bs : Bs} {E : Ends} {σ : L2.St} {H : Hp} (h : tS B H0 bs W (sSeq m1 m2) E σ H) : tSeq (tS B H0 bs W m1) (tS B H0 bs W m2) E σ H := by
  obtain ⟨env, cs, fp, S, h⟩ := h
  refine ⟨env, cs, fp, S, ?_⟩
  unfold sSeq at h
  cases e : m1 env cs with
  | nx env' c => rw [e] at h; exact fun fp σ H S => ⟨env', c, fp, S, h⟩
  | brk env' c => rw [e] at h; exact h
  | cnt env' c => rw [e] at h; exact h
  | ret d c => rw [e] at h; exact h
  | exc x fs env' c => rw [e] at h; exact h
  | bad => rw [e] at h; exact h
theorem ss_cons (h1 : PSm X B W st m1) (h2 : PSsm X B W rest m2) : PSsm X B W (st :: rest) (sSeq m1 m2) := fun H0 bs => PSs.imp (pss_cons (h1 H0 bs) (h2 H0 bs)) fun E σ H h => seq_imp h
/-- own lists, own dicts are let go ahead of a statement -/
theorem s_frz {i : Nat} (h : PSm X B W st m1) : PSm X B W st (sFrz i m1) := fun H0 bs => ⟨fun pins s σ H E I ⟨env, cs, fp, S, q⟩ => by
  unfold sFrz at q
  split at q
  · rename_i k d e
    exact (h H0 bs).run pins s σ H E I ⟨_, cs, _, S.freeze e, q⟩
  · rename_i d e
    obtain ⟨a, u, hu, mu, S'⟩ := S.freezeOd e
    obtain ⟨o, I1⟩ := I.lock hu mu
    exact (h H0 bs).run pins s σ _ E I1 ⟨_, cs, _, S' o, q⟩
  · exact (h H0 bs).run pins s σ H E I ⟨env, cs, fp, S, q⟩⟩
theorem s_brk : PSm X B W (.Break pos) sBrk := fun H0 bs => PS.imp ps_break fun E σ H ⟨env, cs, fp, S, h⟩ => h fp σ H S
theorem s_cnt : PSm X B W (.Continue pos) sCnt := fun H0 bs => PS.imp ps_continue fun E σ H ⟨env, cs, fp, S, h⟩ => h fp σ H S
theorem s_pass : PSm X B W (.Pass pos) sNil := fun H0 bs => PS.imp ps_pass fun E σ H ⟨env, cs, fp, S, h⟩ => h fp σ H S
theorem s_doc {x j pos'} : PSm X B W (.Expr (.Constant (.str x) j pos) pos') sNil := fun H0 bs => PS.imp ps_doc fun E σ H ⟨env, cs, fp, S, h⟩ => h fp σ H S
theorem s_drop (he : PM X B W e m) (hs : swapsWith e none pos.line X.env = pure false) : PSm X B W (.Expr e pos) (sDrop m) := fun H0 bs => PS.imp (ps_expr he.pe hs) fun E σ H ⟨env, cs, fp, S, h⟩ =>
  tE_bndS S h fun v H1 tg d c1 S1 sb p h1 => h1 fp σ H1 S1
theorem s_ret (he : PM X B W e m) : PSm X B W (.Return (some e) pos) (sRetS m) := fun H0 bs => PS.imp (ps_ret he.pe) fun E σ H ⟨env, cs, fp, S, h⟩ =>
  tE_bndS S h fun v H1 tg d c1 S1 sb p h1 => by
    unfold retK at h1
    split at h1
    · rename_i hp
      exact h1 v H1 S1.same (S1.st.cells.less fun a z => .inl z) (Rp.mono S1.h0le _ _ (p.rp hp))
    · exact h1.elim
theorem s_retN : PSm X B W (.Return none pos) sRetN := fun H0 bs => PS.imp ps_retN fun E σ H ⟨env, cs, fp, S, h⟩ => h .non H S.same (S.st.cells.less fun a z => .inl z) Rp.non
theorem s_if (hc : PM X B W c m) (ha : PSsm X B W a m1) (hb : PSsm X B W b m2) : PSm X B W (.If c a b pos) (sIfS m m1 m2) := fun H0 bs => PS.imp (ps_if hc.pt (ha H0 bs) (hb H0 bs)) fun E σ H ⟨env, cs, fp, S, h⟩ => by
  refine tT_bndS S h (fun x e => by unfold tstS; rw [e]) fun x k c1 H1 e S1 h1 => ?_
  unfold tstS at h1
  rw [e] at h1
  cases k with
  | true => exact iteT ⟨env, c1, fp, S1, h1⟩
  | false => exact iteF ⟨env, c1, fp, S1, h1⟩
/-- name = e, in its form for the store -/
def Asg (X : Cx) (B : Bx) (W : WX) (st : Stmt) (i : Nat) (m : ES) : Prop := PS X st (tAsg (tE B W m) (gName i))
theorem asg_plain {i : Nat} {x : Str} {pos' : Pos} (co : Co X B) (hi : X.N[i]? = some x) (hx : Loc X.env.scope x) (he : PM X B W e m) (hs : swapsWith e (some (.Name x pos')) pos.line X.env = pure false) (hf : X.fn x = true ∨ X.env.scope.names.lookup x = some .local) :
    Asg X B W (.Assign [.Name x pos'] e pos) i m := ps_set co.nd hi hx he.pe hs hf
theorem s_set {i : Nat} (h : Asg X B W st i m) : PSm X B W st (sSet i m) := fun H0 bs => PS.imp h fun E σ H ⟨env, cs, fp, S, h⟩ =>
  tE_bndS S h fun v H1 tg d c1 S1 sb p h1 => by
    unfold setK at h1
    split at h1
    · rename_i hp
      exact h1 _ _ _ (S1.set hp.2 (p.rp hp.1))
    · exact h1.elim
theorem s_own {i : Nat} (h : Asg X B W st i m) : PSm X B W st (sOwn i m) := fun H0 bs => PS.imp h fun E σ H ⟨env, cs, fp, S, h⟩ =>
  tE_bndS S h fun v H1 tg d c1 S1 sb p h1 => by
    unfold ownK at h1
    split at h1
    · rename_i k e
      have e : tg = .fr k := e
      subst e
      split at h1
      · rename_i hp
        obtain ⟨fp', S'⟩ := S.setOwn sb S1.st.cells hp.2 hp.1 p
        exact h1 _ _ _ S'
      · exact h1.elim
    · exact h1.elim
theorem s_dnewK {i : Nat} (h : PS X st (tAsg tDNewK (gName i))) : PSm X B W st (sDnew i false) := fun H0 bs => PS.imp h fun E σ H ⟨env, cs, fp, S, h⟩ => by
  unfold sDnew at h
  split at h
  case isFalse => exact h.elim
  rename_i hp
  intro p hp0
  have sb : SB B.ps H (upd H p (.dK [])) := SB.upd hp0
  have cc : CsR B (hsOf B fp) (upd H p (.dK [])) cs := S.st.cells.next S.st.ps (upd_le hp0)
  have nps : p ∉ B.ps := fun m => by
    obtain ⟨xs, e⟩ := S.st.cells.there m
    rw [hp0] at e; cases e
  have nhs : ¬ hsOf B fp p := fun m => by
    obtain ⟨o, e⟩ := S.st.there m
    rw [hp0] at e; cases e
  obtain ⟨fp', S'⟩ := S.setOd (i := i) (v := .ref p) (d := .dK [] []) sb cc hp.2 hp.1 (f := [p]) rfl rfl (List.nodup_cons.mpr ⟨by simp, .nil⟩) (fun a m => by cases List.mem_singleton.mp m; exact ⟨hp0, nps, nhs⟩) ⟨[], upd_same, rfl, RpL.nil⟩
  exact h _ _ _ S'
theorem s_dnewT {i : Nat} (h : PS X st (tAsg tDNewT (gName i))) : PSm X B W st (sDnew i true) := fun H0 bs => PS.imp h fun E σ H ⟨env, cs, fp, S, h⟩ => by
  unfold sDnew at h
  split at h
  case isFalse => exact h.elim
  rename_i hp
  intro p hp0
  have sb : SB B.ps H (upd H p (.dT [])) := SB.upd hp0
  have cc : CsR B (hsOf B fp) (upd H p (.dT [])) cs := S.st.cells.next S.st.ps (upd_le hp0)
  have nps : p ∉ B.ps := fun m => by
    obtain ⟨xs, e⟩ := S.st.cells.there m
    rw [hp0] at e; cases e
  have nhs : ¬ hsOf B fp p := fun m => by
    obtain ⟨o, e⟩ := S.st.there m
    rw [hp0] at e; cases e
  obtain ⟨fp', S'⟩ := S.setOd (i := i) (v := .ref p) (d := .dT [] []) sb cc hp.2 hp.1 (f := [p]) rfl rfl (List.nodup_cons.mpr ⟨by simp, .nil⟩) (fun a m => by cases List.mem_singleton.mp m; exact ⟨hp0, nps, nhs⟩) ⟨[], upd_same, rfl, RpL.nil⟩
  exact h _ _ _ S'
theorem PGm.use {tg : Expr} {g : GS} {vs : List Nat} {t : TG} (hK : X.K = B.K) (h : PGm X tg g vs t) {H0 : Hp} {bs : Bs} {env env' : List Slot} {cs : Cells} {fp : Nat → List Addr} {σ : L2.St} {H : Hp} {d : D} {v : V} (S : StS B H0 bs env cs fp σ H)
    (r : B.Rp H (hsOf B fp) d v) (e : g d env = some env') {Q : L2.St → Hp → Prop} (hQ : ∀ fp σ, StS B H0 bs env' cs fp σ H → Q σ H) : t v σ H Q :=
  h.rd B hK.symm env env' cs fp σ H d v Q S.st r e fun fp' σ' S' _ f => hQ fp' σ' ⟨S', S.same, fun i a m => S.new i a (f.sub i a m), S.th, fun b hb a o q => hid_le f.hs (fun _ _ _ e => e) a o (S.bas b hb a o q)⟩
theorem s_pat {tg : Expr} {g : GS} {vs : List Nat} {t : TG} (co : Co X B) (he : PM X B W e m) (hg : PGm X tg g vs t) (hs : swapsWithSole [tg] e pos.line X.env = pure false) (hw : swappedStores [tg] e X.env = pure none)
    (h1 : (assignEach [tg] X.env).map (·.2) = [assign tg X.env]) : PSm X B W (.Assign [tg] e pos) (sPat g m) := fun H0 bs => PS.imp (ps_asg he.pe hg.pg hs hw h1) fun E σ H ⟨env, cs, fp, S, h⟩ =>
  tE_bndS S h fun v H1 tg d c1 S1 sb p h1 => by
    unfold patK at h1
    split at h1
    · rename_i hp
      split at h1
      · rename_i env' e
        exact hg.use co.K S1 (p.rp hp) e fun fp σ S' => h1 fp σ H1 S'
      · exact h1.elim
    · exact h1.elim
/-- a, b = x, y with plain local names -/
def sPar (i j : Nat) (ms : AS) : SS := fun env cs => match ms env cs with
  | .ok [x, y] c => if x.1.plain = true ∧ y.1.plain = true ∧ i < env.length ∧ j < env.length then .nx ((env.set i (.sh x.2)).set j (.sh y.2)) c else .bad
  | .ok _ _ => .bad
  | .exc x fs c => .exc x fs env c
  | .bad => .bad
theorem s_par {i j : Nat} {x y : Str} {e1 e2 : Expr} {ms : AS} {px py pt : Pos} {kt k2 : Nat} {pt2 : Pos} (co : Co X B) (hi : X.N[i]? = some x) (hj : X.N[j]? = some y) (hij : i ≠ j)
    (hx : X.env.scope.names.lookup x = some .local) (hy : X.env.scope.names.lookup y = some .local) (ha : PA X [e1, e2] (tA B W ms))
    (hw : swappedStores [.Tuple [.Name x px, .Name y py] kt pt] (.Tuple [e1, e2] k2 pt2) X.env = pure (some [x, y]))
    (hs : swapsWithSole [.Tuple [.Name x px, .Name y py] kt pt] (.Tuple [e1, e2] k2 pt2) pos.line X.env = pure false) :
    PSm X B W (.Assign [.Tuple [.Name x px, .Name y py] kt pt] (.Tuple [e1, e2] k2 pt2) pos) (sPar i j ms) := fun H0 bs => PS.imp (ps_par co.calm co.nd hi hj hij hx hy ha hw hs) fun E σ H ⟨env, cs, fp, S, h⟩ => by
  refine ⟨env, cs, fp, S.st, ?_⟩
  unfold sPar at h
  cases e : ms env cs with
  | bad => rw [e] at h; exact h.elim
  | exc x fs c => rw [e] at h; exact fun cls dd H' sb cc ex => h cls dd fp σ H' (S.next sb cc) ex
  | ok xs c =>
    rw [e] at h
    intro vs H1 sb cc pl
    have S1 := S.next sb cc
    match xs, h with
    | [], h => exact h.elim
    | [_], h => exact h.elim
    | _ :: _ :: _ :: _, h => exact h.elim
    | [x, y], h =>
      simp only at h
      split at h
      · rename_i hc
        obtain ⟨v, w, rfl, p1, p2⟩ := pl.two
        refine ⟨v, w, rfl, ?_⟩
        have S2 := S1.set hc.2.2.1 (p1.rp hc.1)
        exact h _ _ _ (S2.set (by simpa using hc.2.2.2) (Rp.mono (hid_le hs_off fun _ _ _ e => e) _ _ (p2.rp hc.2.1)))
      · exact h.elim
/-! for -/
def forGo (g : GS) (mb : SS) : List D → List Slot → Cells → Rt
  | [], env, cs => .nx env cs
  | d :: ds, env, cs => match g d env with
    | none => .bad
    | some env1 => (match mb env1 cs with
      | .nx env2 c => forGo g mb ds env2 c
      | .cnt env2 c => forGo g mb ds env2 c
      | .brk env2 c => .nx env2 c
      | r => r)
def sFor (g : GS) (mi : IS) (mb : SS) : SS := fun env cs => match mi env cs with
  | .ok ds c => forGo g mb ds env c
  | .exc x fs c => .exc x fs env c
  | .bad => .bad
theorem s_for {tg iter : Expr} {body : List Stmt} {g : GS} {vs : List Nat} {t : TG} {mi : IS} {mb : SS} (co : Co X B) (hp : PassesOwn (model X.prog X.w) X.A X.env X.xe) (hi : PIm X B W tg iter mi) (hg : PGm X tg g vs t) (hb : PSsm X B W body mb)
    (hs : ∀ x, foldedSetIterable iter X.env x = pure x) : PSm X B W (.For tg iter body [] pos) (sFor g mi mb) := fun H0 bs => by
  obtain ⟨wi, hwi, rd⟩ := hi.ex
  refine ⟨fun pins s σ H E I h => ?_⟩
  -- the loop's own word, chosen when its walk stands
  refine (ps_for (tb := fun E σ H => ∃ b : Hp × (Addr → Prop), tS B H0 (b :: bs) W mb E σ H) hp co.calm hwi hg.pg ⟨fun pins s σ H D I ⟨b, q⟩ => (hb H0 (b :: bs)).run pins s σ H D I q⟩ hs).run pins s σ H E I ?_
  obtain ⟨env, cs, fp, S, h⟩ := h
  unfold sFor at h
  refine rd σ H _ env cs fp S.st ?_
  cases e : mi env cs with
  | bad => rw [e] at h; exact h.elim
  | exc x fs c => rw [e] at h; exact fun cls dd H' sb cc ex => h cls dd fp σ H' (S.next sb cc) ex
  | ok ds c =>
    simp only [e] at h
    intro J H1 sb1 cc1 it
    have S1 := S.next sb1 cc1
    obtain ⟨G, Y, wk, hG, hY⟩ := it
    have more : StS B H0 ((H1, hsOf B fp) :: bs) env c fp σ H1 := ⟨S1.st, S1.same, S1.new, S1.th, fun b hb => by
      rcases List.mem_cons.mp hb with hb | hb
      · subst hb; exact fun _ _ e => e
      · exact S1.bas b hb⟩
    have less : ∀ {env cs fp0 σ H}, StS B H0 ((H1, hsOf B fp) :: bs) env cs fp0 σ H → StS B H0 bs env cs fp0 σ H := fun S => ⟨S.st, S.same, S.new, S.th, fun b hb => S.bas b (List.mem_cons_of_mem _ hb)⟩
    refine for_it (g := t) (tb := fun E σ H => ∃ b : Hp × (Addr → Prop), tS B H0 (b :: bs) W mb E σ H) (D := E) wk (fun i σ H => ∃ env c fp', StS B H0 ((H1, hsOf B fp) :: bs) env c fp' σ H ∧ TSx B H0 bs W (forGo g mb (ds.drop i) env c) E) ⟨env, c, fp, more, h⟩ ?_ ?_ ?_
    · rintro i σ' H' _ ⟨env', c', fp', S', _⟩
      exact hG H' _ (S'.bas _ (List.mem_cons_self ..))
    · rintro i x σ' H' H2 hi ⟨env', c', fp', S', hr⟩ y
      obtain ⟨le2, d, ed, rx⟩ := hY i H' x H2 _ (fun a z => S'.st.thereN z) (S'.bas _ (List.mem_cons_self ..)) y
      have S2 : StS B H0 ((H1, hsOf B fp) :: bs) env' c' fp' σ' H2 := S'.next (fun a o _ q => le2 a o q) (S'.st.cells.next S'.st.ps le2)
      rw [List.drop_eq_getElem_cons hi] at hr
      have ed' : ds[i] = d := by
        rw [List.getElem?_eq_getElem hi] at ed
        exact Option.some.inj ed
      rw [ed'] at hr
      unfold forGo at hr
      cases eg : g d env' with
      | none => simp only [eg] at hr; exact hr.elim
      | some env1 =>
        simp only [eg] at hr
        refine hg.use co.K S2 rx eg fun fp3 σ3 S3 => ⟨(H1, hsOf B fp), env1, c', fp3, S3, ?_⟩
        cases em : mb env1 c' with
        | nx env2 c2 => simp only [em] at hr; exact fun fp σ H S => ⟨env2, c2, fp, S, hr⟩
        | cnt env2 c2 => simp only [em] at hr; exact fun fp σ H S => ⟨env2, c2, fp, S, hr⟩
        | brk env2 c2 => simp only [em] at hr; exact fun fp σ H S => hr fp σ H (less S)
        | ret d c2 => simp only [em] at hr; exact hr
        | exc x fs env2 c2 => simp only [em] at hr; exact fun cls dd fp σ H S ex => hr cls dd fp σ H (less S) ex
        | bad => simp only [em] at hr; exact hr.elim
    · rintro σ' H' ⟨env', c', fp', S', hr⟩
      rw [List.drop_length] at hr
      exact hr fp' σ' H' (less S')
end
end Pc

set_option Elab.async false
set_option maxRecDepth 100000
set_option maxHeartbeats 4000000
namespace Pc
open PySem PySem.Spec PyProof.Rows L2

/-! ### what changes a list -/
def appK (i : Nat) (ds : List D) (x : Vl) : SS := fun env cs => if x.1.plain = true ∧ ds.length < 100000 then .nx (env.set i (.ow 0 (.lst (ds ++ [x.2])))) cs else .bad
def sApp (i : Nat) (m : ES) : SS := fun env cs => match env[i]? with
  | some (.ow 0 (.lst ds)) => bndS m (appK i ds) env cs
  | _ => .bad
def stoK (i : Nat) (x y : Vl) : SS := fun env cs => match env[i]?, y.2 with
  | some (.ow 0 (.lst ds)), .int k => (match ixN ds.length k with
    | some j => if x.1.plain = true then .nx (env.set i (.ow 0 (.lst (ds.set j x.2)))) cs else .bad
    | none => .bad)
  | some (.sh (.cell c)), .int k => (match cs[c]? with
    | some ds => (match ixN ds.length k with
      | some j => if x.1.plain = true then .nx env (cs.set c (ds.set j x.2)) else .bad
      | none => .bad)
    | none => .bad)
  | _, _ => .bad
/-- something stands in the slot -/
def held (i : Nat) (env : List Slot) : Bool := match env[i]? with
  | some (.sh _) => true
  | some (.ow _ _) => true
  | _ => false
/-- a[b] = e, a a name -/
def sSto (i : Nat) (mi m : ES) : SS := fun env cs => if held i env = true then bndS m (fun x => bndS mi fun y => stoK i x y) env cs else .bad
def sto2K (i : Nat) (x y z : Vl) : SS := fun env cs => match env[i]?, y.2, z.2 with
  | some (.ow 1 (.lst ds)), .int k, .int l => (match ixN ds.length k with
    | some j => (match ds[j]? with
      | some (.lst es) => (match ixN es.length l with
        | some n => if x.1.plain = true then .nx (env.set i (.ow 1 (.lst (ds.set j (.lst (es.set n x.2)))))) cs else .bad
        | none => .bad)
      | _ => .bad)
    | none => .bad)
  | _, _, _ => .bad
/-- a[b][c] = e, a a name -/
def sSto2 (i : Nat) (mi mj m : ES) : SS := fun env cs => match env[i]? with
  | some (.ow 1 (.lst ds)) => bndS m (fun x => bndS mi fun y => if (match y.2 with | .int k => (atI ds k).isSome | _ => false) = true then bndS mj fun z => sto2K i x y z else fun _ _ => .bad) env cs
  | _ => .bad
section
variable {X : Cx} {B : Bx} {W : WX} {e o : Expr} {m mi mj : ES} {x : Str} {p1 apos cpos pos : Pos}
theorem RpO.one {R : D → V → Prop} {K : PySem.W.Frag} {mg : Str → Option Value} {ps : List Addr} {H G : Hp} {ds : List D} {v : V} {f : List Addr} (h : RpO (Pc.Rp K mg ps G) H 1 (.lst ds) v f) : ∃ a xs, v = .ref a ∧ H a = some (.lst xs) ∧ f = [a] ∧ Pc.RpL K mg ps G ds xs := by
  obtain ⟨a, ds', xs, fps, e1, e2, e3, e4, h⟩ := h
  cases e1
  obtain ⟨h1, h2⟩ := RpL.of_all3_0 h
  exact ⟨a, xs, e2, e3, by rw [e4, h2], h1⟩
theorem RpO.mk1 {K : PySem.W.Frag} {mg : Str → Option Value} {ps : List Addr} {H G : Hp} {ds : List D} {a : Addr} {xs : List V} (h : H a = some (.lst xs)) (r : Pc.RpL K mg ps G ds xs) : RpO (Pc.Rp K mg ps G) H 1 (.lst ds) (.ref a) [a] :=
  ⟨a, ds, xs, ds.map fun _ => [], rfl, rfl, h, by rw [flatten_map_nil], RpL.all3 (fun _ _ h => h) r⟩
theorem hid_upd_in {H : Hp} {a : Addr} {o : HO} {p : Addr → Prop} (h : p a) : Le (hid H p) (hid (upd H a o) p) := fun b u q => by
  obtain ⟨n, q⟩ := hid_some.mp q
  exact hid_some.mpr ⟨n, by rw [upd_ne (fun e => n (by rw [e]; exact h))]; exact q⟩
theorem s_app (co : Co X B) {i : Nat} (hN : X.N[i]? = some x) (hv : Vis X.env.scope x) (hd : (x == ("__debug__" : Str)) = false) (hcd : (x == ("__classdict__" : Str)) = false) (he : PM X B W e m)
    (hbase : attributeBase (.Name x p1) "append" X.env (eval (.Name x p1) X.env) = eval (.Name x p1) X.env)
    (hs : starEach [e] X.env = (false, eval e X.env) :: starEach [] X.env) (hline : (apos.endLine == cpos.line) = true) :
    PSm X B W (.Expr (.Call (.Attribute (.Name x p1) "append" apos) [e] [] cpos) pos) (sApp i m) := fun H0 bs => by
  refine PS.imp (ps_expr (pe_bm PySem.F.plainAttrs_list PySem.F.slot_list_append PySem.F.type_list_append mt_append (pe_var hN hv hd hcd) (pa_cons he.pe pa_nil hs) hbase (by rw [hs]; rfl) hline hs rfl) rfl) fun E σ H ⟨env, cs, fp, S, h⟩ => ?_
  unfold sApp at h
  split at h
  case h_2 => exact h.elim
  rename_i ds es
  obtain ⟨v, e1, r⟩ := S.st.slot i _ es
  obtain ⟨a, xs, rfl, ha, hf, rl⟩ := RpO.one (R := fun _ _ => True) r
  refine ⟨.ref a, e1, .inl ⟨rfl, xs, SqL.of ha⟩, ?_⟩
  refine tE_bndS S h fun z H1 tg d c1 S1 sb p h1 => ?_
  unfold appK at h1
  split at h1
  case isFalse => exact h1.elim
  rename_i hc
  have hi : i < env.length := (List.getElem?_eq_some_iff.mp es).1
  obtain ⟨v2, e2, r2⟩ := S1.st.slot i _ es
  rw [e1] at e2
  cases e2
  obtain ⟨a2, xs2, ev, ha2, hf2, rl2⟩ := RpO.one (R := fun _ _ => True) r2
  cases ev
  have hsl := sizeLine_eq
  have hl := rl2.length
  have hin : a ∈ fp i := by rw [hf2]; exact List.mem_singleton.mpr rfl
  refine ⟨a, xs2, z, rfl, rfl, ha2, by omega, ?_⟩
  refine h1 fp σ _ (S1.ownUpd hi hin ⟨.ref a, e1, ?_⟩)
  rw [hf2]
  exact RpO.mk1 upd_same (RpL.mono (hid_upd_in (.inr ⟨i, hin⟩)) _ _ (rl2.append (RpL.cons (p.rp hc.1) RpL.nil)))
theorem held_some {H0 : Hp} {bs : Bs} {env : List Slot} {cs : Cells} {fp : Nat → List Addr} {σ : L2.St} {H : Hp} {i : Nat} (S : StS B H0 bs env cs fp σ H) (h : held i env = true) : ∃ w, σ[i]? = some (some w) := by
  unfold held at h
  split at h
  · rename_i d e
    obtain ⟨_, v, e1, _⟩ := S.st.slot i _ e
    exact ⟨v, e1⟩
  · rename_i k d e
    obtain ⟨v, e1, _⟩ := S.st.slot i _ e
    exact ⟨v, e1⟩
  · cases h
theorem All3.mid {α β γ : Type} {F : α → β → γ → Prop} {as : List α} {bs : List β} {cs : List γ} (h : All3 F as bs cs) {i : Nat} {a' : α} {c : γ} (hc : cs[i]? = some c) (f : ∀ b, bs[i]? = some b → F a' b c) : All3 F (as.set i a') bs cs := by
  induction h generalizing i with
  | nil => exact .nil
  | cons h1 h2 ih =>
    cases i with
    | zero =>
      simp at hc
      subst hc
      exact .cons (f _ rfl) h2
    | succ i => exact .cons h1 (ih (i := i) (by simpa using hc) fun b e => f b (by simpa using e))
theorem s_sto (co : Co X B) {i : Nat} (hN : X.N[i]? = some x) (hv : Vis X.env.scope x) (hd : (x == ("__debug__" : Str)) = false) (hcd : (x == ("__classdict__" : Str)) = false) (he : PM X B W e m) (hi : PM X B W o mi) {p2 : Pos}
    (hs : swapsWithSole [.Subscript (.Name x p1) o p2] e pos.line X.env = pure false) (hw : swappedStores [.Subscript (.Name x p1) o p2] e X.env = pure none)
    (ha : ∀ v, assign (.Subscript (.Name x p1) o p2) X.env v = (do
      let ov ← holding [v] (eval (.Name x p1) X.env)
      let iv ← holding [v, ov] (eval o X.env)
      standAt p2
      holding [v, ov, iv] (setItem ov iv v)
      release [v, ov, iv] [])) :
    PSm X B W (.Assign [.Subscript (.Name x p1) o p2] e pos) (sSto i mi m) := fun H0 bs => by
  refine PS.imp (ps_asg he.pe (pg_sub (pe_var hN hv hd hcd) hi.pe set_list ha) hs hw rfl) fun E σ H ⟨env, cs, fp, S, h⟩ => ?_
  unfold sSto at h
  split at h
  case isFalse => exact h.elim
  rename_i hh
  obtain ⟨w, ew⟩ := held_some S hh
  refine tE_bndS S h fun v H1 tg d c1 S1 sb p h1 => ⟨w, ew, tE_bndS S1 h1 fun u H2 tg2 d2 c2 S2 sb2 p2 h2 => ?_⟩
  unfold stoK at h2
  have hi : i < env.length := by rw [S2.st.len]; exact (List.getElem?_eq_some_iff.mp ew).1
  split at h2
  · rename_i ds k es ed
    have ed : d2 = .int k := ed
    subst ed
    split at h2
    · rename_i j ej
      split at h2
      · rename_i hp
        obtain ⟨v2, e2, r2⟩ := S2.st.slot i _ es
        rw [ew] at e2
        cases e2
        obtain ⟨a, xs, rfl, ha2, hf2, rl⟩ := RpO.one (R := fun _ _ => True) r2
        have hin : a ∈ fp i := by rw [hf2]; exact List.mem_singleton.mpr rfl
        refine ⟨a, xs, k, j, rfl, p2.int, ha2, by rw [← rl.length]; exact ej, h2 fp σ _ (S2.ownUpd hi hin ⟨.ref a, ew, ?_⟩)⟩
        rw [hf2]
        exact RpO.mk1 upd_same (RpL.mono (hid_upd_in (.inr ⟨i, hin⟩)) _ _ (rl.set ((p.next S.st.ps sb2).rp hp)))
      · exact h2.elim
    · exact h2.elim
  · rename_i c k es ed
    have ed : d2 = .int k := ed
    subst ed
    split at h2
    · rename_i ds ec
      split at h2
      · rename_i j ej
        split at h2
        · rename_i hp
          obtain ⟨_, v2, e2, r2⟩ := S2.st.slot i _ es
          rw [ew] at e2
          cases e2
          obtain ⟨a, rfl, ha⟩ := Rp.cell_of r2
          obtain ⟨xs, hx, rl⟩ := S2.st.cells.at_ c ds a ec ha
          exact ⟨a, xs, k, j, rfl, p2.int, hx, by rw [← rl.length]; exact ej, h2 fp σ _ (S2.cellUpd (List.getElem?_eq_some_iff.mp ec).1 ha (rl.set ((p.next S.st.ps sb2).rp hp)))⟩
        · exact h2.elim
      · exact h2.elim
    · exact h2.elim
  · exact h2.elim
theorem s_sto2 (co : Co X B) {i : Nat} {q : Expr} (hN : X.N[i]? = some x) (hv : Vis X.env.scope x) (hd : (x == ("__debug__" : Str)) = false) (hcd : (x == ("__classdict__" : Str)) = false) (he : PM X B W e m) (hi : PM X B W o mi) (hj : PM X B W q mj) (hpl : PlainIx o) {p2 p3 : Pos}
    (hs : swapsWithSole [.Subscript (.Subscript (.Name x p1) o p2) q p3] e pos.line X.env = pure false) (hw : swappedStores [.Subscript (.Subscript (.Name x p1) o p2) q p3] e X.env = pure none)
    (ha : ∀ v, assign (.Subscript (.Subscript (.Name x p1) o p2) q p3) X.env v = (do
      let ov ← holding [v] (eval (.Subscript (.Name x p1) o p2) X.env)
      let iv ← holding [v, ov] (eval q X.env)
      standAt p3
      holding [v, ov, iv] (setItem ov iv v)
      release [v, ov, iv] [])) :
    PSm X B W (.Assign [.Subscript (.Subscript (.Name x p1) o p2) q p3] e pos) (sSto2 i mi mj m) := fun H0 bs => by
  refine PS.imp (ps_asg he.pe (pg_sub (pe_ix ix_list (pe_var hN hv hd hcd) hi.pe hpl) hj.pe set_list ha) hs hw rfl) fun E σ H ⟨env, cs, fp, S, h⟩ => ?_
  unfold sSto2 at h
  split at h
  case h_2 => exact h.elim
  rename_i ds es
  obtain ⟨w, ew, r0⟩ := S.st.slot i _ es
  have hi : i < env.length := (List.getElem?_eq_some_iff.mp es).1
  refine tE_bndS S h fun v H1 tg d c1 S1 sb p h1 => ⟨w, ew, tE_bndS S1 h1 fun u H2 tg2 d2 c2 S2 sb2 p2 h2 => ?_⟩
  cases d2 <;> try exact h2.elim
  rename_i k
  cases p2.int
  have h2 : TSx B H0 bs W ((if (atI ds k).isSome = true then bndS mj fun z => sto2K i (tg, d) (tg2, .int k) z else fun _ _ => .bad) env c2) E := h2
  split at h2
  case isFalse => exact h2.elim
  rename_i hsome
  obtain ⟨w', ew', r2⟩ := S2.st.slot i _ es
  rw [ew] at ew'
  cases ew'
  obtain ⟨a, ds', xs, fps, e1, rfl, hx, ef, al⟩ := r2
  cases e1
  cases ea : atI ds k with
  | none => rw [ea] at hsome; cases hsome
  | some dj =>
    obtain ⟨j, y, hj1, hj2, hj3⟩ := atI_rel al.length.1 ea
    refine ⟨a, xs, k, y, rfl, rfl, SqL.of hx, hj3, tE_bndS S2 h2 fun u3 H3 tg3 d3 c3 S3 sb3 p3 h3 => ?_⟩
    unfold sto2K at h3
    rw [es] at h3
    cases d3 <;> simp only at h3 <;> first | exact h3.elim | skip
    rename_i l
    have ej : ixN ds.length k = some j ∨ ixN ds.length k ≠ some j := Classical.em _
    split at h3
    case h_2 => exact h3.elim
    rename_i j' ej'
    have jj : ds[j']? = some dj := by
      unfold atI at ea
      rw [ej'] at ea
      exact ea
    rw [jj] at h3
    split at h3
    case h_2 => exact h3.elim
    rename_i es' ees
    cases ees
    split at h3
    case h_2 => exact h3.elim
    rename_i n en
    split at h3
    case isFalse => exact h3.elim
    rename_i hp
    -- the slot as it stands now
    obtain ⟨w', ew', r3⟩ := S3.st.slot i _ es
    rw [ew] at ew'
    cases ew'
    obtain ⟨a3, ds3, xs3, fps3, e1, ev, hx3, ef3, al3⟩ := r3
    cases e1
    cases ev
    obtain ⟨z, f, hz1, hz2, hz3⟩ := al3.get jj
    obtain ⟨b, ys, rfl, hb, rfl, rl⟩ := RpO.one (R := fun _ _ => True) hz3
    have yz : y = .ref b := by
      have h5 : H3 a = some (.lst xs) := sb3 a _ (S2.st.own i a (by rw [ef]; exact List.mem_cons_self ..)) hx
      have e5 : xs3 = xs := by
        have q := hx3.symm.trans h5
        injection q with q
        injection q
      rw [← e5] at hj3
      have h6 : atI xs3 k = xs3[j']? := by
        unfold atI
        rw [← al3.length.1, ej']
        rfl
      rw [hj3, hz1] at h6
      exact Option.some.inj h6
    subst yz
    have hfl : b ∈ fps3.flatten := List.mem_flatten.mpr ⟨[b], List.mem_of_getElem? hz2, List.mem_singleton.mpr rfl⟩
    have hin : b ∈ fp i := by rw [ef3]; exact List.mem_cons_of_mem _ hfl
    have hnd := S3.st.nd i
    rw [ef3] at hnd
    have hba : b ≠ a := fun e => (List.nodup_cons.mp hnd).1 (by rw [← e]; exact hfl)
    refine ⟨b, ys, l, n, rfl, p3.int, hb, by rw [← rl.length]; exact en, h3 fp σ _ (S3.ownUpd hi hin ⟨.ref a, ew, ?_⟩)⟩
    have leb := hid_upd_in (H := H3) (a := b) (o := .lst (ys.set n v)) (p := hsOf B fp) (.inr ⟨i, hin⟩)
    have pv := ((p.next S.st.ps sb2).next S.st.ps sb3).rp hp
    refine ⟨a, ds.set j' (.lst (es'.set n d)), xs3, fps3, rfl, rfl, by rw [upd_ne hba.symm]; exact hx3, ef3, ?_⟩
    -- the elements: all but the j'-th as they were
    have key : ∀ {ds : List D} {xs : List V} {fps : List (List Addr)} {j : Nat}, All3 (RpO (B.Rp H3 (hsOf B fp)) H3 1) ds xs fps → fps.flatten.Nodup → fps[j]? = some [b] → xs[j]? = some (.ref b) →
        All3 (RpO (B.Rp (upd H3 b (.lst (ys.set n v))) (hsOf B fp)) (upd H3 b (.lst (ys.set n v))) 1) (ds.set j (.lst (es'.set n d))) xs fps := by
      intro ds xs fps j h
      have newE : RpO (B.Rp (upd H3 b (.lst (ys.set n v))) (hsOf B fp)) (upd H3 b (.lst (ys.set n v))) 1 (.lst (es'.set n d)) (.ref b) [b] := RpO.mk1 upd_same (RpL.mono leb _ _ (rl.set pv))
      induction h generalizing j with
      | nil => intro _ hf _; simp at hf
      | @cons a1 b1 c1' as bs' cs' h1 h2 ih =>
        intro nd hf hxj
        rw [List.flatten_cons, List.nodup_append] at nd
        cases j with
        | zero =>
          simp at hf hxj
          subst hf hxj
          refine .cons newE (h2.imp fun d0 v0 f0 m r => r.mono (Rp.mono leb) fun c o mc q => ?_)
          have hc : c ≠ b := fun e => nd.2.2 b (List.mem_singleton.mpr rfl) c (List.mem_flatten.mpr ⟨f0, m, mc⟩) e.symm
          rw [upd_ne hc]
          exact q
        | succ j =>
          refine .cons (h1.mono (Rp.mono leb) fun c o mc q => ?_) (ih (j := j) nd.2.1 (by simpa using hf) (by simpa using hxj))
          have hbf : b ∈ cs'.flatten := List.mem_flatten.mpr ⟨[b], List.mem_of_getElem? (by simpa using hf), List.mem_singleton.mpr rfl⟩
          have hc : c ≠ b := fun e => nd.2.2 c mc b hbf e
          rw [upd_ne hc]
          exact q
    exact key al3 (List.nodup_cons.mp hnd).2 hz2 hz1
end
end Pc

set_option Elab.async false
set_option maxRecDepth 100000
set_option maxHeartbeats 4000000
namespace Pc
open PySem PySem.Spec PyProof.Rows L2

/-! ### a cell is made -/
section
variable {K : PySem.W.Frag} {mg : Str → Option Value} {ps : List Addr} {H : Hp}
mutual
theorem Rp.cells : ∀ (d : D) (v : V), Rp K mg [] H d v → Rp K mg ps H d v
  | .non, v, h => by simpa [Rp] using h
  | .bl b, v, h => by simpa [Rp] using h
  | .int i, v, h => by simpa [Rp] using h
  | .str x, v, h => by simpa [Rp] using h
  | .ty n, v, h => by simpa [Rp] using h
  | .fn x, v, h => by simpa [Rp] using h
  | .tpc ds, v, h => by
    obtain ⟨a, xs, rfl, s, r⟩ := Rp.tpc_of h
    exact Rp.tpc s (RpL.cells ds xs r)
  | .dK ks ds, v, h => by
    obtain ⟨a, o, ws, rfl, s, q, r⟩ := Rp.dK_of h
    exact Rp.dK s q (RpL.cells ds _ r)
  | .dT ks ds, v, h => by
    obtain ⟨a, o, ws, rfl, s, q, r⟩ := Rp.dT_of h
    exact Rp.dT s q (RpL.cells ds _ r)
  | .dI ks ds, v, h => by
    obtain ⟨a, o, ws, rfl, s, q, r⟩ := Rp.dI_of h
    exact Rp.dI s q (RpL.cells ds _ r)
  | .obj c ms bs ks ds, v, h => by
    unfold Rp at h ⊢
    obtain ⟨a, C, d, fs, e, m, k, s, q, t, r⟩ := h
    exact ⟨a, C, d, fs, e, m, k, s, q, t, RpL.cells ds _ r⟩
  | .cls c ms bs ks, v, h => by simpa [Rp] using h
  | .cell i, v, h => by
    obtain ⟨a, _, e⟩ := Rp.cell_of h
    simp at e
  | .tup ds, v, h => by
    unfold Rp at h ⊢
    obtain ⟨a, xs, e, s, r⟩ := h
    exact ⟨a, xs, e, s, RpL.cells ds xs r⟩
  | .lst ds, v, h => by
    unfold Rp at h ⊢
    obtain ⟨a, xs, e, s, r⟩ := h
    exact ⟨a, xs, e, s, RpL.cells ds xs r⟩
  | .frz ds, v, h => by
    unfold Rp at h ⊢
    obtain ⟨a, xs, e, s, r⟩ := h
    exact ⟨a, xs, e, s, RpL.cells ds xs r⟩
theorem RpL.cells : ∀ (ds : List D) (xs : List V), RpL K mg [] H ds xs → RpL K mg ps H ds xs
  | [], xs, h => by simpa [RpL] using h
  | d :: ds, xs, h => by
    unfold RpL at h ⊢
    obtain ⟨x, r, e, h1, h2⟩ := h
    exact ⟨x, r, e, Rp.cells d x h1, RpL.cells ds r h2⟩
end
end
def plainE (env : List Slot) : Bool := env.all fun s => !s.isOw
def cellEnd : Rt → Rt
  | .ret (.bl b) _ => .ret (.bl b) []
  | _ => .bad
/-- i = [..], a cell of its own for what follows -/
def sCell (i : Nat) (m : ES) (rest : SS) : SS := fun env cs => match m env cs with
  | .ok (.fr 0, .lst ds) [] => if plainE env = true ∧ i < env.length then cellEnd (rest (env.set i (.sh (.cell 0))) [ds]) else .bad
  | _ => .bad
section
variable {X : Cx} {B : Bx} {W : WX} {st : Stmt} {rest : List Stmt} {m : ES} {m2 : SS}
theorem ss_cell {i : Nat} (h : Asg X B W st i m) (hr : ∀ B' : Bx, B'.K = B.K → B'.mg = B.mg → PSsm X B' W rest m2) : PSsm X B W (st :: rest) (sCell i m m2) := by
  intro H0 bs
  have h2 : PSs X rest (fun E σ H => ∃ (B' : Bx) (H0' : Hp), B'.K = B.K ∧ B'.mg = B.mg ∧ tS B' H0' [] W m2 E σ H) := ⟨fun pins s σ H D I ⟨B', H0', e1, e2, q⟩ => (hr B' e1 e2 H0' []).run pins s σ H D I q⟩
  refine PSs.imp (pss_cons h h2) fun E σ H ⟨env, cs, fp, S, q⟩ => ?_
  refine ⟨env, cs, fp, S.st, ?_⟩
  unfold sCell at q
  cases e : m env cs with
  | bad => rw [e] at q; exact q
  | exc x fs c => rw [e] at q; exact q.elim
  | ok x c =>
    rw [e] at q
    obtain ⟨t, d⟩ := x
    split at q
    case h_2 => exact q.elim
    rename_i ds em
    cases em
    split at q
    case isFalse => exact q.elim
    rename_i hp
    intro v H1 sb cc p
    have hps : B.ps = [] := by
      have := cc.len
      exact List.eq_nil_of_length_eq_zero this.symm
    obtain ⟨K, mg, ps, h0⟩ := B
    have hps : ps = [] := hps
    subst hps
    have fp0 : ∀ j, fp j = [] := fun j => by
      by_cases hj : j < env.length
      · have q := S.st.slot j _ (List.getElem?_eq_getElem hj)
        have hw := List.all_eq_true.mp hp.1 env[j] (List.getElem_mem hj)
        cases es : env[j] with
        | emp => rw [es] at q; exact q
        | sh d => rw [es] at q; exact q.1
        | ow k d => rw [es] at hw; cases hw
        | od d => rw [es] at hw; cases hw
      · exact S.st.out j (by omega)
    have efp : fp = fun _ => [] := funext fp0
    subst efp
    obtain ⟨f, nd, fr, ro⟩ := p
    obtain ⟨a, xs, rfl, ha, rfl, rl⟩ := RpO.one (R := fun _ _ => True) ro
    have fra := fr a (List.mem_singleton.mpr rfl)
    have hh0 : hsOf ⟨K, mg, [], h0⟩ (fun _ => []) = h0 := funext fun b => propext ⟨fun h => h.elim id fun ⟨_, m⟩ => (by cases m), .inl⟩
    have na : ¬ h0 a := fun z => fra.2.2 (.inl z)
    let h0' : Addr → Prop := fun b => h0 b ∨ b = a
    let B' : Bx := ⟨K, mg, [a], h0'⟩
    have eh' : hsOf B' (fun _ => []) = h0' := funext fun b => propext ⟨fun h => h.elim id fun ⟨_, m⟩ => (by cases m), .inl⟩
    have le1 : Le (hid H h0) (hid H1 h0') := fun b o z => by
      obtain ⟨n, z⟩ := hid_some.mp z
      have hb : b ≠ a := fun e => by rw [e, fra.1] at z; cases z
      exact hid_some.mpr ⟨fun y => y.elim n hb, sb b o (by simp) z⟩
    refine ⟨B', H1, rfl, rfl, env.set i (.sh (.cell 0)), [ds], fun _ => [], ⟨⟨?_, fun j s es => ?_, fun _ _ => rfl, ?_, ?_, ?_, fun j b m => (by cases m), fun j l b m => (by cases m), fun j => .nil⟩, .refl, fun j b m => (by cases m), ?_, fun b m => (by cases m)⟩, ?_⟩
    · simp [S.st.len]
    · have hlen := S.st.len
      by_cases hj : j = i
      · subst hj
        rw [List.getElem?_set_self hp.2] at es
        cases es
        refine ⟨rfl, .ref a, by rw [List.getElem?_set_self (by omega)], ?_⟩
        show Pc.Rp K mg [a] _ (.cell 0) (.ref a)
        unfold Pc.Rp
        exact ⟨a, rfl, rfl⟩
      · rw [List.getElem?_set_ne (Ne.symm hj)] at es
        have q := S.st.slot j s es
        rw [List.getElem?_set_ne (Ne.symm hj)]
        cases s with
        | emp => rfl
        | sh d =>
          obtain ⟨_, w, e1, r⟩ := q
          refine ⟨rfl, w, e1, ?_⟩
          show Pc.Rp K mg [a] (hid H1 (hsOf B' fun _ => [])) d w
          rw [eh']
          have r : Pc.Rp K mg [] (hid H (hsOf ⟨K, mg, [], h0⟩ fun _ => [])) d w := r
          rw [hh0] at r
          exact Rp.cells _ _ (Rp.mono le1 _ _ r)
        | ow k d =>
          have hw := List.all_eq_true.mp hp.1 _ (List.mem_of_getElem? es)
          cases hw
        | od d =>
          have hw := List.all_eq_true.mp hp.1 _ (List.mem_of_getElem? es)
          cases hw
    · refine ⟨rfl, List.nodup_cons.mpr ⟨by simp, .nil⟩, fun j es b e1 e2 => ?_⟩
      cases j with
      | succ j => simp at e1
      | zero =>
        simp at e1
        subst e1
        have e2 : some a = some b := e2
        cases e2
        refine ⟨xs, ha, ?_⟩
        show Pc.RpL K mg [a] (hid H1 (hsOf B' fun _ => [])) ds xs
        rw [eh']
        have rl : Pc.RpL K mg [] (hid H1 fun b => hsOf ⟨K, mg, [], h0⟩ (fun _ => []) b ∨ b ∈ [a]) ds xs := rl
        refine RpL.cells _ _ (RpL.mono (hid_le (fun b z => ?_) fun _ _ _ e => e) _ _ rl)
        rw [hh0]
        exact z.elim .inl fun e => .inr (by rw [e]; exact List.mem_singleton.mpr rfl)
    · intro b hb
      exact .inr (List.mem_singleton.mp hb)
    · intro b hb
      rcases hb with hb | hb
      · obtain ⟨o, z, t⟩ := S.st.th0 b hb
        exact ⟨o, sb b o (by simp) z, t⟩
      · rw [hb]; exact ⟨_, ha, rfl⟩
    · intro b hb
      rcases hb with hb | hb
      · obtain ⟨o, z, _⟩ := S.st.th0 b hb
        exact ⟨o, sb b o (by simp) z⟩
      · rw [hb]; exact ⟨_, ha⟩
    · cases er : m2 (env.set i (.sh (.cell 0))) [ds] with
      | nx env c => rw [er] at q; exact q.elim
      | brk env c => rw [er] at q; exact q.elim
      | cnt env c => rw [er] at q; exact q.elim
      | exc x fs env c => rw [er] at q; exact q.elim
      | bad => rw [er] at q; exact q.elim
      | ret d c =>
        rw [er] at q
        cases d with
        | bl b =>
          intro w H2 sb2 cc2 r
          have ew := Rp.bl_of r
          refine q w H2 (fun u o _ z => ?_) ⟨rfl, .nil, fun j es u e1 e2 => by simp at e2⟩ (by rw [ew]; exact Rp.bl)
          have z1 := S.same u o (by simp) z
          have hu : u ≠ a := fun e => by rw [e, fra.1] at z1; cases z1
          exact sb2 u o (fun m => hu (List.mem_singleton.mp m)) (sb u o (by simp) z1)
        | _ => exact q.elim
end
end Pc

set_option Elab.async false
set_option maxRecDepth 100000
set_option maxHeartbeats 4000000
namespace Pc
open PySem PySem.Spec PyProof.Rows L2

/-! ### the last of a list goes -/
def sPop (i : Nat) : SS := fun env cs => match env[i]? with
  | some (.ow 0 (.lst ds)) => if ds = [] then .bad else .nx (env.set i (.ow 0 (.lst ds.dropLast))) cs
  | _ => .bad
theorem RpL.less {K : PySem.W.Frag} {mg : Str → Option Value} {ps : List Addr} {H : Hp} : ∀ {ds : List D} {xs : List V}, Pc.RpL K mg ps H ds xs → Pc.RpL K mg ps H ds.dropLast xs.dropLast
  | [], xs, h => by
    unfold Pc.RpL at h
    subst h
    exact RpL.nil
  | [d], xs, h => by
    unfold Pc.RpL at h
    obtain ⟨x, r, rfl, h1, h2⟩ := h
    unfold Pc.RpL at h2
    subst h2
    exact RpL.nil
  | d :: e :: ds, xs, h => by
    unfold Pc.RpL at h
    obtain ⟨x, r, rfl, h1, h2⟩ := h
    have q := RpL.less h2
    unfold Pc.RpL at h2
    obtain ⟨y, s, rfl, h3, h4⟩ := h2
    exact RpL.cons h1 q
theorem s_pop {X : Cx} {B : Bx} {W : WX} {x : Str} {p1 apos cpos pos : Pos} (co : Co X B) {i : Nat} (hN : X.N[i]? = some x) (hv : Vis X.env.scope x) (hd : (x == ("__debug__" : Str)) = false) (hcd : (x == ("__classdict__" : Str)) = false) (hline : (apos.endLine == cpos.line) = true) :
    PSm X B W (.Expr (.Call (.Attribute (.Name x p1) "pop" apos) [] [] cpos) pos) (sPop i) := fun H0 bs => by
  refine PS.imp (ps_expr (pe_bm0 PySem.F.plainAttrs_list PySem.F.slot_list_pop PySem.F.type_list_pop mt_pop (pe_var hN hv hd hcd) rfl hline) rfl) fun E σ H ⟨env, cs, fp, S, h⟩ => ?_
  unfold sPop at h
  split at h
  case h_2 => exact h.elim
  rename_i ds es
  split at h
  · exact h.elim
  rename_i hne
  obtain ⟨v, e1, r⟩ := S.st.slot i _ es
  obtain ⟨a, xs, rfl, ha, hf, rl⟩ := RpO.one (R := fun _ _ => True) r
  have hi : i < env.length := (List.getElem?_eq_some_iff.mp es).1
  have hl := rl.length
  have hpos : 0 < xs.length := by
    rw [← hl]
    exact List.length_pos_iff.mpr hne
  have hin : a ∈ fp i := by rw [hf]; exact List.mem_singleton.mpr rfl
  refine ⟨.ref a, e1, .inl ⟨rfl, xs, SqL.of ha⟩, a, xs, xs[xs.length - 1]'(by omega), rfl, rfl, ha, List.getElem?_eq_getElem _, ?_⟩
  refine h fp σ _ (S.ownUpd hi hin ⟨.ref a, e1, ?_⟩)
  rw [hf]
  exact RpO.mk1 upd_same (RpL.mono (hid_upd_in (.inr ⟨i, hin⟩)) _ _ rl.less)
end Pc

set_option Elab.async false
set_option maxRecDepth 100000
set_option maxHeartbeats 4000000
/-! Pc12d: dicts: read at a key, stored at a key. -/
namespace Pc
open PySem PySem.Spec PyProof.Rows L2
section
variable {κ : Type} [DecidableEq κ]
def val1 (ks : List κ) (ds : List D) (k : κ) : Option D := match ks, ds with
  | k' :: ks, d :: ds => if k' = k then some d else val1 ks ds k
  | _, _ => none
def put1 (ks : List κ) (ds : List D) (k : κ) (x : D) : List κ × List D := match ks, ds with
  | k' :: ks, d :: ds => if k' = k then (k' :: ks, x :: (rep1 ks ds k x)) else (k' :: (put1 ks ds k x).1, d :: (put1 ks ds k x).2)
  | _, _ => ([k], [x])
where rep1 (ks : List κ) (ds : List D) (k : κ) (x : D) : List D := match ks, ds with
  | k' :: ks, d :: ds => (if k' = k then x else d) :: rep1 ks ds k x
  | _, ds => ds
end
def inS : Str → Key := Sum.inr
def inT (k : List Int) : List Key := k.map Sum.inl
def inI : Int → Key := Sum.inl
theorem inI_inj {a b : Int} : inI a = inI b ↔ a = b := ⟨fun h => by cases h; rfl, fun h => by rw [h]⟩
theorem inS_inj {a b : Str} : inS a = inS b ↔ a = b := ⟨fun h => by cases h; rfl, fun h => by rw [h]⟩
theorem inT_inj : ∀ {a b : List Int}, inT a = inT b ↔ a = b
  | [], [] => ⟨fun _ => rfl, fun _ => rfl⟩
  | [], _ :: _ => ⟨fun h => (by cases h), fun h => (by cases h)⟩
  | _ :: _, [] => ⟨fun h => (by cases h), fun h => (by cases h)⟩
  | a :: as, b :: bs => by
    constructor
    · intro h
      have h : (Sum.inl a : Key) :: inT as = Sum.inl b :: inT bs := h
      injection h with h1 h2
      cases h1
      rw [inT_inj.mp h2]
    · intro h; rw [h]
section
variable {κ κ' : Type} [DecidableEq κ] [DecidableEq κ'] {inj : κ → κ'}
variable {K : PySem.W.Frag} {mg : Str → Option Value} {ps : List Addr} {H : Hp}
theorem val_rel (hi : ∀ a b, inj a = inj b ↔ a = b) : ∀ {ws : List (κ' × V)} {ks : List κ} {ds : List D} {k : κ} {d : D}, ws.map (·.1) = ks.map inj → Pc.RpL K mg ps H ds (ws.map (·.2)) → val1 ks ds k = some d → ∃ v, valV ws (inj k) = some v ∧ Pc.Rp K mg ps H d v
  | [], ks, ds, k, d, e, r, h => by
    cases ks with
    | nil => simp [val1] at h
    | cons => simp at e
  | w :: ws, [], ds, k, d, e, r, h => by simp at e
  | w :: ws, k' :: ks, [], k, d, e, r, h => by simp [val1] at h
  | w :: ws, k' :: ks, d' :: ds, k, d, e, r, h => by
    rw [List.map_cons, List.map_cons] at e
    injection e with e1 e2
    rw [List.map_cons] at r
    unfold RpL at r
    obtain ⟨x, r', er, r1, r2⟩ := r
    injection er with er1 er2
    subst er1 er2
    unfold val1 at h
    by_cases hk : k' = k
    · rw [if_pos hk] at h
      cases h
      refine ⟨w.2, ?_, r1⟩
      unfold valV
      rw [List.find?_cons_of_pos (by simp [e1, hk])]
      rfl
    · rw [if_neg hk] at h
      obtain ⟨v, h1, h2⟩ := val_rel hi e2 r2 h
      refine ⟨v, ?_, h2⟩
      unfold valV at h1 ⊢
      rw [List.find?_cons_of_neg (by simp [e1]; exact fun z => hk ((hi _ _).mp z))]
      exact h1
theorem rep_rel (hi : ∀ a b, inj a = inj b ↔ a = b) {x : D} {v : V} (hx : Pc.Rp K mg ps H x v) : ∀ {ws : List (κ' × V)} {ks : List κ} {ds : List D} {k : κ}, ws.map (·.1) = ks.map inj → Pc.RpL K mg ps H ds (ws.map (·.2)) →
    (ws.map fun kv => if kv.1 = inj k then (kv.1, v) else kv).map (·.1) = ks.map inj ∧ Pc.RpL K mg ps H (put1.rep1 ks ds k x) ((ws.map fun kv => if kv.1 = inj k then (kv.1, v) else kv).map (·.2))
  | [], [], ds, k, e, r => by
    unfold RpL at r
    cases ds with
    | nil => exact ⟨rfl, RpL.nil⟩
    | cons => obtain ⟨_, _, z, _⟩ := r; cases z
  | [], _ :: _, ds, k, e, r => by simp at e
  | w :: ws, [], ds, k, e, r => by simp at e
  | w :: ws, k' :: ks, [], k, e, r => by unfold RpL at r; simp at r
  | w :: ws, k' :: ks, d' :: ds, k, e, r => by
    rw [List.map_cons, List.map_cons] at e
    injection e with e1 e2
    rw [List.map_cons] at r
    unfold RpL at r
    obtain ⟨y, r', er, r1, r2⟩ := r
    injection er with er1 er2
    subst er1 er2
    obtain ⟨h1, h2⟩ := rep_rel hi hx (k := k) e2 r2
    by_cases hk : k' = k
    · have hw : w.1 = inj k := by rw [e1, hk]
      refine ⟨?_, ?_⟩
      · rw [List.map_cons, List.map_cons, List.map_cons, h1, if_pos hw, e1]
      · unfold put1.rep1
        rw [List.map_cons, List.map_cons, if_pos hw, if_pos hk]
        exact RpL.cons hx h2
    · have hw : ¬ w.1 = inj k := fun z => hk ((hi _ _).mp (e1.symm.trans z))
      refine ⟨?_, ?_⟩
      · rw [List.map_cons, List.map_cons, List.map_cons, h1, if_neg hw, e1]
      · unfold put1.rep1
        rw [List.map_cons, List.map_cons, if_neg hw, if_neg hk]
        exact RpL.cons r1 h2
theorem put_rel (hi : ∀ a b, inj a = inj b ↔ a = b) {x : D} {v : V} (hx : Pc.Rp K mg ps H x v) : ∀ {ws : List (κ' × V)} {ks : List κ} {ds : List D} {k : κ}, ws.map (·.1) = ks.map inj → Pc.RpL K mg ps H ds (ws.map (·.2)) →
    (putK ws (inj k) v).map (·.1) = (put1 ks ds k x).1.map inj ∧ Pc.RpL K mg ps H (put1 ks ds k x).2 ((putK ws (inj k) v).map (·.2))
  | [], [], ds, k, e, r => by
    unfold RpL at r
    cases ds with
    | nil =>
      refine ⟨rfl, ?_⟩
      exact RpL.cons hx RpL.nil
    | cons => obtain ⟨_, _, z, _⟩ := r; cases z
  | [], _ :: _, ds, k, e, r => by simp at e
  | w :: ws, [], ds, k, e, r => by simp at e
  | w :: ws, k' :: ks, [], k, e, r => by unfold RpL at r; simp at r
  | w :: ws, k' :: ks, d' :: ds, k, e, r => by
    have e0 := e
    have r0 := r
    rw [List.map_cons, List.map_cons] at e
    injection e with e1 e2
    rw [List.map_cons] at r
    unfold RpL at r
    obtain ⟨y, r', er, r1, r2⟩ := r
    injection er with er1 er2
    subst er1 er2
    by_cases hk : k' = k
    · have hw : w.1 = inj k := by rw [e1, hk]
      have hany : ((w :: ws).any fun kv => decide (kv.1 = inj k)) = true := by simp [hw]
      unfold putK put1
      rw [if_pos hany, if_pos hk]
      obtain ⟨h1, h2⟩ := rep_rel hi hx (k := k) e2 r2
      refine ⟨?_, ?_⟩
      · rw [List.map_cons, List.map_cons, List.map_cons, h1, if_pos hw, e1]
      · rw [List.map_cons, List.map_cons, if_pos hw]
        exact RpL.cons hx h2
    · have hw : ¬ w.1 = inj k := fun z => hk ((hi _ _).mp (e1.symm.trans z))
      obtain ⟨h1, h2⟩ := put_rel hi hx (k := k) e2 r2
      have hput : putK (w :: ws) (inj k) v = w :: putK ws (inj k) v := by
        unfold putK
        by_cases ha : (ws.any fun kv => decide (kv.1 = inj k)) = true
        · rw [if_pos ha, if_pos (by rw [List.any_cons, ha, Bool.or_true]), List.map_cons, if_neg hw]
        · rw [if_neg ha, if_neg (by rw [List.any_cons]; simp only [hw, decide_false, Bool.false_or]; exact ha)]
          rfl
      rw [hput]
      unfold put1
      rw [if_neg hk]
      refine ⟨?_, ?_⟩
      · rw [List.map_cons, List.map_cons, h1, e1]
      · rw [List.map_cons]
        exact RpL.cons r1 h2
theorem ints_rel : ∀ {ds : List D} {ns : List Int} {xs : List V}, intsOf ds = some ns → Pc.RpL K mg ps H ds xs → xs = (inT ns).map kV
  | [], ns, xs, e, r => by
    cases e
    unfold RpL at r
    subst r
    rfl
  | d :: ds, ns, xs, e, r => by
    cases d <;> simp [intsOf] at e
    rename_i i
    obtain ⟨ms, e1, rfl⟩ := e
    unfold RpL at r
    obtain ⟨x, r', rfl, r1, r2⟩ := r
    rw [ints_rel e1 r2, Rp.int_of r1]
    rfl
end
def dsubF : Vl → Vl → Option Vl
  | (_, .dK ks ds), (_, .str k) => (val1 ks ds k).map fun d => (.st, d)
  | (_, .dT ks ds), (_, .tup es) => (intsOf es).bind fun k => (val1 ks ds k).map fun d => (.st, d)
  | (_, .dI ks ds), (_, .int k) => (val1 ks ds k).map fun d => (.st, d)
  | _, _ => none
def sDsub (ma mb : ES) : ES := bnd ma fun x => bnd mb fun y => lift (dsubF x y)
section
variable {X : Cx} {B : Bx} {W : WX} {a b e o : Expr} {ma mb m mi : ES} {pos p1 p2 : Pos} {x : Str}
theorem pm_dsub (co : Co X B) (ha : PM X B W a ma) (hb : PM X B W b mb) (hp : NoSl b) : PM X B W (.Subscript a b pos) (sDsub ma mb) := by
  refine .of co.K (PE.imp (pe_dget (by have := co.hu; omega) ha.pe hb.pe hp) fun σ H Q ⟨env, cs, fp, S, h⟩ => ?_) fun _ => rfl
  refine bnd_core (t := fun H r => TEx B W fp σ H r Q) S (fun _ _ _ h => h) (fun h => h) h fun v H1 tg d c1 S1 sb p h1 => ?_
  refine bnd_core (t := fun H1 r => TEx B W fp σ H r Q) S1 (fun _ _ _ h => fun cls dd H' s => h cls dd H' (sb.trans s)) (fun h => h) h1 fun u H2 tg2 d2 c2 S2 sb2 p2 h2 => ?_
  have h2 : TEx B W fp σ H (lift (dsubF (tg, d) (tg2, d2)) env c2) Q := h2
  have p' := p.next S.ps sb2
  cases er : dsubF (tg, d) (tg2, d2) with
  | none => rw [er] at h2; exact h2.elim
  | some r =>
    rw [er] at h2
    have fin : ∀ {z : V}, PV B (hsOf B fp) H H2 r.1 r.2 z → Q z H2 := fun pz => h2 _ _ (sb.trans sb2) S2.cells pz
    cases d <;> cases d2 <;> simp only [dsubF, reduceCtorEq] at er
    · rename_i ks ds k
      cases e1 : val1 ks ds k with
      | none => rw [e1] at er; cases er
      | some dd =>
        rw [e1] at er
        cases er
        obtain ⟨q, ob, ws, rfl, hq, hk, rl⟩ := Rp.dK_of (p'.atom fun ds e => by cases e)
        obtain ⟨rfl, _⟩ := p2.str
        obtain ⟨v, hv, rv⟩ := val_rel (inj := inS) (fun a b => inS_inj) (ws := ws) hk rl e1
        refine ⟨q, v, rfl, ?_, fin rv⟩
        have : DGet H2 q (kV (inS k)) (valV ws (inS k)) := .inl ⟨ws, inS k, .inr ⟨ob, hid_leH _ _ hq⟩, rfl, rfl⟩
        rw [hv] at this
        exact this
    · rename_i ks ds es
      cases e0 : intsOf es with
      | none => rw [e0] at er; cases er
      | some k =>
        rw [e0] at er
        cases e1 : val1 ks ds k with
        | none => simp [e1] at er
        | some dd =>
          simp [e1] at er
          subst er
          obtain ⟨q, ob, ws, rfl, hq, hk, rl⟩ := Rp.dT_of (p'.atom fun ds e => by cases e)
          obtain ⟨b', ys, rfl, hb', rb⟩ := p2.tupAt
          obtain ⟨v, hv, rv⟩ := val_rel (inj := inT) (fun a b => inT_inj) (ws := ws) hk rl e1
          refine ⟨q, v, rfl, ?_, fin rv⟩
          have hb2 : H2 b' = some (.tup ((inT k).map kV)) := by rw [← ints_rel e0 rb]; exact hb'
          have : DGet H2 q (.ref b') (valV ws (inT k)) := .inr ⟨ws, inT k, b', .inr ⟨ob, hid_leH _ _ hq⟩, rfl, hb2, rfl⟩
          rw [hv] at this
          exact this
    · rename_i ks ds k
      cases e1 : val1 ks ds k with
      | none => rw [e1] at er; cases er
      | some dd =>
        rw [e1] at er
        cases er
        obtain ⟨q, ob, ws, rfl, hq, hk, rl⟩ := Rp.dI_of (p'.atom fun ds e => by cases e)
        cases p2.int
        obtain ⟨v, hv, rv⟩ := val_rel (inj := inI) (fun a b => inI_inj) (ws := ws) hk rl e1
        refine ⟨q, v, rfl, ?_, fin rv⟩
        have : DGet H2 q (kV (inI k)) (valV ws (inI k)) := .inl ⟨ws, inI k, .inr ⟨ob, hid_leH _ _ hq⟩, rfl, rfl⟩
        rw [hv] at this
        exact this
def dstoK (i : Nat) (x y : Vl) : SS := fun env cs => match env[i]?, y.2 with
  | some (.od (.dK ks ds)), .str k => if x.1.plain = true ∧ ks.length < 100000 then .nx (env.set i (.od (.dK (put1 ks ds k x.2).1 (put1 ks ds k x.2).2))) cs else .bad
  | some (.od (.dT ks ds)), .tup es => (match intsOf es with
    | some k => if x.1.plain = true ∧ ks.length < 100000 then .nx (env.set i (.od (.dT (put1 ks ds k x.2).1 (put1 ks ds k x.2).2))) cs else .bad
    | none => .bad)
  | some (.od (.dI ks ds)), .int k => if x.1.plain = true ∧ ks.length < 100000 then .nx (env.set i (.od (.dI (put1 ks ds k x.2).1 (put1 ks ds k x.2).2))) cs else .bad
  | _, _ => .bad
def heldD (i : Nat) (env : List Slot) : Bool := match env[i]? with
  | some (.od _) => true
  | _ => false
/-- d[k] = e, d an own dict -/
def sDsto (i : Nat) (mi m : ES) : SS := fun env cs => if heldD i env = true then bndS m (fun x => bndS mi fun y => dstoK i x y) env cs else .bad
theorem s_dsto (co : Co X B) {i : Nat} (hN : X.N[i]? = some x) (hv : Vis X.env.scope x) (hd : (x == ("__debug__" : Str)) = false) (hcd : (x == ("__classdict__" : Str)) = false) (he : PM X B W e m) (hi : PM X B W o mi)
    (hs : swapsWith e (some (.Subscript (.Name x p1) o p2)) pos.line X.env = pure false) : PSm X B W (.Assign [.Subscript (.Name x p1) o p2] e pos) (sDsto i mi m) := fun H0 bs => by
  refine PS.imp (ps_dput (by have := co.hu; omega) (pe_var hN hv hd hcd) hi.pe he.pe hs) fun E σ H ⟨env, cs, fp, S, h⟩ => ?_
  unfold sDsto at h
  split at h
  case isFalse => exact h.elim
  rename_i hh
  obtain ⟨a0, ew, _⟩ : ∃ a0, σ[i]? = some (some (.ref a0)) ∧ True := by
    unfold heldD at hh
    split at hh
    · rename_i d e
      obtain ⟨a, e1, _⟩ := S.st.slot i _ e
      exact ⟨a, e1, trivial⟩
    · cases hh
  refine tE_bndS S h fun v H1 tg d c1 S1 sb p h1 => ⟨_, ew, tE_bndS S1 h1 fun u H2 tg2 d2 c2 S2 sb2 p2 h2 => ?_⟩
  unfold dstoK at h2
  have hsl := sizeLine_eq
  split at h2
  · rename_i ks ds k es ed
    have ed : d2 = .str k := ed
    subst ed
    split at h2
    case isFalse => exact h2.elim
    rename_i hc
    have hi : i < env.length := (List.getElem?_eq_some_iff.mp es).1
    obtain ⟨a, e2, hf2, ws, hq, hk, rl⟩ := S2.st.slot i _ es
    rw [ew] at e2
    cases e2
    have hin : a0 ∈ fp i := by rw [hf2]; exact List.mem_singleton.mpr rfl
    obtain ⟨rfl, _⟩ := p2.str
    have hl : ws.length = ks.length := by have := congrArg List.length hk; simpa using this
    obtain ⟨k1, k2⟩ := put_rel (inj := inS) (fun a b => inS_inj) (k := k) ((p.next S.st.ps sb2).rp hc.1) (ws := ws) hk rl
    refine ⟨a0, _, rfl, DPut.k (k := inS k) (v := v) hq (by omega), h2 fp σ _ (S2.odUpd hi hin ⟨a0, ew, hf2, _, upd_same, k1, ?_⟩)⟩
    exact RpL.mono (hid_upd_in (.inr ⟨i, hin⟩)) _ _ k2
  · rename_i ks ds es' es ed
    have ed : d2 = .tup es' := ed
    subst ed
    split at h2
    case h_2 => exact h2.elim
    rename_i k ek
    split at h2
    case isFalse => exact h2.elim
    rename_i hc
    have hi : i < env.length := (List.getElem?_eq_some_iff.mp es).1
    obtain ⟨a, e2, hf2, ws, hq, hk, rl⟩ := S2.st.slot i _ es
    rw [ew] at e2
    cases e2
    have hin : a0 ∈ fp i := by rw [hf2]; exact List.mem_singleton.mpr rfl
    obtain ⟨b', ys, rfl, hb', rb⟩ := p2.tupAt
    have hb2 : H2 b' = some (.tup ((inT k).map kV)) := by rw [← ints_rel ek rb]; exact hb'
    have hl : ws.length = ks.length := by have := congrArg List.length hk; simpa using this
    obtain ⟨k1, k2⟩ := put_rel (inj := inT) (fun a b => inT_inj) (k := k) ((p.next S.st.ps sb2).rp hc.1) (ws := ws) hk rl
    refine ⟨a0, _, rfl, DPut.t (k := inT k) (v := v) hq hb2 (by omega), h2 fp σ _ (S2.odUpd hi hin ⟨a0, ew, hf2, _, upd_same, k1, ?_⟩)⟩
    exact RpL.mono (hid_upd_in (.inr ⟨i, hin⟩)) _ _ k2
  · rename_i ks ds k es ed
    have ed : d2 = .int k := ed
    subst ed
    split at h2
    case isFalse => exact h2.elim
    rename_i hc
    have hi : i < env.length := (List.getElem?_eq_some_iff.mp es).1
    obtain ⟨a, e2, hf2, ws, hq, hk, rl⟩ := S2.st.slot i _ es
    rw [ew] at e2
    cases e2
    have hin : a0 ∈ fp i := by rw [hf2]; exact List.mem_singleton.mpr rfl
    cases p2.int
    have hl : ws.length = ks.length := by have := congrArg List.length hk; simpa using this
    obtain ⟨k1, k2⟩ := put_rel (inj := inI) (fun a b => inI_inj) (k := k) ((p.next S.st.ps sb2).rp hc.1) (ws := ws) hk rl
    refine ⟨a0, _, rfl, DPut.k (k := inI k) (v := v) hq (by omega), h2 fp σ _ (S2.odUpd hi hin ⟨a0, ew, hf2, _, upd_same, k1, ?_⟩)⟩
    exact RpL.mono (hid_upd_in (.inr ⟨i, hin⟩)) _ _ k2
  · exact h2.elim
end
end Pc

set_option Elab.async false
set_option maxRecDepth 100000
set_option maxHeartbeats 4000000
/-! Pe1: operations of two values: // of any sign, lists again and again, keys of dicts, texts joined and split. -/
namespace Pc
open PySem PySem.Spec PyProof.Rows L2
section
variable {κ κ' : Type} [DecidableEq κ] [DecidableEq κ'] {inj : κ → κ'}
theorem val_none (hi : ∀ a b, inj a = inj b ↔ a = b) : ∀ {ws : List (κ' × V)} {ks : List κ} {ds : List D} {k : κ}, ws.map (·.1) = ks.map inj → ds.length = ws.length → val1 ks ds k = none → valV ws (inj k) = none
  | [], ks, ds, k, e, _, _ => rfl
  | w :: ws, [], ds, k, e, _, _ => by simp at e
  | w :: ws, k' :: ks, [], k, e, hl, _ => by simp at hl
  | w :: ws, k' :: ks, d' :: ds, k, e, hl, h => by
    rw [List.map_cons, List.map_cons] at e
    injection e with e1 e2
    unfold val1 at h
    by_cases hk : k' = k
    · rw [if_pos hk] at h; cases h
    · rw [if_neg hk] at h
      have := val_none hi e2 (by simpa using hl) h
      unfold valV at this ⊢
      rw [List.find?_cons_of_neg (by simp [e1]; exact fun z => hk ((hi _ _).mp z))]
      exact this
theorem val_some (hi : ∀ a b, inj a = inj b ↔ a = b) {K : PySem.W.Frag} {mg : Str → Option Value} {ps : List Addr} {H : Hp} {ws : List (κ' × V)} {ks : List κ} {ds : List D} {k : κ} (e : ws.map (·.1) = ks.map inj) (r : Pc.RpL K mg ps H ds (ws.map (·.2))) : (valV ws (inj k)).isSome = (val1 ks ds k).isSome := by
  cases h : val1 ks ds k with
  | none =>
    have hl : ds.length = ws.length := by have := r.length; simpa using this
    rw [val_none hi e hl h]
    rfl
  | some d =>
    obtain ⟨v, hv, _⟩ := val_rel hi e r h
    rw [hv]
    rfl
end
/-- k in d -/
def dhas : Vl → Vl → Option Bool
  | (_, .str k), (_, .dK ks ds) => some (val1 ks ds k).isSome
  | (_, .tup es), (_, .dT ks ds) => (intsOf es).map fun k => (val1 ks ds k).isSome
  | (_, .int k), (_, .dI ks ds) => some (val1 ks ds k).isSome
  | _, _ => none
def dinF (x y : Vl) : Option Vl := (dhas x y).map fun b => (.st, .bl b)
def dninF (x y : Vl) : Option Vl := (dhas x y).map fun b => (.st, .bl !b)
section
variable {X : Cx} {B : Bx} {W : WX} {a b e o : Expr} {ma mb m mi : ES} {pos p1 p2 : Pos} {x : Str}
theorem dhas_get {hs : Addr → Prop} {H0 H0' H : Hp} {x y : Vl} {u v : V} {k : Bool} (h : dhas x y = some k) (px : PV B hs H0 H x.1 x.2 u) (py : PV B hs H0' H y.1 y.2 v) : ∃ q z, v = .ref q ∧ DGet H q u z ∧ z.isSome = k := by
  obtain ⟨tx, dx⟩ := x
  obtain ⟨ty, dy⟩ := y
  cases dx <;> cases dy <;> simp only [dhas, reduceCtorEq] at h
  · cases h
    obtain ⟨q, ob, ws, rfl, hq, hk, rl⟩ := Rp.dI_of (py.atom fun ds e => by cases e)
    cases px.int
    exact ⟨q, _, rfl, .inl ⟨ws, inI _, .inr ⟨ob, hid_leH _ _ hq⟩, rfl, rfl⟩, val_some (fun a b => inI_inj) hk rl⟩
  · cases h
    obtain ⟨q, ob, ws, rfl, hq, hk, rl⟩ := Rp.dK_of (py.atom fun ds e => by cases e)
    obtain ⟨rfl, _⟩ := px.str
    exact ⟨q, _, rfl, .inl ⟨ws, inS _, .inr ⟨ob, hid_leH _ _ hq⟩, rfl, rfl⟩, val_some (fun a b => inS_inj) hk rl⟩
  · rename_i es ks ds
    cases e0 : intsOf es with
    | none => rw [e0] at h; cases h
    | some kk =>
      rw [e0] at h
      cases h
      obtain ⟨q, ob, ws, rfl, hq, hk, rl⟩ := Rp.dT_of (py.atom fun ds e => by cases e)
      obtain ⟨b', ys, rfl, hb', rb⟩ := px.tupAt
      have hb2 : H b' = some (.tup ((inT kk).map kV)) := by rw [← ints_rel e0 rb]; exact hb'
      exact ⟨q, _, rfl, .inr ⟨ws, inT kk, b', .inr ⟨ob, hid_leH _ _ hq⟩, rfl, hb2, rfl⟩, val_some (fun a b => inT_inj) hk rl⟩
theorem dc_read {g : Vl → Vl → Option Vl} {f : Bool → Bool} (hg : ∀ x y, g x y = (dhas x y).map fun b => (.st, .bl (f b))) {σ : L2.St} {H : Hp} {Q : VK} (h : tE B W (sOp g ma mb) σ H Q) :
    tE B W ma σ H fun y H1 => tE B W mb σ H1 fun x H2 => ∃ a o, x = .ref a ∧ DGet H2 a y o ∧ Q (.bl (f o.isSome)) H2 := by
  obtain ⟨env, cs, fp, S, h⟩ := h
  refine tE_bnd S h fun v H1 tg d c1 S1 sb p h1 => tE_bnd S1 h1 fun u H2 tg2 d2 c2 S2 sb2 p2 h2 => ?_
  obtain ⟨r, e, out⟩ := lift_out S2 h2
  rw [hg] at e
  cases ed : dhas (tg, d) (tg2, d2) with
  | none => rw [ed] at e; cases e
  | some k =>
    rw [ed] at e
    cases e
    obtain ⟨q, z, rfl, g1, g2⟩ := dhas_get (B := B) ed (p.next S.ps sb2) p2
    exact ⟨q, z, rfl, g1, by rw [g2]; exact out.bl⟩
theorem pm_dinop (co : Co X B) (ha : PM X B W a ma) (hb : PM X B W b mb) (hm : behindInMarks .In b = false) : PM X B W (.Compare a [.In] [b] pos) (sOp dinF ma mb) := by
  have hu := co.hu
  have pe : PE X (.Compare a [.In] [b] pos) (tE B W (sOp dinF ma mb)) := PE.imp (pe_cmp (pc_din (by omega) ha.pe hb.pe) hm) fun σ H Q h => dc_read (f := id) (fun _ _ => rfl) h
  refine ⟨pe, PT.imp (pt_cmp (pc_din (by omega) ha.pe hb.pe) hm) fun σ H Q ⟨env, cs, fp, S, h⟩ => ?_⟩
  refine tE_bndT S h fun v H1 tg d c1 S1 sb p h1 => tE_bndT S1 h1 fun u H2 tg2 d2 c2 S2 sb2 p2 h2 => ?_
  have h2 : TTx B W fp σ H2 (lift (dinF (tg, d) (tg2, d2)) env c2) Q := h2
  cases ed : dhas (tg, d) (tg2, d2) with
  | none => rw [show dinF (tg, d) (tg2, d2) = none by unfold dinF; rw [ed]; rfl] at h2; exact h2.elim
  | some k =>
    rw [show dinF (tg, d) (tg2, d2) = some (.st, .bl k) by unfold dinF; rw [ed]; rfl] at h2
    obtain ⟨k', ek, q⟩ := h2
    cases ek
    obtain ⟨w, z, rfl, g1, g2⟩ := dhas_get (B := B) ed (p.next S.ps sb2) p2
    exact ⟨w, z, rfl, g1, _, rfl, by rw [g2]; exact q H2 SB.refl S2.cells⟩
theorem pm_dninop (co : Co X B) (ha : PM X B W a ma) (hb : PM X B W b mb) (hm : behindInMarks .NotIn b = false) : PM X B W (.Compare a [.NotIn] [b] pos) (sOp dninF ma mb) := by
  have hu := co.hu
  have pe : PE X (.Compare a [.NotIn] [b] pos) (tE B W (sOp dninF ma mb)) := PE.imp (pe_cmp (pc_dnotin (by omega) ha.pe hb.pe) hm) fun σ H Q h => dc_read (f := fun b => !b) (fun _ _ => rfl) h
  refine ⟨pe, PT.imp (pt_cmp (pc_dnotin (by omega) ha.pe hb.pe) hm) fun σ H Q ⟨env, cs, fp, S, h⟩ => ?_⟩
  refine tE_bndT S h fun v H1 tg d c1 S1 sb p h1 => tE_bndT S1 h1 fun u H2 tg2 d2 c2 S2 sb2 p2 h2 => ?_
  have h2 : TTx B W fp σ H2 (lift (dninF (tg, d) (tg2, d2)) env c2) Q := h2
  cases ed : dhas (tg, d) (tg2, d2) with
  | none => rw [show dninF (tg, d) (tg2, d2) = none by unfold dninF; rw [ed]; rfl] at h2; exact h2.elim
  | some k =>
    rw [show dninF (tg, d) (tg2, d2) = some (.st, .bl !k) by unfold dninF; rw [ed]; rfl] at h2
    obtain ⟨k', ek, q⟩ := h2
    cases ek
    obtain ⟨w, z, rfl, g1, g2⟩ := dhas_get (B := B) ed (p.next S.ps sb2) p2
    exact ⟨w, z, rfl, g1, _, rfl, by rw [g2]; exact q H2 SB.refl S2.cells⟩
theorem pm_fdiv (co : Co X B) (ha : PM X B W a ma) (hb : PM X B W b mb) : PM X B W (.BinOp a .FloorDiv b pos) (sOp fdivD ma mb) :=
  .of co.K (PE.imp (pe_op (fdiv_D co) ha.pe hb.pe) fun σ H Q ⟨env, cs, fp, S, h⟩ => tOp_of S h) fun _ => rfl
theorem pm_rep (co : Co X B) (ha : PM X B W a ma) (hb : PM X B W b mb) : PM X B W (.BinOp a .Mult b pos) (sOp repD ma mb) :=
  .of co.K (PE.imp (pe_op (rep_D co) ha.pe hb.pe) fun σ H Q ⟨env, cs, fp, S, h⟩ => tOp_of S h) fun _ => rfl
/-! texts -/
def strsOf : List D → Option (List Str)
  | [] => some []
  | .str x :: ds => (strsOf ds).map (x :: ·)
  | _ => none
theorem strs_rel {K : PySem.W.Frag} {mg : Str → Option Value} {ps : List Addr} {H : Hp} : ∀ {ds : List D} {ns : List Str} {xs : List V}, strsOf ds = some ns → Pc.RpL K mg ps H ds xs → xs = ns.map V.str
  | [], ns, xs, e, r => by
    cases e
    unfold RpL at r
    subst r
    rfl
  | d :: ds, ns, xs, e, r => by
    cases d <;> simp [strsOf] at e
    rename_i i
    obtain ⟨ms, e1, rfl⟩ := e
    unfold RpL at r
    obtain ⟨x, r', rfl, r1, r2⟩ := r
    rw [strs_rel e1 r2, (Rp.str_of r1).1]
    rfl
theorem strs_mk {K : PySem.W.Frag} {mg : Str → Option Value} {ps : List Addr} {H : Hp} : ∀ {ns : List Str}, (∀ x ∈ ns, x.length ≤ 100000) → Pc.RpL K mg ps H (ns.map D.str) (ns.map V.str)
  | [], _ => RpL.nil
  | x :: ns, h => RpL.cons (Rp.str (h x (List.mem_cons_self ..))) (strs_mk fun y m => h y (List.mem_cons_of_mem _ m))
def isStrD : D → Bool
  | .str _ => true
  | _ => false
/-- a text's method: the receiver is looked at ahead of the argument -/
def sOpS (g : Vl → Vl → Option Vl) (ma mb : ES) : ES := bnd ma fun x => if isStrD x.2 = true then bnd mb fun y => lift (g x y) else fun _ _ => .bad
/-- sep.join(xs) -/
def joinF : Vl → Vl → Option Vl
  | (_, .str a), (t, .lst ds) => if t.flat = true then (strsOf ds).bind fun ys => if (ys.map (·.length)).sum + ys.length * a.length ≤ 100000 then some (.st, .str (Txt.join a ys)) else none else none
  | _, _ => none
/-- s.split(sep) -/
def splitF : Vl → Vl → Option Vl
  | (_, .str a), (_, .str b) => if (b.length == 0) = false ∧ a.length ≤ 90000 ∧ ((Txt.split a b).all fun x => decide (x.length ≤ 100000)) = true then some (.fr 0, .lst ((Txt.split a b).map D.str)) else none
  | _, _ => none
theorem strOp_read {g : Vl → Vl → Option Vl} {r : V → List V → Hp → VK → Prop} (hr : ∀ {hs : Addr → Prop} {H0 H0' H : Hp} {x y z : Vl} {u v : V} {Q : VK}, (∀ p, p ∈ B.ps → hs p) → (∀ p, hs p → ∃ o, H p = some o) → g x y = some z → PV B hs H0 H x.1 x.2 u → PV B hs H0' H y.1 y.2 v → Out B hs H z.1 z.2 Q → r u [v] H Q)
    {σ : L2.St} {H : Hp} {Q : VK} (h : tE B W (sOpS g ma mb) σ H Q) : tM1 r (tE B W ma) (tE B W mb) σ H Q := by
  obtain ⟨env, cs, fp, S, h⟩ := h
  refine tE_bnd S h fun v H1 tg d c1 S1 sb p h1 => ?_
  split at h1
  case isFalse => exact h1.elim
  rename_i hd
  have hd : isStrD d = true := hd
  cases d <;> simp only [isStrD, Bool.false_eq_true] at hd
  refine ⟨⟨_, p.str.1⟩, tE_bnd S1 h1 fun u H2 tg2 d2 c2 S2 sb2 p2 h2 => ?_⟩
  obtain ⟨z, e, out⟩ := lift_out S2 h2
  exact hr S.ps S2.hsome e (p.next S.ps sb2) p2 out
theorem pm_join {apos : Pos} (co : Co X B) (ha : PM X B W a ma) (hb : PM X B W b mb) (hs : starEach [b] X.env = [(false, eval b X.env)]) (hbase : attributeBase a "join" X.env (eval a X.env) = eval a X.env) (hline : (apos.endLine == pos.line) = true) :
    PM X B W (.Call (.Attribute a "join" apos) [b] [] pos) (sOpS joinF ma mb) := by
  refine .of co.K (PE.imp (pe_join ha.pe hb.pe hs hbase hline) fun σ H Q h => strOp_read (fun {hs H0 H0' H x y z u v Q} hps there e p p2 out => ?_) h) fun _ => rfl
  obtain ⟨tx, dx⟩ := x
  obtain ⟨ty, dy⟩ := y
  cases dx <;> cases dy <;> simp only [joinF, reduceCtorEq] at e
  split at e
  case isFalse => cases e
  rename_i hf
  rename_i sep ds
  cases e0 : strsOf ds with
  | none => rw [e0] at e; cases e
  | some ys =>
    rw [e0] at e
    simp only [Option.bind_some] at e
    split at e
    case isFalse => cases e
    rename_i hc
    cases e
    obtain ⟨q, xs, rfl, hq, rl⟩ := p2.lstFlat hf
    have := strs_rel e0 rl
    subst this
    exact ⟨sep, q, ys, p.str.1, rfl, .inl (SqL.of hq), by omega, out.str (by rw [show Txt.join sep ys = Str.join sep ys from TL.join_eq sep ys]; exact Nat.le_trans (StrLaws.join_length_le sep ys) hc)⟩
theorem pm_split {apos : Pos} (co : Co X B) (ha : PM X B W a ma) (hb : PM X B W b mb) (hs : starEach [b] X.env = [(false, eval b X.env)]) (hbase : attributeBase a "split" X.env (eval a X.env) = eval a X.env) (hline : (apos.endLine == pos.line) = true) :
    PM X B W (.Call (.Attribute a "split" apos) [b] [] pos) (sOpS splitF ma mb) := by
  refine .of co.K (PE.imp (pe_split ha.pe hb.pe hs hbase hline) fun σ H Q h => strOp_read (fun {hs H0 H0' H x y z u v Q} hps there e p p2 out => ?_) h) fun _ => rfl
  obtain ⟨tx, dx⟩ := x
  obtain ⟨ty, dy⟩ := y
  have hsl := sizeLine_eq
  cases dx <;> cases dy <;> simp only [splitF, reduceCtorEq] at e
  split at e
  case isFalse => cases e
  rename_i hc
  cases e
  exact ⟨_, _, p.str.1, by rw [p2.str.1], hc.1, by omega, fun q hq => out.lst hps there (strs_mk fun x m => by simpa using List.all_eq_true.mp hc.2.2 x m) hq⟩
end
end Pc

set_option Elab.async false
set_option maxRecDepth 100000
set_option maxHeartbeats 4000000
/-! Pe2: a comprehension that makes a dict, whatever its keys are; the dict is locked at the end. -/
namespace Pc
open PySem PySem.Spec PyProof.Rows L2
/-- a kind of dicts: the empty one, what a store asks and leaves -/
structure DKd where
  e0 : HO
  P : Addr → V → V → Hp → Hp → Prop
/-- what the machine does for the kind -/
structure DKdOk (X : Cx) (k : DKd) : Prop where
  new : ∀ (h : Heap) (H : Hp), sysModules < h.objs.size → ObjOk X.prog X.w H (h.push { cls := .type "dict", data := .dict #[] }) h.objs.size k.e0
  put : ∀ {Y : Cx} {pins : List (Addr × Obj)} {σ : L2.St} {H H' : Hp} {s : Shared} {E : Value → Shared → Prop} {D : Addr} {y z : V} {u r : Value} {Q : Unit → Shared → Prop}, Y.prog = X.prog → Y.w = X.w → Y.A = X.A → Inv Y pins σ H s → k.P D y z H H' → RelV y u → RelV z r → (∀ s', Inv Y pins σ H' s' → Q () s') → wpAny (model Y.prog Y.w) Y.A (dictSet D u r) Q E s
/-- the turns' words -/
def dcTurn (k : DKd) (g : TG) (tt : TT) (tk tv : TE) (vs : List Nat) (σ : L2.St) (D : Addr) (Nx : Hp → Prop) (x : V) (H : Hp) : Prop :=
  g x (wipe σ vs) H fun σ2 H2 => wipe σ2 vs = wipe σ vs ∧ tt σ2 H2 fun b H3 => if b = true then tk σ2 H3 fun y H4 => tv σ2 H4 fun z H5 => ∃ H6, k.P D y z H5 H6 ∧ Nx H6 else Nx H3
def tDk (k : DKd) (wi : TI) (g : TG) (tt : TT) (tk tv : TE) (vs : List Nat) : TE := fun σ H Q => wi σ H fun J H1 => ∀ D, H1 D = none → ∃ W : Nat → Nat → Hp → Prop, (∃ m, W 0 m (upd H1 D k.e0)) ∧ ∀ i m H, W i m H →
  (J.stop i H ∧ ∃ u, H D = some u ∧ Mut (some u) ∧ ∀ o, Q (.ref D) (upd H D (.frz o u))) ∨ (J.go i H ∧ ∃ Nx : Hp → Prop, (∀ H', Nx H' → ∃ m', m' < m ∧ W (i + 1) m' H') ∧ ∀ x H', J.yld i H x H' → dcTurn k g tt tk tv vs σ D Nx x H')
section
variable {X : Cx} {kx vx tg iter : Expr} {ifs : List Expr} {scope : Scope} {own : List (Str × Nat)} {pos : Pos} {wi : TI} {g : TG} {tt : TT} {tk tv : TE} {k : DKd}
theorem pe_dk (K : DKdOk X k) (calm : X.calm = true) (nd : X.N.Nodup) (it : PI X tg iter wi) (ok : BlkOk X.N X.env.scope scope own)
    (hg : ∀ sh H c cl fp, PG (X.blk sh H scope (compEnvC scope cl c X.env) fp) tg g) (ht : ∀ sh H c cl fp, PTs (X.blk sh H scope (compEnvC scope cl c X.env) fp) ifs tt)
    (hk : ∀ sh H c cl fp, PE (X.blk sh H scope (compEnvC scope cl c X.env) fp) kx tk) (hv : ∀ sh H c cl fp, PE (X.blk sh H scope (compEnvC scope cl c X.env) fp) vx tv) (fo : ∀ x, foldedSetIterable iter X.env x = pure x) :
    PE X (.DictComp kx vx [⟨tg, iter, ifs, 0⟩] scope pos) (tDk k wi g tt tk tv (own.map (·.2))) := ⟨fun pins s σ H Q I h => by
  rw [arm_eval_DictComp]
  have cells : ∀ y ∈ scope.names, y.2 = .free → ∃ c, X.env.cells.lookup y.1 = some c := fun y m e => (ok.free y m e).elim (fun z => I.ok.has _ (.inl z)) fun z => I.ok.has _ (.inr z)
  refine wpAny_comprehension_free (use := none) rfl fo (closure_ok cells) ok.kind (fun y m e => by rw [ok.uniq y m, e]) (thn (it.run pins s σ H _ I h) fun xv sA hA => thn hA fun itv sB ⟨itA, fp, tn, J, H2, e, I2, T, stB, fB, q⟩ => ?_)
  subst e
  refine wpAny_newObj_type (newEnv_comp ?_)
  obtain ⟨D, eD⟩ : ∃ D, D = sB.heap.objs.size := ⟨_, rfl⟩
  have nD : H2 D = none := I2.hok.fresh (by rw [eD]; exact Nat.le_refl _)
  obtain ⟨W, ⟨m0, w0⟩, turn⟩ := q D nD
  -- the dict is laid
  obtain ⟨sC, eC⟩ : ∃ sC : Shared, sC = { sB with heap := sB.heap.push { cls := .type "dict", data := .dict #[] } } := ⟨_, rfl⟩
  have hC : sC.heap = sB.heap.push { cls := .type "dict", data := .dict #[] } := by rw [eC]
  have IC : Inv X pins σ (upd H2 D k.e0) sC := by
    rw [eC, eD]
    exact I2.laid (t' := sB.toks) (fun b o z => Heap.get?_push_of_some _ z) (Nat.le_refl _) (K.new sB.heap _ I2.big)
  have below : ∀ b ∈ fp, b < sB.heap.objs.size := fun b m => let ⟨o, z, _⟩ := T.obj _ _ stB b m; Heap.lt_size z
  have fC : ∀ b ∈ fp, FpOk X pins (upd H2 D k.e0) b ∧ b < sC.heap.objs.size := fun b m => by
    have lt := below b m
    have ne : b ≠ D := by rw [eD]; exact Nat.ne_of_lt lt
    exact ⟨⟨by rw [upd_ne ne]; exact (fB b m).1, (fB b m).2⟩, by rw [hC, Heap.size_push]; exact Nat.lt_succ_of_lt lt⟩
  have stC : tn 0 sC.heap := T.keep _ _ _ stB fun b _ o z => by rw [hC]; exact Heap.get?_push_of_some _ z
  have ID := block_start IC ok nd fC
  obtain ⟨C, eCC⟩ : ∃ C, C = sC.heap.objs.size := ⟨_, rfl⟩
  obtain ⟨ce, ece⟩ : ∃ ce, ce = compEnvC scope (cellsFrom (C + 1) scope.names (cloFrom X.env.cells scope.names [])) C X.env := ⟨_, rfl⟩
  have pg := hg sC (upd H2 D k.e0) C (cellsFrom (C + 1) scope.names (cloFrom X.env.cells scope.names [])) fp
  have pt := ht sC (upd H2 D k.e0) C (cellsFrom (C + 1) scope.names (cloFrom X.env.cells scope.names [])) fp
  have pk := hk sC (upd H2 D k.e0) C (cellsFrom (C + 1) scope.names (cloFrom X.env.cells scope.names [])) fp
  have pv := hv sC (upd H2 D k.e0) C (cellsFrom (C + 1) scope.names (cloFrom X.env.cells scope.names [])) fp
  rw [← ece] at pg pt pk pv
  rw [← eCC, ← ece] at ID
  have eL : ce.locals = C := by rw [ece]; rfl
  have nfp : ∀ b ∈ fp, (upd H2 D k.e0) b = none := fun b m => (fC b m).1.1
  obtain ⟨HC, eHC⟩ : ∃ HC, HC = upd H2 D k.e0 := ⟨_, rfl⟩
  rw [← eHC] at IC ID pg pt pk pv w0 nfp fC
  obtain ⟨sD, eSD⟩ : ∃ sD : Shared, sD = { sC with heap := pushCells (sC.heap.push { cls := .type "dict", data := .dict #[] }) scope.names } := ⟨_, rfl⟩
  rw [← eSD] at ID
  have stD : tn 0 sD.heap := T.keep _ _ _ stC fun b _ o z => by rw [eSD]; exact pushCells_keeps _ _ _ _ (Heap.get?_push_of_some _ z)
  -- what holds of the walk's own things at each turn
  have fpS : ∀ {σ' H' s'}, Inv (X.blk sC HC scope ce fp) [] σ' H' s' → (∀ b ∈ fp, H' b = none) → ∀ b ∈ fp, FpOk (X.blk sC HC scope ce fp) [] H' b := fun I' n b m =>
    ⟨n b m, (I'.ok.exf b m).1, I'.ok.exfs b m, .inl m, fun x c z => (I'.ok.exf b m).2 x c z, fun p z => absurd (show p ∈ ([] : List (Addr × Obj)) ++ [] from z) (by simp)⟩
  have wl : (wipe σ (own.map (·.2))).length = σ.length := wipe_length ..
  have start : (codeAny (model X.prog X.w) X.A (.compStart (.DictComp kx vx [⟨tg, iter, ifs, 0⟩] scope pos) 0 (.ref itA) (.ref D) ce) (compPost (model X.prog X.w) X.A X.xe none (fun v s' => ∃ x H', Inv X pins σ H' s' ∧ RelV x v ∧ Q x H') (.ref D) C) sD) := by
    have loop : codeAny (model X.prog X.w) X.A (.compLoop (.DictComp kx vx [⟨tg, iter, ifs, 0⟩] scope pos) 0 (.ref itA) (.ref D) ce) (compPost (model X.prog X.w) X.A X.xe none (fun v s' => ∃ x H', Inv X pins σ H' s' ∧ RelV x v ∧ Q x H') (.ref D) C) sD := by
      refine compLoop_anyD (fun n s' => ∃ i H', Inv (X.blk sC HC scope ce fp) [] (wipe σ (own.map (·.2))) H' s' ∧ tn i s'.heap ∧ (∀ b ∈ fp, H' b = none) ∧ W i n H') ?_ m0 ⟨0, HC, ID, stD, nfp, w0⟩
      rintro n s5 ⟨i, H5, I5, st5, n5, w5⟩
      rcases turn i n H5 w5 with ⟨stop, u, hu, mu, fin⟩ | ⟨go, Nx, hN, step⟩
      · refine thnF (T.done (X.blk sC HC scope ce fp) rfl rfl rfl calm i [] s5 _ H5 (fun _ _ => False) I5 (fpS I5 n5) st5 stop) fun r s6 ⟨er, I6⟩ => ?_
        subst er
        have I7 : Inv X pins σ H5 s6 := IC.call' (ch := fp) I6.os I6.base I6.hok I6.bare fun b m => let f := (fC b m).1; ⟨f.2.2.2.1, f.2.1, f.2.2.2.2.1, f.2.2.2.2.2⟩
        obtain ⟨o, I8⟩ := I7.lock hu mu
        have nC : H5 C = none := by have z : H5 ce.locals = none := I6.free; rw [eL] at z; exact z
        have nCD : C ≠ D := fun z => by rw [z, hu] at nC; cases nC
        obtain ⟨m, hm, _⟩ := I6.loc
        have hm : s6.heap.Ns ce.locals m := hm
        rw [eL] at hm
        obtain ⟨f0, f1, f2, f3, f4, f5⟩ := IC.fpOk (by rw [eCC]; exact Nat.le_refl _) (show upd H5 D (.frz o u) C = none by rw [upd_ne nCD]; exact nC)
        exact ⟨m, hm, fun h9 sb => ⟨.ref D, _, I8.turned (t' := s6.toks) (fun b x hb z => (sb.2 b hb).trans z) f0 f1 f3 f4 f5, rfl, fin o⟩⟩
      · refine thnF (T.item (X.blk sC HC scope ce fp) rfl rfl rfl calm i [] s5 _ H5 (fun _ _ => False) I5 (fpS I5 n5) st5 go) fun r s6 ⟨v, er, h6⟩ => ?_
        subst er
        refine thnF h6 fun _ s7 ⟨x, H7, I7, r7, y7, st7, n7⟩ => ?_
        have J7 := I7.pinned (fpS I7 n7) (T.obj _ _ st7)
        refine thnF (pg.run _ s7 _ H7 x v _ J7 r7 (step x H7 y7)) fun _ s8 ⟨σ8, H8, I8, w8, q8⟩ => ?_
        refine thnF (pt.run _ s8 σ8 H8 _ I8 q8) fun b s9 ⟨H9, I9, q9⟩ => ?_
        have next : ∀ {s' H'}, Inv (X.blk sC HC scope ce fp) ([] ++ pinsAt fp s7.heap) σ8 H' s' → Nx H' → ∃ m, m < n ∧ ∃ i H', Inv (X.blk sC HC scope ce fp) [] (wipe σ (own.map (·.2))) H' s' ∧ tn i s'.heap ∧ (∀ b ∈ fp, H' b = none) ∧ W i m H' := fun {s' H'} I' nx => by
          obtain ⟨m', lt, w'⟩ := hN H' nx
          have pin : ∀ b ∈ fp, ∀ o, s7.heap.get? b = some o → s'.heap.get? b = some o ∧ H' b = none := fun b m o z => let q := I'.pin (b, o) (List.mem_append_right _ (List.mem_append_right _ (mem_pinsAt m z))); ⟨q.1, q.2.1⟩
          refine ⟨m', lt, i + 1, H', (I'.unpinned (pins := [])).weak (by rw [← w8, wipe_length]) (fun j v z => ?_), T.keep _ _ _ st7 fun b m o z => (pin b m o z).1, fun b m => ?_, w'⟩
          · rw [← w8] at z
            exact (wipe_some z).1
          · obtain ⟨o, z, _⟩ := T.obj _ _ st7 b m
            exact (pin b m o z).2
        cases b with
        | false => exact next I9 (by simpa using q9)
        | true =>
          simp only [if_true] at q9 ⊢
          refine thnF (pk.run _ s9 σ8 H9 _ I9 q9) fun z1 s10 ⟨yk, H10, I10, r10, q10⟩ => thnF (pv.run _ s10 σ8 H10 _ I10 q10) fun z2 s11 ⟨yv, H11, I11, r11, H12, hp, nx⟩ => ?_
          exact K.put (Y := X.blk sC HC scope ce fp) rfl rfl rfl I11 hp r10 r11 fun s12 I12 => next I12 nx
    exact codeAny_compStart_dict loop (T.self X.A 0 _ _ _ stD loop)
  rw [eC] at eSD
  subst eSD eCC ece
  rw [eC, eD] at start
  exact start⟩
end
end Pc

set_option Elab.async false
set_option maxRecDepth 100000
set_option maxHeartbeats 4000000
/-! Pe3: comprehensions that make dicts, by data. -/
namespace Pc
open PySem PySem.Spec PyProof.Rows L2
/-- an entry more -/
def dputD : D → D → D → Option D
  | .dK ks ds, .str k, x => if ks.length < 100000 then some (.dK (put1 ks ds k x).1 (put1 ks ds k x).2) else none
  | .dT ks ds, .tup es, x => (intsOf es).bind fun k => if ks.length < 100000 then some (.dT (put1 ks ds k x).1 (put1 ks ds k x).2) else none
  | .dI ks ds, .int k, x => if ks.length < 100000 then some (.dI (put1 ks ds k x).1 (put1 ks ds k x).2) else none
  | _, _, _ => none
def dcGo (g : GS) (mc mk mv : ES) (env : List Slot) : List D → D → Cells → Rs D
  | [], acc, cs => .ok acc cs
  | d :: ds, acc, cs => match g d env with
    | none => .bad
    | some env1 => (match mc env1 cs with
      | .ok x c => (match truthD x.2 with
        | some true => (match mk env1 c with
          | .ok y c1 => (match mv env1 c1 with
            | .ok z c2 => if y.1.plain = true ∧ z.1.plain = true then (match dputD acc y.2 z.2 with
              | some acc' => dcGo g mc mk mv env ds acc' c2
              | none => .bad) else .bad
            | _ => .bad)
          | _ => .bad)
        | some false => dcGo g mc mk mv env ds acc c
        | none => .bad)
      | _ => .bad)
/-- the kinds of dicts -/
inductive DK where
  | s | t | i
  deriving DecidableEq
def DK.e0 : DK → D
  | .s => .dK [] []
  | .t => .dT [] []
  | .i => .dI [] []
def sDcomp (k : DK) (vs : List Nat) (g : GS) (mi : IS) (mc mk mv : ES) : ES := fun env cs => match mi env cs with
  | .ok ds c => if noOwn env vs = true then (match dcGo g mc mk mv (wipeE env vs) ds k.e0 c with
    | .ok d c2 => .ok (.st, d) c2
    | _ => .bad) else .bad
  | .exc x fs c => .exc x fs c
  | .bad => .bad
def kdK : DKd := ⟨.dK [], fun D y z H H' => ∃ kvs k, y = kV k ∧ H D = some (.dK kvs) ∧ kvs.length < sizeLine ∧ H' = upd H D (.dK (putK kvs k z))⟩
def kdT : DKd := ⟨.dT [], fun D y z H H' => ∃ kvs k b, y = .ref b ∧ H b = some (.tup (k.map kV)) ∧ H D = some (.dT kvs) ∧ kvs.length < sizeLine ∧ H' = upd H D (.dT (putK kvs k z))⟩
theorem kdK_ok {X : Cx} : DKdOk X kdK where
  new := fun h H hb => dk_empty h hb
  put := fun {Y pins σ H H' s E D y z u r Q} eP ew eA I hp ry rz q => by
    obtain ⟨kvs, k, rfl, hD, hl, rfl⟩ := hp
    exact d_dictSet I hD hl ry rz q
theorem kdT_ok {X : Cx} (hu : X.A.units < cLine) : DKdOk X kdT where
  new := fun h H hb => dt_empty h hb
  put := fun {Y pins σ H H' s E D y z u r Q} eP ew eA I hp ry rz q => by
    obtain ⟨kvs, k, b, rfl, hb, hD, hl, rfl⟩ := hp
    cases (show u = Value.ref b from ry)
    obtain ⟨zl, hd, xs, rel, dd⟩ := dt_of I.hok hD
    have l1 : xs.length ≤ sizeLine := by rw [← Paired.length rel]; exact zl
    have l2 : (putK kvs k z).length ≤ sizeLine := by have := length_putK kvs k z; omega
    have hu' : Y.A.units < cLine := by rw [eA]; exact hu
    refine wpAny_dictSet_heap (hsz := l1) hu' (key_of I.hok hb) dd fun h' dd' hs => q _ ?_
    obtain ⟨o, es, ep, ho, p2, p3, p4, _, p5⟩ := dd'
    refine d_write I (by rw [hD]; exact trivial) hs ⟨o, ho⟩ ⟨l2, hd, _, (rel.put k hb rz).keeps fun c ys ec => ?_, o, es, ep, ho, p2, p3, p4, p5⟩
    rw [upd_ne (ne_of ec hD fun z => nomatch z)]
    exact ec
def DK.kd : DK → DKd
  | .s => kdK
  | .t => kdT
  | .i => kdK
theorem kd_ok {X : Cx} (hu : X.A.units < cLine) : ∀ k : DK, DKdOk X k.kd
  | .s => kdK_ok
  | .t => kdT_ok hu
  | .i => kdK_ok
/-- acc is a dict of the kind -/
def DK.is : DK → D → Bool
  | .s, .dK _ _ => true
  | .t, .dT _ _ => true
  | .i, .dI _ _ => true
  | _, _ => false
theorem dputD_is {k : DK} {acc y z acc' : D} (h : k.is acc = true) (e : dputD acc y z = some acc') : k.is acc' = true := by
  cases k <;> cases acc <;> simp only [DK.is, Bool.false_eq_true] at h <;> cases y <;> simp only [dputD, reduceCtorEq] at e
  · split at e <;> cases e; rfl
  · rename_i es
    cases e0 : intsOf es with
    | none => rw [e0] at e; cases e
    | some kk => rw [e0] at e; simp only [Option.bind_some] at e; split at e <;> cases e; rfl
  · split at e <;> cases e; rfl
section
variable {B : Bx} {hs : Addr → Prop} {H0 H0' H : Hp} {D : Addr}
/-- a store, by data -/
theorem dput_rel {k : DK} {acc acc' : Pc.D} {x y : Vl} {u v : V} (hk : k.is acc = true) (e : dputD acc x.2 y.2 = some acc') (hD : hs D) (px : PV B hs H0 H x.1 x.2 u) (rp : B.Rp H hs y.2 v) (dc : DcO H (B.RpL H hs) D acc) :
    ∃ o, k.kd.P D u v H (upd H D o) ∧ DcO (upd H D o) (B.RpL (upd H D o) hs) D acc' := by
  have hsl := sizeLine_eq
  obtain ⟨tx, dx⟩ := x
  obtain ⟨ty, dy⟩ := y
  have le : ∀ {o : HO}, Le (hid H hs) (hid (upd H D o) hs) := fun {o} => hid_le (fun _ h => h) fun a o n q => by rw [upd_ne (fun z => n (by rw [z]; exact hD))]; exact q
  cases k <;> cases acc <;> simp only [DK.is, Bool.false_eq_true] at hk <;> cases dx <;> simp only [dputD, reduceCtorEq] at e
  · rename_i ks ds kk
    split at e <;> cases e
    rename_i hl0
    obtain ⟨ws, hq, hkk, rl⟩ := dc
    obtain ⟨rfl, _⟩ := px.str
    have hl : ws.length = ks.length := by have := congrArg List.length hkk; simpa using this
    obtain ⟨k1, k2⟩ := put_rel (inj := inS) (fun a b => inS_inj) (k := kk) rp (ws := ws) hkk rl
    exact ⟨_, ⟨ws, inS kk, rfl, hq, by omega, rfl⟩, _, upd_same, k1, RpL.mono le _ _ k2⟩
  · rename_i ks ds es
    cases e0 : intsOf es with
    | none => rw [e0] at e; cases e
    | some kk =>
      rw [e0] at e
      simp only [Option.bind_some] at e
      split at e <;> cases e
      rename_i hl0
      obtain ⟨ws, hq, hkk, rl⟩ := dc
      obtain ⟨b', ys, rfl, hb', rb⟩ := px.tupAt
      have hb2 : H b' = some (.tup ((inT kk).map kV)) := by rw [← ints_rel e0 rb]; exact hb'
      have hl : ws.length = ks.length := by have := congrArg List.length hkk; simpa using this
      obtain ⟨k1, k2⟩ := put_rel (inj := inT) (fun a b => inT_inj) (k := kk) rp (ws := ws) hkk rl
      exact ⟨_, ⟨ws, inT kk, b', rfl, hb2, hq, by omega, rfl⟩, _, upd_same, k1, RpL.mono le _ _ k2⟩
  · rename_i ks ds kk
    split at e <;> cases e
    rename_i hl0
    obtain ⟨ws, hq, hkk, rl⟩ := dc
    cases px.int
    have hl : ws.length = ks.length := by have := congrArg List.length hkk; simpa using this
    obtain ⟨k1, k2⟩ := put_rel (inj := inI) (fun a b => inI_inj) (k := kk) rp (ws := ws) hkk rl
    exact ⟨_, ⟨ws, inI kk, rfl, hq, by omega, rfl⟩, _, upd_same, k1, RpL.mono le _ _ k2⟩
end
/-- what the turns from acc on are to reach -/
def TDx (B : Bx) (W : WX) (fp : Nat → List Addr) (σ : L2.St) (H : Hp) (Q : VK) (r : Rs D) : Prop := match r with
  | .ok d c => TEx B W fp σ H (.ok (.st, d) c) Q
  | _ => False
theorem dc_start {H : Hp} {D : Addr} {R : List Pc.D → List V → Prop} (hR : R [] []) (k : DK) (h : H D = some k.kd.e0) : DcO H R D k.e0 := by
  cases k
  · exact ⟨[], h, rfl, hR⟩
  · exact ⟨[], h, rfl, hR⟩
  · exact ⟨[], h, rfl, hR⟩
section
variable {B : Bx} {W : WX} {g : GS} {t : TG} {mi : IS} {mc mk mv : ES} {k : DK}
theorem dcRead (wi : TI) (hwi : ∀ (σ : L2.St) (H : Hp) (R : It → Hp → Prop) env cs fp, StR B env cs fp σ H → TIx B W fp σ H (mi env cs) R → wi σ H R) (vs : List Nat)
    (hg : ∀ (B' : Bx), B'.K = B.K → ∀ env env' cs fp (σ : L2.St) H d v (Q : L2.St → Hp → Prop), StR B' env cs fp σ H → B'.Rp H (hsOf B' fp) d v → g d env = some env' →
      (∀ fp' σ', StR B' env' cs fp' σ' H → Off vs σ σ' → FpSub vs fp fp' → Q σ' H) → t v σ H Q)
    (σ : L2.St) (H : Hp) (Q : VK) (h : tE B W (sDcomp k vs g mi mc mk mv) σ H Q) : tDk k.kd wi t (tTx B mc) (tEx B mk) (tEx B mv) vs σ H Q := by
  obtain ⟨env, cs, fp, S, h⟩ := h
  unfold sDcomp at h
  refine hwi σ H _ env cs fp S ?_
  cases e : mi env cs with
  | bad => rw [e] at h; exact h
  | exc x fs c => rw [e] at h; exact h
  | ok ds c =>
    simp only [e] at h
    split at h
    case isFalse => exact h.elim
    rename_i hno
    have h : TDx B W fp σ H Q (dcGo g mc mk mv (wipeE env vs) ds k.e0 c) := by
      cases e2 : dcGo g mc mk mv (wipeE env vs) ds k.e0 c with
      | ok d c2 => simp only [e2] at h; exact h
      | exc x fs c2 => simp only [e2] at h; exact h.elim
      | bad => simp only [e2] at h; exact h.elim
    intro J H1 sb1 cc1 it D hD
    have S1 := S.next sb1 cc1
    obtain ⟨G, Y, wk, hG, hY⟩ := it
    have nps : D ∉ B.ps := fun m => by
      obtain ⟨xs, e⟩ := cc1.there m
      rw [hD] at e; cases e
    have nhs : ¬ hsOf B fp D := fun m => by
      obtain ⟨o, e⟩ := S1.there m
      rw [hD] at e; cases e
    let P : Nat → Hp → Prop := fun i H' => ∃ acc c', SB B.ps H1 H' ∧ CsR B (fun a => hsOf B fp a ∨ a ∈ [D]) H' c' ∧ k.is acc = true ∧ DcO H' (B.RpL H' fun a => hsOf B fp a ∨ a ∈ [D]) D acc ∧ TDx B W fp σ H Q (dcGo g mc mk mv (wipeE env vs) (ds.drop i) acc c')
    have p0 : P 0 (upd H1 D k.kd.e0) := by
      refine ⟨k.e0, c, SB.upd hD, ⟨cc1.len, cc1.nd, fun i ds a e1 e2 => ?_⟩, by cases k <;> rfl, dc_start RpL.nil k upd_same, h⟩
      obtain ⟨ys, h1, h2⟩ := cc1.at_ i ds a e1 e2
      refine ⟨ys, upd_le hD _ _ h1, RpL.mono (fun b o q => ?_) _ _ h2⟩
      obtain ⟨n, q⟩ := hid_some.mp q
      refine hid_some.mpr ⟨fun z => z.elim n fun z => ?_, upd_le hD _ _ q⟩
      cases List.mem_singleton.mp z
      rw [hD] at q; cases q
    refine ⟨fun i m H' => m = ds.length - i ∧ i ≤ ds.length ∧ P i H', ⟨ds.length, by simp, Nat.zero_le _, p0⟩, ?_⟩
    rintro i m H' ⟨rfl, hi, acc, c', sb, cc, hk, dc, hr⟩
    have leP : Le (hid H1 (hsOf B fp)) (hid H' fun a => hsOf B fp a ∨ a ∈ [D]) := fun a o q => by
      obtain ⟨n, q⟩ := hid_some.mp q
      refine hid_some.mpr ⟨fun z => z.elim n fun z => ?_, sb a o (fun m => n (S1.ps a m)) q⟩
      cases List.mem_singleton.mp z
      rw [hD] at q; cases q
    have q : G H' := hG H' _ leP
    obtain ⟨od, hDo, tDo⟩ := dc.thereN
    by_cases hlt : i < ds.length
    case neg =>
      have ei : i = ds.length := by omega
      subst ei
      rw [List.drop_length] at hr
      have hr : TEx B W fp σ H (.ok (.st, acc) c') Q := hr
      obtain ⟨u, hu, mu, _⟩ := dc.lock
      refine .inl ⟨wk.stops H' q, u, hu, mu, fun o => ?_⟩
      have le2 : Le (hid H' fun a => hsOf B fp a ∨ a ∈ [D]) (hid (upd H' D (.frz o u)) (hsOf B fp)) := fun a x z => by
        obtain ⟨n, z⟩ := hid_some.mp z
        exact hid_some.mpr ⟨fun w => n (.inl w), by rw [upd_ne (fun w => n (.inr (by rw [w]; exact List.mem_singleton.mpr rfl)))]; exact z⟩
      refine hr (.ref D) _ (sb1.trans fun a x n z => ?_) ⟨cc.len, cc.nd, fun j es a e1 e2 => ?_⟩ ?_
      · rw [upd_ne (fun w => by rw [w, hD] at z; cases z)]
        exact sb a x n z
      · obtain ⟨ys, h1, h2⟩ := cc.at_ j es a e1 e2
        exact ⟨ys, by rw [upd_ne (fun w => nps (by rw [← w]; exact List.mem_of_getElem? e2))]; exact h1, RpL.mono le2 _ _ h2⟩
      · obtain ⟨u2, hu2, _, rp⟩ := (dc.mono (fun _ z => z) fun ds xs z => RpL.mono le2 ds xs z : DcO H' (B.RpL (upd H' D (.frz o u)) (hsOf B fp)) D acc).lock
        rw [hu] at hu2
        cases hu2
        exact rp o (hid_some.mpr ⟨nhs, upd_same⟩)
    refine .inr ⟨wk.goes i H' hlt q, P (i + 1), fun H2 p2 => ⟨ds.length - (i + 1), by omega, rfl, hlt, p2⟩, fun x H2 y => ?_⟩
    have thP : ∀ a, (hsOf B fp a ∨ a ∈ [D]) → ∃ o, H' a = some o ∧ HO.nt o = true := by
      rintro a (z | z)
      · by_cases hp : a ∈ B.ps
        · obtain ⟨zs, e⟩ := cc.there hp
          exact ⟨_, e, rfl⟩
        · obtain ⟨o, e, t⟩ := S1.thereN z
          exact ⟨o, sb a o hp e, t⟩
      · cases List.mem_singleton.mp z
        exact ⟨_, hDo, tDo⟩
    obtain ⟨le2, d, ed, rx⟩ := hY i H' x H2 _ thP leP (wk.yields i H' x H2 hlt q y)
    have sb2 : SB B.ps H1 H2 := sb.trans fun a o _ q => le2 a o q
    have fr2 : ∀ a ∈ [D], H1 a = none ∧ a ∉ B.ps ∧ ∃ o, H2 a = some o ∧ HO.nt o = true := fun a m => by
      cases List.mem_singleton.mp m
      exact ⟨hD, nps, _, le2 _ _ hDo, tDo⟩
    have cc2 : CsR B (fun a => hsOf B fp a ∨ a ∈ [D]) H2 c' := cc.next (fun a m => .inl (S1.ps a m)) le2
    have S2 := S1.block (vs := vs) hno sb2 fr2 cc2
    have hP : ∀ a, hsOf ⟨B.K, B.mg, B.ps, fun a => B.h0 a ∨ a ∈ [D]⟩ fp a ↔ (hsOf B fp a ∨ a ∈ [D]) := fun a => by
      constructor
      · rintro ((h | h) | h)
        · exact .inl (.inl h)
        · exact .inr h
        · exact .inl (.inr h)
      · rintro ((h | h) | h)
        · exact .inl (.inl h)
        · exact .inr h
        · exact .inl (.inr h)
    have dc2 : DcO H2 (B.RpL H2 fun a => hsOf B fp a ∨ a ∈ [D]) D acc := dc.mono (fun o z => le2 D o z) fun ds xs z => RpL.mono (hid_le (fun _ h => h) fun a o _ z => le2 a o z) ds xs z
    rw [List.drop_eq_getElem_cons hlt] at hr
    have ed' : ds[i] = d := by
      rw [List.getElem?_eq_getElem hlt] at ed
      exact Option.some.inj ed
    rw [ed'] at hr
    unfold dcGo at hr
    cases eg : g d (wipeE env vs) with
    | none => simp only [eg] at hr; exact hr.elim
    | some env1 =>
      simp only [eg] at hr
      refine hg ⟨B.K, B.mg, B.ps, fun a => B.h0 a ∨ a ∈ [D]⟩ rfl _ env1 c' fp _ H2 d x _ S2 (Rp.mono (hid_le (fun a z => (hP a).mp z) fun _ _ _ e => e) _ _ rx) eg fun fp3 σ3 S3 off3 l3 => ⟨?_, ?_⟩
      · rw [off3.wipe]
        apply List.ext_getElem?
        intro j
        by_cases hj : j < σ.length
        · rw [wipe_get (by rw [wipe_length]; exact hj), wipe_get hj]
          split <;> rfl
        · rw [List.getElem?_eq_none (by rw [wipe_length, wipe_length]; omega), List.getElem?_eq_none (by rw [wipe_length]; omega)]
      refine ⟨fun a => B.h0 a ∨ a ∈ [D], env1, c', fp3, S3, ?_⟩
      cases em : mc env1 c' with
      | bad => simp only [em] at hr; exact hr.elim
      | exc x fs c2 => simp only [em] at hr; exact hr.elim
      | ok z c2 =>
        simp only [em] at hr
        cases et : truthD z.2 with
        | none => simp only [et] at hr; exact hr.elim
        | some b =>
          refine ⟨b, et, fun H3 sb3 cc3 => ?_⟩
          have S4 := S3.next sb3 cc3
          have fpE : ∀ i a, a ∈ fp i → a ∈ fp3 i := fun i a m => by
            rcases l3.back i a m with z | z
            · exact z
            · by_cases hi : i < env.length
              · have ho := List.all_eq_true.mp hno i z
                rw [List.getElem?_eq_getElem hi] at ho
                have q := S1.slot i env[i] (List.getElem?_eq_getElem hi)
                cases es : env[i] with
                | emp => rw [es] at q; rw [show fp i = [] from q] at m; cases m
                | sh d => rw [es] at q; rw [q.1] at m; cases m
                | ow k d => rw [es] at ho; simp [Slot.isOw] at ho
                | od d => rw [es] at ho; simp [Slot.isOw] at ho
              · rw [S1.out i (by omega)] at m; cases m
          have hP3 : ∀ a, hsOf ⟨B.K, B.mg, B.ps, fun a => B.h0 a ∨ a ∈ [D]⟩ fp3 a ↔ (hsOf B fp a ∨ a ∈ [D]) := fun a =>
            ⟨fun z => (hP a).mp (l3.hs a z), fun z => ((hP a).mpr z).elim .inl fun ⟨i, m⟩ => .inr ⟨i, fpE i a m⟩⟩
          have eP3 : hsOf ⟨B.K, B.mg, B.ps, fun a => B.h0 a ∨ a ∈ [D]⟩ fp3 = fun a => hsOf B fp a ∨ a ∈ [D] := funext fun a => propext (hP3 a)
          -- from here on: SB from H2 to what comes
          have csB : ∀ {H9 : Hp} {c9 : Cells}, CsR ⟨B.K, B.mg, B.ps, fun a => B.h0 a ∨ a ∈ [D]⟩ (hsOf ⟨B.K, B.mg, B.ps, fun a => B.h0 a ∨ a ∈ [D]⟩ fp3) H9 c9 → CsR B (fun a => hsOf B fp a ∨ a ∈ [D]) H9 c9 := fun {H9 c9} c => by
            rw [eP3] at c
            exact ⟨c.len, c.nd, c.at_⟩
          have dcB : ∀ {H9 : Hp}, SB B.ps H2 H9 → DcO H9 (B.RpL H9 fun a => hsOf B fp a ∨ a ∈ [D]) D acc := fun {H9} s => dc2.mono (fun o z => s D o nps z) fun ds xs z =>
            RpL.mono (hid_le (fun _ h => h) fun a o n z => s a o (fun m => n (.inl (S1.ps a m))) z) ds xs z
          cases b with
          | false =>
            simp only [et] at hr
            exact iteF ⟨acc, c2, sb2.trans sb3, csB cc3, hk, dcB sb3, hr⟩
          | true =>
            simp only [et] at hr
            refine iteT ⟨fun a => B.h0 a ∨ a ∈ [D], env1, c2, fp3, S4, ?_⟩
            cases ek : mk env1 c2 with
            | bad => simp only [ek] at hr; exact hr.elim
            | exc x fs c2 => simp only [ek] at hr; exact hr.elim
            | ok yk c4 =>
              simp only [ek] at hr
              intro v4 H4 sb4 cc4 pk
              have S5 := S4.next sb4 cc4
              refine ⟨fun a => B.h0 a ∨ a ∈ [D], env1, c4, fp3, S5, ?_⟩
              cases ev : mv env1 c4 with
              | bad => simp only [ev] at hr; exact hr.elim
              | exc x fs c2 => simp only [ev] at hr; exact hr.elim
              | ok yv c5 =>
                simp only [ev] at hr
                split at hr
                case isFalse => exact hr.elim
                rename_i hpl
                intro v5 H5 sb5 cc5 pv
                cases ep : dputD acc yk.2 yv.2 with
                | none => simp only [ep] at hr; exact hr.elim
                | some acc' =>
                  simp only [ep] at hr
                  have sb25 : SB B.ps H2 H5 := (sb3.trans sb4).trans sb5
                  have pk5 := pk.next S5.ps sb5
                  have rv := pv.rp hpl.2
                  rw [eP3] at pk5 rv
                  obtain ⟨o5, hp, dc6⟩ := dput_rel (B := B) (hs := fun a => hsOf B fp a ∨ a ∈ [D]) (D := D) hk ep (.inr (List.mem_singleton.mpr rfl)) (show PV B (fun a => hsOf B fp a ∨ a ∈ [D]) H3 H5 yk.1 yk.2 v4 from by
                    cases hyk : yk.1 with
                    | st => rw [hyk] at pk5; exact pk5
                    | fr j => rw [hyk] at pk5; exact pk5
                    | tr j => rw [hyk] at hpl; cases hpl.1) rv (dcB sb25)
                  refine ⟨_, hp, acc', c5, ?_, ?_, dputD_is hk ep, dc6, hr⟩
                  · intro a o n z
                    rw [upd_ne (fun w => by rw [w, hD] at z; cases z)]
                    exact sb25 a o n (sb2 a o n z)
                  · have c6 := csB cc5
                    refine ⟨c6.len, c6.nd, fun j es a e1 e2 => ?_⟩
                    obtain ⟨ys, h1, h2⟩ := c6.at_ j es a e1 e2
                    refine ⟨ys, by rw [upd_ne (fun w => nps (by rw [← w]; exact List.mem_of_getElem? e2))]; exact h1, RpL.mono (hid_le (fun _ h => h) fun b o n z => ?_) _ _ h2⟩
                    rw [upd_ne (fun w => n (.inr (by rw [w]; exact List.mem_singleton.mpr rfl)))]
                    exact z
end
end Pc

set_option Elab.async false
set_option maxRecDepth 100000
set_option maxHeartbeats 4000000
/-! Pe4: the keys of a dict, gone through. -/
namespace Pc
open PySem PySem.Spec PyProof.Rows L2
/-- the keys of a dict that is handed on -/
def keysK : Vl → Option (List D)
  | (_, .dK ks _) => if ks.all (fun k => decide (k.length ≤ 100000)) = true then some (ks.map .str) else none
  | (_, .dT ks _) => some (ks.map fun k => .tup (k.map .int))
  | (_, .dI ks _) => some (ks.map .int)
  | _ => none
def iKeysD (m : ES) : IS := fun env cs => match m env cs with
  | .ok x c => (match keysK x with
    | some ds => .ok ds c
    | none => .bad)
  | .exc x fs c => .exc x fs c
  | .bad => .bad
section
variable {X : Cx} {B : Bx} {W : WX} {tg a b e : Expr} {m : ES}
theorem itR_keysS {hs : Addr → Prop} {H1 : Hp} {q : Addr} {o : Obj} {ws : List (Key × V)} {ks : List Str} (h : hid H1 hs q = some (.frz o (.dK ws))) (ek : ws.map (·.1) = ks.map Sum.inr) (hl : ∀ k ∈ ks, k.length ≤ 100000) : ItR B hs H1 (Itk q o ws) (ks.map .str) := by
  have ln : ws.length = ks.length := by have := congrArg List.length ek; simpa using this
  refine ⟨fun H => H q = some (.frz o (.dK ws)), fun i H x H' => H' = H ∧ ∃ k v, ws[i]? = some (k, v) ∧ x = kV k, by rw [List.length_map, ← ln]; exact walk_keys, fun H p le => hid_leH _ _ (le _ _ h), fun i H x H' p _ le y => ?_⟩
  obtain ⟨rfl, k, v, e, rfl⟩ := y
  have e1 : (ws.map (·.1))[i]? = some k := by rw [List.getElem?_map, e]; rfl
  rw [ek, List.getElem?_map] at e1
  cases e2 : ks[i]? with
  | none => rw [e2] at e1; cases e1
  | some x =>
    rw [e2] at e1
    cases e1
    exact ⟨fun _ _ e => e, .str x, by rw [List.getElem?_map, e2]; rfl, Rp.str (hl _ (List.mem_of_getElem? e2))⟩
theorem itR_keysI {hs : Addr → Prop} {H1 : Hp} {q : Addr} {o : Obj} {ws : List (Key × V)} {ks : List Int} (h : hid H1 hs q = some (.frz o (.dK ws))) (ek : ws.map (·.1) = ks.map Sum.inl) : ItR B hs H1 (Itk q o ws) (ks.map .int) := by
  have ln : ws.length = ks.length := by have := congrArg List.length ek; simpa using this
  refine ⟨fun H => H q = some (.frz o (.dK ws)), fun i H x H' => H' = H ∧ ∃ k v, ws[i]? = some (k, v) ∧ x = kV k, by rw [List.length_map, ← ln]; exact walk_keys, fun H p le => hid_leH _ _ (le _ _ h), fun i H x H' p _ le y => ?_⟩
  obtain ⟨rfl, k, v, e, rfl⟩ := y
  have e1 : (ws.map (·.1))[i]? = some k := by rw [List.getElem?_map, e]; rfl
  rw [ek, List.getElem?_map] at e1
  cases e2 : ks[i]? with
  | none => rw [e2] at e1; cases e1
  | some x =>
    rw [e2] at e1
    cases e1
    exact ⟨fun _ _ e => e, .int x, by rw [List.getElem?_map, e2]; rfl, Rp.int⟩
theorem rpl_ints' {K : PySem.W.Frag} {mg : Str → Option Value} {ps : List Addr} {H : Hp} : ∀ k : List Int, Pc.RpL K mg ps H (k.map D.int) ((k.map Sum.inl : List Key).map kV)
  | [] => RpL.nil
  | _ :: k => RpL.cons Rp.int (rpl_ints' k)
theorem itR_keysT {hs : Addr → Prop} {H1 : Hp} {q : Addr} {o : Obj} {ws : List (List Key × V)} {ks : List (List Int)} (h : hid H1 hs q = some (.frz o (.dT ws))) (ek : ws.map (·.1) = ks.map fun k => k.map Sum.inl) : ItR B hs H1 (Itkt q o ws) (ks.map fun k => .tup (k.map .int)) := by
  have ln : ws.length = ks.length := by have := congrArg List.length ek; simpa using this
  refine ⟨fun H => H q = some (.frz o (.dT ws)), fun i H x H' => H' = H ∧ ∃ (k : List Key) (v : V) (q : Addr), ws[i]? = some (k, v) ∧ x = .ref q ∧ H q = some (.tup (k.map kV)), by rw [List.length_map, ← ln]; exact walk_keysT, fun H p le => hid_leH _ _ (le _ _ h), fun i H x H' p th le y => ?_⟩
  obtain ⟨rfl, k, v, b, e, rfl, hb⟩ := y
  have e1 : (ws.map (·.1))[i]? = some k := by rw [List.getElem?_map, e]; rfl
  rw [ek, List.getElem?_map] at e1
  cases e2 : ks[i]? with
  | none => rw [e2] at e1; cases e1
  | some x =>
    rw [e2] at e1
    cases e1
    have np : ¬ p b := fun z => by
      obtain ⟨o, e3, t⟩ := th b z
      rw [hb] at e3
      cases e3
      cases t
    exact ⟨fun _ _ e => e, .tup (x.map .int), by rw [List.getElem?_map, e2]; rfl, Rp.tup (hid_some.mpr ⟨np, hb⟩) (rpl_ints' x)⟩
theorem pi_keysD (co : Co X B) (ha : PM X B W a m) : PIm X B W tg a (iKeysD m) := by
  refine ⟨_, pi_keys ha.pe, fun σ H R env cs fp S h => ?_⟩
  unfold iKeysD at h
  refine ⟨env, cs, fp, S, ?_⟩
  cases e : m env cs with
  | bad => rw [e] at h; exact h.elim
  | exc x fs c => rw [e] at h; exact h
  | ok x c =>
    simp only [e] at h
    intro v H1 sb cc pv
    obtain ⟨t, d⟩ := x
    cases d with
    | dK ks ds =>
      have h : TIx B W fp σ H (match (if ks.all (fun k => decide (k.length ≤ 100000)) = true then some (ks.map D.str) else none) with
        | some ds => .ok ds c
        | none => .bad) R := h
      by_cases hk : ks.all (fun k => decide (k.length ≤ 100000)) = true
      · rw [if_pos hk] at h
        obtain ⟨q, o, ws, rfl, s, ek, _⟩ := Rp.dK_of (pv.atom fun ds e => by cases e)
        exact ⟨q, o, rfl, .inl ⟨ws, hid_leH _ _ s, h _ H1 sb cc (itR_keysS s ek fun k hm => of_decide_eq_true (List.all_eq_true.mp hk k hm))⟩⟩
      · rw [if_neg hk] at h
        exact h.elim
    | dT ks ds =>
      obtain ⟨q, o, ws, rfl, s, ek, _⟩ := Rp.dT_of (pv.atom fun ds e => by cases e)
      exact ⟨q, o, rfl, .inr ⟨ws, hid_leH _ _ s, h _ H1 sb cc (itR_keysT s ek)⟩⟩
    | dI ks ds =>
      obtain ⟨q, o, ws, rfl, s, ek, _⟩ := Rp.dI_of (pv.atom fun ds e => by cases e)
      exact ⟨q, o, rfl, .inl ⟨ws, hid_leH _ _ s, h _ H1 sb cc (itR_keysI s ek)⟩⟩
    | _ => exact h.elim
end
end Pc

set_option Elab.async false
set_option maxRecDepth 100000
set_option maxHeartbeats 4000000
/-! Pe5: sorted of a dict whose keys are pairs, in order as they are. -/
namespace Pc
open PySem PySem.Spec PyProof.Rows L2
/-- the pair of ints that a value stands for -/
def pairAt (H : Hp) : Value → Int × Int
  | .ref q => (match H q with
    | some (.tup [.int a, .int b]) => (a, b)
    | _ => (0, 0))
  | _ => (0, 0)
theorem pairAt_of {H : Hp} {q : Addr} {a b : Int} (h : H q = some (.tup [.int a, .int b])) : pairAt H (.ref q) = (a, b) := by
  unfold pairAt
  simp only [h]
/-- the key tuples bs of ps, in order -/
def KeysAt (H : Hp) : List (Int × Int) → List Addr → Prop
  | [], bs => bs = []
  | p :: ps, bs => ∃ b r, bs = b :: r ∧ H b = some (.tup [.int p.1, .int p.2]) ∧ KeysAt H ps r
theorem keysAt_of {H : Hp} : ∀ {ps : List (Int × Int)} {vs : List Value}, vs.length = ps.length → (∀ (j : Nat) (v : Value), vs[j]? = some v → ∃ (p : Int × Int) (b : Addr), ps[j]? = some p ∧ v = .ref b ∧ H b = some (.tup [.int p.1, .int p.2])) → ∃ bs, vs = bs.map Value.ref ∧ KeysAt H ps bs
  | [], vs, hl, _ => by
    cases vs with
    | nil => exact ⟨[], rfl, rfl⟩
    | cons _ _ => cases hl
  | p :: ps, vs, hl, h => by
    cases vs with
    | nil => cases hl
    | cons v vs =>
      obtain ⟨p', b, e1, e2, e3⟩ := h 0 v rfl
      cases e1
      obtain ⟨bs, e4, e5⟩ := keysAt_of (ps := ps) (vs := vs) (by simpa using hl) fun j v e => h (j + 1) v e
      exact ⟨b :: bs, by rw [e2, e4]; rfl, b, bs, rfl, e3, e5⟩
theorem keysAt_map {H : Hp} : ∀ {ps : List (Int × Int)} {bs : List Addr}, KeysAt H ps bs → (bs.map Value.ref).map (pairAt H) = ps
  | [], bs, h => by
    have h : bs = [] := h
    subst h; rfl
  | p :: ps, bs, h => by
    obtain ⟨b, r, rfl, e, h⟩ := h
    rw [List.map_cons, List.map_cons, keysAt_map h, pairAt_of e]
theorem keysAt_mem {H : Hp} : ∀ {ps : List (Int × Int)} {bs : List Addr}, KeysAt H ps bs → ∀ b ∈ bs, ∃ x y, H b = some (.tup [.int x, .int y])
  | [], bs, h, b, m => by
    have h : bs = [] := h
    subst h; cases m
  | p :: ps, bs, h, b, m => by
    obtain ⟨b', r, rfl, e, h⟩ := h
    rcases List.mem_cons.mp m with m | m
    · subst m; exact ⟨_, _, e⟩
    · exact keysAt_mem h b m
def pairKey (p : Int × Int) : List Key := [Sum.inl p.1, Sum.inl p.2]
theorem call_sortedDT {X : Cx} (hcalm : X.calm = true) : CallR X (.builtin "sorted") (fun xs H Q => ∃ (d : Addr) (od : Obj) (kvs : List (List Key × V)) (ps : List (Int × Int)), xs = [.ref d] ∧ H d = some (.frz od (.dT kvs)) ∧ kvs.map (·.1) = ps.map pairKey ∧ SrtO.Srtd SrtO.lexB ps ∧
    ∀ (bs : List Addr) (p : Addr), KeysAt H ps bs → H p = none → Q (.ref p) (upd H p (.lst (bs.map V.ref)))) := by
  intro pins s σ H xs us Q I r q
  obtain ⟨d, od, kvs, ps, rfl, hd, hks, srt, q⟩ := q
  obtain ⟨u, rfl, rx⟩ := r.one
  cases rx
  obtain ⟨hs, hgd, hx, es, ep, hdt, hsz, ent⟩ := I.frzT hd
  obtain ⟨_, z, _⟩ := (show ObjOk X.prog X.w H s.heap d (.frz od (.dT kvs)) from I.hok d _ hd)
  have l1 : kvs.length = ps.length := by have := congrArg List.length hks; simpa using this
  have h16 : es.size ≤ sizeLine := by omega
  refine Calls.call_function_entry PyProof.Rows.kind_sorted PyProof.Rows.plain_sorted PyProof.Rows.entry_sorted (PyProof.Rows.args_sorted1 _) ?_
  unfold Builtin.«sorted»
  refine wpAny_bind (m := checkCount "sorted" 1 1 _) (wpAny_pure ?_)
  refine wpAny_bind (PySem.W.kdu_collect (A := X.A.in1) (kdl_raw hs hx hdt) (I.ok.hd hcalm) hgd h16 fun h' tk acc hk hacc => ?_)
  have hal : acc.toList.length = ps.length := by rw [Array.length_toList, hacc.1]; omega
  obtain ⟨bs, eb, kb⟩ := keysAt_of (H := H) (ps := ps) (vs := acc.toList) hal fun j v e => by
    obtain ⟨en, hen, hv⟩ := hacc.2 j v (by rw [← Array.getElem?_toList]; exact e)
    have hj : j < kvs.length := by
      have := (List.getElem?_eq_some_iff.mp e).1
      omega
    obtain ⟨k, v0, hkv⟩ : ∃ k v0, kvs[j]? = some (k, v0) := ⟨kvs[j].1, kvs[j].2, List.getElem?_eq_getElem hj⟩
    obtain ⟨en', b, hen', hkey, hb⟩ := ent j k v0 hkv
    rw [hen] at hen'
    cases hen'
    have e1 : (kvs.map (·.1))[j]? = some k := by rw [List.getElem?_map, hkv]; rfl
    rw [hks, List.getElem?_map] at e1
    cases e2 : ps[j]? with
    | none => rw [e2] at e1; cases e1
    | some p =>
      rw [e2] at e1
      cases e1
      exact ⟨p, b, rfl, by rw [hv, hkey], hb⟩
  have I1 : Inv X pins σ H { s with heap := h', toks := tk } := I.kept hk
  have hz : acc.toList.length ≤ sizeLine := by omega
  refine wpAny_bind (wpAny_newList ?_ (by rw [hal]; omega))
  have hoL : (h'.push (seqObj "list" acc.toList.toArray 0)).get? h'.objs.size = some (seqObj "list" acc.toList.toArray 0) := Heap.get?_push_size _ rfl
  have old : ∀ b o, h'.get? b = some o → (h'.push (seqObj "list" acc.toList.toArray 0)).get? b = some o := fun b o e => Heap.get?_push_of_some _ e
  show wpAny _ _ _ _ _ { s with heap := h'.push (seqObj "list" acc.toList.toArray 0), toks := tk }
  have hp : ∀ v ∈ acc.toList, Srt.IsPair (h'.push (seqObj "list" acc.toList.toArray 0)) v (pairAt H v).1 (pairAt H v).2 := fun v hv => by
    rw [eb] at hv
    obtain ⟨b, mb, rfl⟩ := List.mem_map.mp hv
    obtain ⟨x, y, hb⟩ := keysAt_mem kb b mb
    rw [pairAt_of hb]
    obtain ⟨_, its2, r2, o, ho, hc, n, hdd⟩ := I1.hok _ _ hb
    obtain ⟨u1, u2, rfl, ri, rj⟩ := vals2 r2
    obtain ⟨t1, rfl⟩ := ri
    obtain ⟨t2, rfl⟩ := rj
    exact ⟨b, o, t1, t2, n, rfl, old _ _ ho, hc, hdd⟩
  have srtV : SrtO.Srtd (fun v u => SrtO.lexB (pairAt H v) (pairAt H u)) acc.toList := by
    have e := keysAt_map kb
    rw [← eb] at e
    rw [← e] at srt
    exact List.pairwise_map.mp srt
  refine wpAny_bind (wpAny_holding (wpAny_call_entry PyProof.Rows.slot_list_sort ⟨_, hoL, rfl⟩ PyProof.Rows.entry_list_sort
    (SrtO.list_sort_ord (s := { s with heap := h'.push (seqObj "list" acc.toList.toArray 0), toks := tk }) (SrtO.swo_lex (pairAt H)) hoL hz (fun h2 => SrtO.pairs_sortableO (by omega) hp fun o e => by
      have e' : some o = some (seqObj "list" acc.toList.toArray 0) := e.symm.trans hoL
      cases e'
      intro c
      exact absurd (Value.type.inj c) (by decide)) fun out g1 g2 => ⟨_, rfl, ?_⟩) (PyProof.Rows.args_list_sort _)))
  have eo : out = acc.toList := SrtO.stb_uniq (SrtO.swo_lex (pairAt H)) g1 srtV g2
  subst eo
  obtain ⟨e', he'⟩ := PyProof.Rows.sortedHeap_at (vs := acc.toList) (out := acc.toList.toArray) hoL
  have rv : Vals (bs.map V.ref) acc.toList := by rw [eb]; exact vals_refs _
  refine wpAny_pure ⟨_, rfl, .ref h'.objs.size, upd H h'.objs.size (.lst (bs.map V.ref)), I1.laid (t' := tk) (fun b u e => ?_) (Nat.le_refl _)
    (show ObjOk X.prog X.w _ _ _ (.lst (bs.map V.ref)) from ⟨by rw [Vals.length rv]; exact hz, acc.toList, e', rv, he'⟩), rfl, q bs _ kb (I1.hok.fresh (Nat.le_refl _))⟩
  have hb : b < h'.objs.size := Heap.lt_size e
  rw [PyProof.Rows.sortedHeap_old (Nat.ne_of_lt hb) (by rw [size_push']; exact Nat.lt_succ_of_lt hb)]
  exact Heap.get?_push_of_some _ e
/-! by data -/
def pairs2 : List (List Int) → Option (List (Int × Int))
  | [] => some []
  | [a, b] :: ks => (pairs2 ks).map fun r => (a, b) :: r
  | _ :: _ => none
theorem pairs2_is : ∀ {ks : List (List Int)} {ps : List (Int × Int)}, pairs2 ks = some ps → ks = ps.map fun p => [p.1, p.2]
  | [], ps, h => by cases h; rfl
  | [] :: ks, ps, h => by cases h
  | [a] :: ks, ps, h => by cases h
  | (a :: b :: c :: r) :: ks, ps, h => by cases h
  | [a, b] :: ks, ps, h => by
    have h : (pairs2 ks).map (fun r => (a, b) :: r) = some ps := h
    cases e : pairs2 ks with
    | none => rw [e] at h; cases h
    | some r =>
      rw [e] at h
      cases h
      rw [pairs2_is e]
      rfl
/-- in order already -/
def srtP : List (Int × Int) → Bool
  | [] => true
  | p :: ps => ps.all (fun q => !SrtO.lexB q p) && srtP ps
theorem srtP_is : ∀ {ps : List (Int × Int)}, srtP ps = true → SrtO.Srtd SrtO.lexB ps
  | [], _ => .nil
  | p :: ps, h => by
    simp only [srtP, Bool.and_eq_true] at h
    exact .cons (fun q m => by simpa using List.all_eq_true.mp h.1 q m) (srtP_is h.2)
def dsortF : List Vl → Option Vl
  | [(_, .dT ks _)] => (pairs2 ks).bind fun ps => if srtP ps = true then some (.fr 0, .lst (ks.map fun k => .tup (k.map .int))) else none
  | _ => none
theorem keysAt_rp {B : Bx} {hs : Addr → Prop} {H : Hp} (th : ∀ p, hs p → ∃ o, H p = some o ∧ HO.nt o = true) : ∀ {ps : List (Int × Int)} {bs : List Addr}, KeysAt H ps bs → B.RpL H hs (ps.map fun p => D.tup [.int p.1, .int p.2]) (bs.map V.ref)
  | [], bs, h => by
    have h : bs = [] := h
    subst h
    exact RpL.nil
  | p :: ps, bs, h => by
    obtain ⟨b, r, rfl, e, h⟩ := h
    have np : ¬ hs b := fun z => by
      obtain ⟨o, e3, t⟩ := th b z
      rw [e] at e3
      cases e3
      cases t
    exact RpL.cons (Rp.tup (hid_some.mpr ⟨np, e⟩) (RpL.cons Rp.int (RpL.cons Rp.int RpL.nil))) (keysAt_rp th h)
theorem dsort_F {X : Cx} {B : Bx} (co : Co X B) : CallR X (.builtin "sorted") (rA B dsortF) := by
  intro pins s σ H xs us Q I r h
  obtain ⟨hs, H0, xs', q, hps, there, cel, pl, e, out⟩ := h
  unfold dsortF at e
  split at e
  · rename_i tg ks ds
    cases e2 : pairs2 ks with
    | none => rw [e2] at e; cases e
    | some ps =>
      rw [e2] at e
      simp only [Option.bind_some] at e
      split at e
      · rename_i hsrt
        cases e
        obtain ⟨v, rfl, p⟩ := pl.one
        obtain ⟨a, o, ws, rfl, s1, ek, _⟩ := Rp.dT_of (p.atom fun ds e => by cases e)
        have ek2 : ks = ps.map fun p => [p.1, p.2] := pairs2_is e2
        refine call_sortedDT co.calm pins s σ H _ us Q I r ⟨a, o, ws, ps, rfl, hid_leH _ _ s1, by rw [ek, ek2, List.map_map]; rfl, srtP_is hsrt, fun bs p kb n => ?_⟩
        refine out.lst hps (thereO there) ?_ n
        have : (ks.map fun k => D.tup (k.map .int)) = ps.map fun p => D.tup [.int p.1, .int p.2] := by rw [ek2, List.map_map]; rfl
        rw [this]
        exact keysAt_rp there kb
      · cases e
  · cases e
end Pc

set_option Elab.async false
set_option maxRecDepth 100000
set_option maxHeartbeats 4000000
/-! Pe6: zip of the rows of a list, any number of them: zip(*rows). -/
namespace Pc
open PySem PySem.Spec PyProof.Rows L2 RZ
/-- a source: a tuple or not, its iterator, itself -/
abbrev Zs := Bool × Addr × Addr
def ZRec (g : Heap) (z I T : Addr) (f0 f1 : Value) : Prop := g.get? z = some { cls := .type "zip", dict := none, data := .fields #[f0, f1, .bool false, .ref I, .ref T], slots := #[] }
def ZTup (g : Heap) (I : Addr) (vs : List Value) : Prop := g.get? I = some { cls := .type "tuple", data := .seq vs.toArray }
structure ZAp (z I T : Addr) (zs : List Zs) : Prop where
  nd : (zs.map (·.2.1)).Nodup
  Iz : I ≠ z
  Tz : T ≠ z
  IT : I ≠ T
  it : ∀ q ∈ zs, q.2.1 ≠ z ∧ q.2.1 ≠ I ∧ q.2.1 ≠ T
  src : ∀ q ∈ zs, q.2.2 ≠ z ∧ q.2.2 ≠ T ∧ ∀ p ∈ zs, q.2.2 ≠ p.2.1
/-- the k-th of each source -/
def rowZ (f : Zs → Array Value) (k : Nat) (zs : List Zs) : List Value := zs.map fun q => (f q).getD k .none
/-- all but the iterators as it was -/
def ZKeepI (ex : Addr → Prop) (zs : List Zs) (g g' : Heap) : Prop := g'.objs.size = g.objs.size ∧ ∀ c o, ¬ ex c → (∀ q ∈ zs, c ≠ q.2.1) → g.get? c = some o → g'.get? c = some o
section
variable {prog : Program} {w : World} {A : Around} {E : Value → Shared → Prop} {s : Shared} {z I T : Addr} {zs : List Zs} {f : Zs → Array Value} {k : Nat} {ex : Addr → Prop}
theorem src_at {t : Bool} {g g' : Heap} {l : Addr} {xs : Array Value} (x : Src t g l xs) (e : ∀ o, g.get? l = some o → g'.get? l = some o) : Src t g' l xs := by
  cases t
  · obtain ⟨o, ho, r⟩ := (show g.IsList l xs from x)
    exact ⟨o, e _ ho, r⟩
  · obtain ⟨o, ho, r⟩ := (show g.IsTuple l xs from x)
    exact ⟨o, e _ ho, r⟩
/-- what the loop knows with ds behind it, es ahead -/
structure ZMid (ex : Addr → Prop) (s : Shared) (zs : List Zs) (f : Zs → Array Value) (k : Nat) (ds es : List Zs) (g : Heap) : Prop where
  all : zs = ds ++ es
  was : ∀ q ∈ ds, Sit q.1 g q.2.1 q.2.2 (k + 1)
  is : ∀ q ∈ es, Sit q.1 g q.2.1 q.2.2 k
  keep : ZKeepI ex zs s.heap g
theorem ZMid.start (st : ∀ q ∈ zs, Sit q.1 s.heap q.2.1 q.2.2 k) : ZMid ex s zs f k [] zs s.heap := ⟨rfl, fun q m => (nomatch m), st, rfl, fun c o _ _ e => e⟩
theorem ZMid.src (D : ZAp z I T zs) (hx : ∀ c, ex c → c = T) {ds es : List Zs} {g : Heap} (M : ZMid ex s zs f k ds es g) (sr : ∀ q ∈ zs, Src q.1 s.heap q.2.2 (f q)) {q : Zs} (m : q ∈ zs) : Src q.1 g q.2.2 (f q) :=
  src_at (sr q m) fun o e => M.keep.2 _ o (fun y => (D.src q m).2.1 (hx _ y)) (fun p mp => (D.src q m).2.2 p mp) e
/-- a turn more -/
theorem ZMid.next (D : ZAp z I T zs) {ds es : List Zs} {q : Zs} {g g' : Heap} (M : ZMid ex s zs f k ds (q :: es) g) (a : Sit q.1 g' q.2.1 q.2.2 (k + 1)) (e : Heap.SameBut q.2.1 g g') : ZMid ex s zs f k (ds ++ [q]) es g' := by
  have nd := D.nd
  rw [M.all, List.map_append, List.map_cons] at nd
  have n1 : ∀ p ∈ ds, p.2.1 ≠ q.2.1 := fun p m h => (List.nodup_append.mp nd).2.2 _ (List.mem_map.mpr ⟨p, m, rfl⟩) _ (List.mem_cons_self ..) h
  have n2 : ∀ p ∈ es, p.2.1 ≠ q.2.1 := fun p m h => (List.nodup_cons.mp (List.nodup_append.mp nd).2.1).1 (by rw [← h]; exact List.mem_map.mpr ⟨p, m, rfl⟩)
  have mq : q ∈ zs := by rw [M.all]; simp
  refine ⟨by rw [M.all]; simp, fun p m => ?_, fun p m => (M.is p (List.mem_cons_of_mem _ m)).ext e.extBut (n2 p m), by rw [e.1]; exact M.keep.1, fun c o n h x => e.extBut _ _ (h q mq) (M.keep.2 c o n h x)⟩
  rcases List.mem_append.mp m with m | m
  · exact (M.was p m).ext e.extBut (n1 p m)
  · cases List.mem_singleton.mp m
    exact a
/-- the tuple that is filled -/
theorem ZMid.upd (D : ZAp z I T zs) {ds es : List Zs} {g g' : Heap} (hx : ex T) (M : ZMid ex s zs f k ds es g) (e : Heap.SameBut T g g') : ZMid ex s zs f k ds es g' :=
  ⟨M.all, fun q m => (M.was q m).ext e.extBut (D.it q (by rw [M.all]; exact List.mem_append_left _ m)).2.2, fun q m => (M.is q m).ext e.extBut (D.it q (by rw [M.all]; exact List.mem_append_right _ m)).2.2, by rw [e.1]; exact M.keep.1,
    fun c o n h x => e.extBut _ _ (fun y => n (by rw [y]; exact hx)) (M.keep.2 c o n h x)⟩
theorem rowZ_length : (rowZ f k zs).length = zs.length := by simp [rowZ]
theorem rowZ_app {ds es : List Zs} : rowZ f k (ds ++ es) = rowZ f k ds ++ rowZ f k es := by simp [rowZ]
theorem es_nil {es : List Zs} (h : [] = es.map (fun q : Zs => (.ref q.2.1 : Value))) : es = [] := by
  cases es with
  | nil => rfl
  | cons => cases h
theorem get_row {q : Zs} (h : k < (f q).size) : (f q)[k]? = some ((f q).getD k .none) := by
  simp [Array.getD, h]
theorem wpAny_lia {M : Model} {a : Addr} {Q : Option Obj → Shared → Prop} (h : Q (s.heap.get? a) s) : wpAny M A (loadIfAlive a) Q E s := fun Γ p _ => by
  show Sem.wp M Γ (.loadIfAlive a .pure) _ _ p s
  rw [Sem.wp_loadIfAlive]
  exact (Sem.wp_pure ..).mpr h
/-- the next row, its own tuple held elsewhere -/
theorem zb_item {Q : Value → Shared → Prop} {a : Nat} {f1 : Bool} (D : ZAp z I T zs) (h0 : zs ≠ []) (hz : ZRec s.heap z I T (rawInt a) (.bool f1)) (hI : ZTup s.heap I (zs.map fun q => .ref q.2.1)) (ha : ∃ o, s.heap.get? a = some o)
    (st : ∀ q ∈ zs, Sit q.1 s.heap q.2.1 q.2.2 k) (sr : ∀ q ∈ zs, Src q.1 s.heap q.2.2 (f q)) (hk : ∀ q ∈ zs, k < (f q).size) (hl : zs.length ≤ sizeLine)
    (q : ∀ g0 g, Heap.SameBut z s.heap g0 → ZRec g0 z I T (rawInt a) (.bool true) → ZMid (fun _ => False) { s with heap := g0 } zs f k zs [] g → Q (.ref g.objs.size) { s with heap := g.push { cls := .type "tuple", data := .seq (rowZ f k zs).toArray } }) :
    wpAny (model prog w) A (Builtin.«zip.__next__» ⟨[.ref z], []⟩) (fun r s' => ∃ o, r = .done (.ret o) ∧ Q o s') E s := by
  show wpAny _ _ (field (.ref z) 2 >>= _) _ _ _; refine wpAny_bind (wpAny_field hz rfl (x := .bool false) rfl ?_)
  show wpAny _ _ (field (.ref z) 3 >>= _) _ _ _; refine wpAny_bind (wpAny_field hz rfl (x := .ref I) rfl (wpAny_bind (wpAny_seqItems hI rfl ?_)))
  have he : (zs.map fun q => (.ref q.2.1 : Value)).toArray.isEmpty = false := by
    cases zs with
    | nil => exact absurd rfl h0
    | cons => rfl
  simp only [he, Bool.false_eq_true, if_false]
  show wpAny _ _ (Builtin.SmallTypes.ownedTupleIsFree (.ref z) >>= _) _ _ _
  have free : ∀ {R : Bool → Shared → Prop}, (∀ g0, Heap.SameBut z s.heap g0 → ZRec g0 z I T (rawInt a) (.bool true) → R false { s with heap := g0 }) → wpAny (model prog w) A (Builtin.SmallTypes.ownedTupleIsFree (.ref z)) R E s := fun {R} hR => by
    unfold Builtin.SmallTypes.ownedTupleIsFree
    refine wpAny_bind (wpAny_field hz rfl (x := rawInt a) rfl ?_)
    refine wpAny_bind (wpAny_lia ?_)
    obtain ⟨o, ho⟩ := ha
    have ho' : s.heap.get? (Int.toNat (a : Int)) = some o := ho
    rw [ho']
    simp only [Option.isNone_some, Bool.false_eq_true, if_false]
    refine wpAny_bind (wpAny_field hz rfl (x := .bool f1) rfl ?_)
    cases f1 with
    | true =>
      simp only [bne_self_eq_false, Bool.false_eq_true, if_false]
      exact wpAny_pure (hR s.heap (Heap.SameBut.refl ..) hz)
    | false =>
      have e : ((Value.bool false) != (Value.bool true)) = true := by decide
      simp only [e, if_true]
      exact wpAny_bind (wpAny_setField_rec hz (by simp) fun g1 z1 e1 => wpAny_pure (hR g1 e1 z1))
  refine wpAny_bind (free fun g0 e0 z0 => ?_)
  simp only [Bool.false_eq_true, if_false]
  have st0 : ∀ q ∈ zs, Sit q.1 g0 q.2.1 q.2.2 k := fun q m => (st q m).ext e0.extBut (D.it q m).1
  have sr0 : ∀ q ∈ zs, Src q.1 g0 q.2.2 (f q) := fun q m => (sr q m).ext e0.extBut (D.src q m).1
  refine wpAny_bind (MeetsSeq2.wpAny_forIn_array _ (fun rest b s' => ∃ ds es g, s' = { s with heap := g } ∧ rest = es.map (fun q : Zs => (.ref q.2.1 : Value)) ∧ b.1 = none ∧ b.2.toList = rowZ f k ds ∧ ZMid (fun _ => False) { s with heap := g0 } zs f k ds es g) _ ?_ ?_ _ _ ⟨[], zs, g0, rfl, by simp, rfl, rfl, .start (s := { s with heap := g0 }) st0⟩)
  · rintro x rest b s' ⟨ds, es, g, rfl, er, eb1, eb, M⟩
    cases es with
    | nil => cases er
    | cons p es =>
      cases er
      have mp : p ∈ zs := by rw [M.all]; simp
      refine wpAny_bind (wpAny_holding (wpAny_bind (nx_item (s := { s with heap := g }) (M.is p (List.mem_cons_self ..)) (M.src D (fun _ y => y.elim) sr0 mp) (get_row (hk p mp)) fun g' a e => wpAny_pure ?_)))
      refine wpAny_pure ⟨ds ++ [p], es, g', rfl, rfl, rfl, ?_, M.next D a e⟩
      show (b.2.push _).toList = _
      rw [Array.toList_push, eb, rowZ_app]
      rfl
  · rintro b s' ⟨ds, es, g, rfl, er, eb1, eb, M⟩
    have e0' : es = [] := es_nil er
    subst e0'
    have ed : zs = ds := by rw [M.all]; simp
    subst ed
    rw [eb1]
    have hlen : b.2.toList.length ≤ sizeLine := by rw [eb, rowZ_length]; exact hl
    show wpAny _ _ (newTuple b.2.toList >>= _) _ _ _
    refine wpAny_bind (wpAny_newTuple ?_ hlen)
    rw [eb]
    exact wpAny_pure ⟨_, rfl, q g0 g e0 z0 M⟩
/-- the next row, in the tuple of its own -/
theorem za_item {Q : Value → Shared → Prop} {f0 f1 : Value} {old : List Value} (hf : f0 = .none ∨ ∃ a : Nat, f0 = rawInt a ∧ s.heap.get? a = none) (D : ZAp z I T zs) (h0 : zs ≠ []) (hz : ZRec s.heap z I T f0 f1) (hI : ZTup s.heap I (zs.map fun q => .ref q.2.1)) (hT : ZTup s.heap T old) (hold : old.length = zs.length)
    (st : ∀ q ∈ zs, Sit q.1 s.heap q.2.1 q.2.2 k) (sr : ∀ q ∈ zs, Src q.1 s.heap q.2.2 (f q)) (hk : ∀ q ∈ zs, k < (f q).size) (hl : zs.length ≤ sizeLine)
    (q : ∀ g0 g g2, Heap.SameBut z s.heap g0 → ZMid (fun c => c = T) { s with heap := g0 } zs f k zs [] g → ZRec g z I T .ellipsis f1 → ZTup g T (rowZ f k zs) → Heap.SameBut z (g.push { cls := .type "tuple", data := .seq (rowZ f k zs).toArray }) g2 → ZRec g2 z I T (rawInt g.objs.size) (.bool false) → Q (.ref g.objs.size) { s with heap := g2 }) :
    wpAny (model prog w) A (Builtin.«zip.__next__» ⟨[.ref z], []⟩) (fun r s' => ∃ o, r = .done (.ret o) ∧ Q o s') E s := by
  show wpAny _ _ (field (.ref z) 2 >>= _) _ _ _; refine wpAny_bind (wpAny_field hz rfl (x := .bool false) rfl ?_)
  show wpAny _ _ (field (.ref z) 3 >>= _) _ _ _; refine wpAny_bind (wpAny_field hz rfl (x := .ref I) rfl (wpAny_bind (wpAny_seqItems hI rfl ?_)))
  have he : (zs.map fun q => (.ref q.2.1 : Value)).toArray.isEmpty = false := by
    cases zs with
    | nil => exact absurd rfl h0
    | cons => rfl
  simp only [he, Bool.false_eq_true, if_false]
  show wpAny _ _ (Builtin.SmallTypes.ownedTupleIsFree (.ref z) >>= _) _ _ _
  have free : ∀ {R : Bool → Shared → Prop}, R true s → wpAny (model prog w) A (Builtin.SmallTypes.ownedTupleIsFree (.ref z)) R E s := fun {R} hR => by
    unfold Builtin.SmallTypes.ownedTupleIsFree
    rcases hf with rfl | ⟨a, rfl, ha⟩
    · exact wpAny_bind (wpAny_field hz rfl (x := .none) rfl (wpAny_pure hR))
    · refine wpAny_bind (wpAny_field hz rfl (x := rawInt a) rfl ?_)
      refine wpAny_bind (wpAny_lia ?_)
      have ho' : s.heap.get? (Int.toNat (a : Int)) = none := ha
      rw [ho']
      exact wpAny_pure hR
  refine wpAny_bind (free ?_)
  simp only [if_true]
  refine wpAny_bind (wpAny_rule (wpAny_bind (wpAny_field hz rfl (x := .ref T) rfl (wpAny_bind (wpAny_setField_rec hz (by simp) fun g0 z0 e0 => ?_)))))
  have z0 : ZRec g0 z I T .ellipsis f1 := z0
  have st0 : ∀ q ∈ zs, Sit q.1 g0 q.2.1 q.2.2 k := fun q m => (st q m).ext e0.extBut (D.it q m).1
  have sr0 : ∀ q ∈ zs, Src q.1 g0 q.2.2 (f q) := fun q m => (sr q m).ext e0.extBut (D.src q m).1
  have T0 : ZTup g0 T old := e0.extBut _ _ D.Tz hT
  refine wpAny_bind (wpAny_forIn_list _ (fun rest b s' => ∃ ds es g, s' = { s with heap := g } ∧ rest = (es.map (fun q : Zs => (.ref q.2.1 : Value))).zipIdx ds.length ∧ b.1 = none ∧ ZMid (fun c => c = T) { s with heap := g0 } zs f k ds es g ∧ ZTup g T (rowZ f k ds ++ old.drop ds.length)) _ ?_ ?_ _ _ ⟨[], zs, g0, rfl, by simp, rfl, .start (s := { s with heap := g0 }) st0, T0⟩)
  · rintro x rest b s' ⟨ds, es, g, rfl, er, eb1, M, hT1⟩
    cases es with
    | nil => cases er
    | cons p es =>
      rw [List.map_cons, List.zipIdx_cons] at er
      cases er
      have mp : p ∈ zs := by rw [M.all]; simp
      have hlt : ds.length < old.length := by rw [hold, M.all]; simp
      refine wpAny_bind (wpAny_onRaise ?_)
      refine wpAny_bind (nx_item (s := { s with heap := g }) (M.is p (List.mem_cons_self ..)) (M.src D (fun _ y => y) sr0 mp) (get_row (hk p mp)) fun g' a e => wpAny_pure ?_)
      have hT2 : ZTup g' T (rowZ f k ds ++ old.drop ds.length) := e.extBut _ _ (D.it p mp).2.2.symm hT1
      have hlen : (rowZ f k ds ++ old.drop ds.length).length = zs.length := by
        rw [List.length_append, rowZ_length, List.length_drop]
        omega
      refine wpAny_bind (wpAny_seqItems hT2 rfl (wpAny_bind (wpAny_updateSeq hT2 rfl ?_ (hz := by rw [List.size_toArray, hlen]; exact hl) (_hz' := by rw [Array.size_setIfInBounds, List.size_toArray, hlen]; omega))))
      refine wpAny_bind (wpAny_letGo (wpAny_pure ⟨ds ++ [p], es, _, rfl, by simp, rfl, (M.next D a e).upd D rfl (Heap.SameBut.update ..), ?_⟩))
      show Heap.get? _ _ = _
      rw [Heap.get?_update_self _ hT2 rfl]
      have : ((rowZ f k ds ++ old.drop ds.length).toArray.setIfInBounds ds.length ((f p).getD k .none)) = (rowZ f k (ds ++ [p]) ++ old.drop (ds ++ [p]).length).toArray := by
        rw [List.setIfInBounds_toArray]
        congr 1
        rw [List.set_append_right _ _ (by rw [rowZ_length]; exact Nat.le_refl _), rowZ_length, Nat.sub_self, rowZ_app]
        rw [show (old.drop ds.length).set 0 ((f p).getD k .none) = (f p).getD k .none :: old.drop (ds.length + 1) by rw [List.drop_eq_getElem_cons hlt]; rfl]
        simp [rowZ]
      rw [← this]
      simp [Obj.mapSeq]
  · rintro b s' ⟨ds, es, g, rfl, er, eb1, M, hT1⟩
    have e0' : es = [] := by
      cases es with
      | nil => rfl
      | cons => simp at er
    subst e0'
    have ed : zs = ds := by rw [M.all]; simp
    subst ed
    rw [eb1]
    have hT3 : ZTup g T (rowZ f k zs) := by
      have : rowZ f k zs ++ old.drop zs.length = rowZ f k zs := by rw [← hold, List.drop_length, List.append_nil]
      rw [← this]; exact hT1
    have z3 : ZRec g z I T .ellipsis f1 := M.keep.2 _ _ (fun y => D.Tz y.symm) (fun q m y => (D.it q m).1 y.symm) z0
    show wpAny _ _ (seqItems? (.ref T) >>= _) _ _ _
    refine wpAny_bind (wpAny_seqItems hT3 rfl ?_)
    refine wpAny_bind (wpAny_newTuple ?_ (by rw [List.toList_toArray, rowZ_length]; exact hl))
    show wpAny _ _ (Builtin.SmallTypes.ownedTupleHandOut (.ref z) (.ref g.objs.size) >>= _) _ _ _; unfold Builtin.SmallTypes.ownedTupleHandOut
    have z6 : ZRec (g.push { cls := .type "tuple", data := .seq (rowZ f k zs).toArray }) z I T .ellipsis f1 := Heap.get?_push_of_some _ z3
    refine wpAny_bind (wpAny_bind (wpAny_setField_rec z6 (by simp) fun g7 z7 e7 => ?_))
    have z7 : ZRec g7 z I T (rawInt g.objs.size) f1 := z7
    refine wpAny_setField_rec z7 (by simp) fun g8 z8 e8 => ?_
    have z8 : ZRec g8 z I T (rawInt g.objs.size) (.bool false) := z8
    exact wpAny_pure ⟨_, rfl, q g0 g g8 e0 M z3 hT3 (e7.trans e8) z8⟩
/-- the end: the first has no more -/
theorem zb_end {Q : PySem.Fin → Shared → Prop} {f0 f1 : Value} (hh : A.handled = none) (hf : f0 = .none ∨ ∃ a : Nat, f0 = rawInt a) (hf1 : ∃ b, f1 = .bool b) (D : ZAp z I T zs) (h0 : zs ≠ []) (hz : ZRec s.heap z I T f0 f1) (hI : ZTup s.heap I (zs.map fun q => .ref q.2.1))
    (st : ∀ q ∈ zs, Sit q.1 s.heap q.2.1 q.2.2 k) (sr : ∀ q ∈ zs, Src q.1 s.heap q.2.2 (f q)) (hk : ∀ q ∈ zs, (f q).size = k)
    (q : ∀ g e, (∀ c o, c ≠ z → (∀ q ∈ zs, c ≠ q.2.1) → s.heap.get? c = some o → g.get? c = some o) → (∃ o, g.get? e = some o ∧ o.cls = .type "StopIteration") → E (.ref e) { s with heap := g }) :
    wpAny (model prog w) A (Builtin.«zip.__next__» ⟨[.ref z], []⟩) Q E s := by
  show wpAny _ _ (field (.ref z) 2 >>= _) _ _ _; refine wpAny_bind (wpAny_field hz rfl (x := .bool false) rfl ?_)
  show wpAny _ _ (field (.ref z) 3 >>= _) _ _ _; refine wpAny_bind (wpAny_field hz rfl (x := .ref I) rfl (wpAny_bind (wpAny_seqItems hI rfl ?_)))
  have he : (zs.map fun q => (.ref q.2.1 : Value)).toArray.isEmpty = false := by
    cases zs with
    | nil => exact absurd rfl h0
    | cons => rfl
  simp only [he, Bool.false_eq_true, if_false]
  show wpAny _ _ (Builtin.SmallTypes.ownedTupleIsFree (.ref z) >>= _) _ _ _
  have free : ∀ {R : Bool → Shared → Prop}, (∀ g0 b f1', Heap.SameBut z s.heap g0 → ZRec g0 z I T f0 f1' → R b { s with heap := g0 }) → wpAny (model prog w) A (Builtin.SmallTypes.ownedTupleIsFree (.ref z)) R E s := fun {R} hR => by
    unfold Builtin.SmallTypes.ownedTupleIsFree
    obtain ⟨b1, rfl⟩ := hf1
    rcases hf with rfl | ⟨a, rfl⟩
    · exact wpAny_bind (wpAny_field hz rfl (x := .none) rfl (wpAny_pure (hR s.heap _ _ (Heap.SameBut.refl ..) hz)))
    · refine wpAny_bind (wpAny_field hz rfl (x := rawInt a) rfl ?_)
      refine wpAny_bind (wpAny_lia ?_)
      cases ho : s.heap.get? (Int.toNat (a : Int)) with
      | none => exact wpAny_pure (hR s.heap _ _ (Heap.SameBut.refl ..) hz)
      | some o =>
        simp only [Option.isNone_some, Bool.false_eq_true, if_false]
        refine wpAny_bind (wpAny_field hz rfl (x := .bool b1) rfl ?_)
        cases b1 with
        | true =>
          simp only [bne_self_eq_false, Bool.false_eq_true, if_false]
          exact wpAny_pure (hR s.heap _ _ (Heap.SameBut.refl ..) hz)
        | false =>
          have e : ((Value.bool false) != (Value.bool true)) = true := by decide
          simp only [e, if_true]
          exact wpAny_bind (wpAny_setField_rec hz (by simp) fun g1 z1 e1 => wpAny_pure (hR g1 _ _ e1 z1))
  refine wpAny_bind (free fun g0 b f1' e0 z0 => ?_)
  have st0 : ∀ q ∈ zs, Sit q.1 g0 q.2.1 q.2.2 k := fun q m => (st q m).ext e0.extBut (D.it q m).1
  have sr0 : ∀ q ∈ zs, Src q.1 g0 q.2.2 (f q) := fun q m => (sr q m).ext e0.extBut (D.src q m).1
  cases b with
  | false =>
    simp only [Bool.false_eq_true, if_false]
    refine wpAny_bind (MeetsSeq2.wpAny_forIn_array _ (fun rest b s' => s' = { s with heap := g0 } ∧ rest = zs.map (fun q : Zs => (.ref q.2.1 : Value))) _ ?_ ?_ _ _ ⟨rfl, by simp⟩)
    · rintro x rest b s' ⟨rfl, er⟩
      cases zs with
      | nil => cases er
      | cons p es =>
        cases er
        have mp : p ∈ p :: es := List.mem_cons_self ..
        refine wpAny_bind (wpAny_holding (wpAny_bind (nx_end (s := { s with heap := g0 }) hh (st0 p mp) (sr0 p mp) (Array.getElem?_eq_none (by rw [hk p mp]; exact Nat.le_refl _)) fun g' e ex hs => ?_)))
        exact q g' e (fun c o n1 n2 h => ex _ _ (n2 p mp) (e0.extBut _ _ n1 h)) hs
    · rintro b s' ⟨rfl, er⟩
      exact absurd (es_nil er) h0
  | true =>
    simp only [if_true]
    refine wpAny_bind (wpAny_rule (wpAny_bind (wpAny_field z0 rfl (x := .ref T) rfl (wpAny_bind (wpAny_setField_rec z0 (by simp) fun g1 z1 e1 => ?_)))))
    have z1 : ZRec g1 z I T .ellipsis f1' := z1
    have st1 : ∀ q ∈ zs, Sit q.1 g1 q.2.1 q.2.2 k := fun q m => (st0 q m).ext e1.extBut (D.it q m).1
    have sr1 : ∀ q ∈ zs, Src q.1 g1 q.2.2 (f q) := fun q m => (sr0 q m).ext e1.extBut (D.src q m).1
    refine wpAny_bind (wpAny_forIn_list _ (fun rest b s' => s' = { s with heap := g1 } ∧ rest = (zs.map (fun q : Zs => (.ref q.2.1 : Value))).zipIdx 0) _ ?_ ?_ _ _ ⟨rfl, by simp⟩)
    · rintro x rest b s' ⟨rfl, er⟩
      cases zs with
      | nil => cases er
      | cons p es =>
        rw [List.map_cons, List.zipIdx_cons] at er
        cases er
        have mp : p ∈ p :: es := List.mem_cons_self ..
        refine wpAny_bind (wpAny_onRaise ?_)
        refine wpAny_bind (nx_end (s := { s with heap := g1 }) hh (st1 p mp) (sr1 p mp) (Array.getElem?_eq_none (by rw [hk p mp]; exact Nat.le_refl _)) fun g2 e ex hs => ?_)
        obtain ⟨oe, h1, h2⟩ := hs
        have z2 : ZRec g2 z I T .ellipsis f1' := ex _ _ (D.it p mp).1.symm z1
        have ez : e ≠ z := fun r => by subst r; rw [z2] at h1; cases h1; simp at h2
        exact wpAny_setField_rec z2 (by simp) fun g3 _ e3 => q g3 e (fun c o n1 n2 r => e3.extBut _ _ n1 (ex _ _ (n2 p mp) (e1.extBut _ _ n1 (e0.extBut _ _ n1 r)))) ⟨oe, e3.extBut _ _ ez h1, h2⟩
    · rintro b s' ⟨rfl, er⟩
      cases zs with
      | nil => exact absurd rfl h0
      | cons => simp at er
end
/-! its turns -/
def ItzR (K : PySem.W.Frag) (srcs : List (Bool × Addr)) : It :=
  ⟨fun i H => ∃ ρ : Bool × Addr → List V, ∀ q ∈ srcs, Sq q.1 K H q.2 (ρ q) ∧ i < (ρ q).length,
    fun i H v H' => ∃ (T : Addr) (row : List V), v = .ref T ∧ H T = none ∧ H' = upd H T (.tup row) ∧ ∀ ρ : Bool × Addr → List V, (∀ q ∈ srcs, Sq q.1 K H q.2 (ρ q)) → row.map some = srcs.map fun q => (ρ q)[i]?,
    fun i H => ∃ ρ : Bool × Addr → List V, ∀ q ∈ srcs, Sq q.1 K H q.2 (ρ q) ∧ (ρ q).length = i⟩
/-- the zip stands at i -/
structure ZTn (z I T : Addr) (zs : List Zs) (i : Nat) (h : Heap) : Prop where
  rec_ : ∃ f0 f1 : Value, (f0 = .none ∨ ∃ a : Nat, f0 = rawInt a) ∧ (∃ b, f1 = .bool b) ∧ ZRec h z I T f0 f1
  its : ZTup h I (zs.map fun q => .ref q.2.1)
  tup : ∃ old, ZTup h T old ∧ old.length = zs.length
  sit : ∀ q ∈ zs, Sit q.1 h q.2.1 q.2.2 i
theorem ZTn.to {z I T : Addr} {zs : List Zs} {i : Nat} {h h' : Heap} (t : ZTn z I T zs i h) (kz : ∀ o, h.get? z = some o → h'.get? z = some o) (kI : ∀ o, h.get? I = some o → h'.get? I = some o) (kT : ∀ o, h.get? T = some o → h'.get? T = some o) (ki : ∀ q ∈ zs, ∀ o, h.get? q.2.1 = some o → h'.get? q.2.1 = some o) : ZTn z I T zs i h' := by
  obtain ⟨⟨f0, f1, a, b, hz⟩, hI, ⟨old, hT, hl⟩, st⟩ := t
  exact ⟨⟨f0, f1, a, b, kz _ hz⟩, kI _ hI, ⟨old, kT _ hT, hl⟩, fun q m => (st q m).to (ki q m)⟩
def zfp (z I T : Addr) (zs : List Zs) : List Addr := z :: I :: T :: zs.map (·.2.1)
theorem mem_zfp {z I T c : Addr} {zs : List Zs} (h : c ∈ zfp z I T zs) : c = z ∨ c = I ∨ c = T ∨ ∃ q ∈ zs, c = q.2.1 := by
  unfold zfp at h
  simp only [List.mem_cons, List.mem_map] at h
  rcases h with h | h | h | ⟨q, m, e⟩
  · exact .inl h
  · exact .inr (.inl h)
  · exact .inr (.inr (.inl h))
  · exact .inr (.inr (.inr ⟨q, m, e.symm⟩))
theorem vals_row {f : Zs → Array Value} {k : Nat} {g : Zs → V} : ∀ {zs : List Zs}, (∀ q ∈ zs, ∃ u, (f q)[k]? = some u ∧ RelV (g q) u) → Vals (zs.map g) (rowZ f k zs)
  | [], _ => .nil
  | q :: zs, h => by
    obtain ⟨u, e, r⟩ := h q (List.mem_cons_self ..)
    have : (f q).getD k .none = u := by simp [Array.getD_eq_getD_getElem?, e]
    refine .cons ?_ (vals_row fun p m => h p (List.mem_cons_of_mem _ m))
    show RelV (g q) ((f q).getD k .none)
    rw [this]
    exact r
theorem turn_zipR {P : Program} {w : World} {K : PySem.W.Frag} {x : Str} {tpos : Pos} {z I T : Addr} {zs : List Zs} (D : ZAp z I T zs) (h0 : zs ≠ []) (hl : zs.length ≤ sizeLine) :
    Turn P w K (.Name x tpos) (ItzR K (zs.map fun q => (q.1, q.2.2))) (zfp z I T zs) z (ZTn z I T zs) where
  mem := by simp [zfp]
  obj := fun n h st c hc => by
    obtain ⟨⟨f0, f1, a, b, hz⟩, hI, ⟨old, hT, _⟩, si⟩ := st
    rcases mem_zfp hc with rfl | rfl | rfl | ⟨q, m, rfl⟩
    · exact ⟨_, hz, fun v q => nomatch q⟩
    · exact ⟨_, hI, fun v q => nomatch q⟩
    · exact ⟨_, hT, fun v q => nomatch q⟩
    · exact (si q m).lives
  keep := fun n h h' st k => st.to (fun o e => k z (by simp [zfp]) o e) (fun o e => k I (by simp [zfp]) o e) (fun o e => k T (by simp [zfp]) o e) fun q m o e => k _ (by simp only [zfp, List.mem_cons, List.mem_map]; exact .inr (.inr (.inr ⟨q, m, rfl⟩))) o e
  item := by
    intro X hP hw hK hc n pins s σ H E J hf st hg
    subst hP hw hK
    obtain ⟨⟨f0, f1, hf0, hf1, hz⟩, hI, ⟨old, hT, hlo⟩, si⟩ := st
    obtain ⟨ρ, hρ⟩ := hg
    have src : ∀ q ∈ zs, ∃ its, Vals (ρ (q.1, q.2.2)) its ∧ Src q.1 s.heap q.2.2 its.toArray ∧ n < (ρ (q.1, q.2.2)).length := fun q m => by
      obtain ⟨h1, h2⟩ := hρ (q.1, q.2.2) (List.mem_map.mpr ⟨q, m, rfl⟩)
      obtain ⟨its, v, p, _⟩ := sq_src J h1
      exact ⟨its, v, p, h2⟩
    let fi : Zs → List Value := fun q => if h : q ∈ zs then (src q h).choose else []
    have hfi : ∀ q ∈ zs, Vals (ρ (q.1, q.2.2)) (fi q) ∧ Src q.1 s.heap q.2.2 (fi q).toArray ∧ n < (ρ (q.1, q.2.2)).length := fun q m => by
      show Vals _ (if h : q ∈ zs then (src q h).choose else []) ∧ Src _ _ _ (List.toArray (if h : q ∈ zs then (src q h).choose else [])) ∧ _
      rw [dif_pos m]
      exact (src q m).choose_spec
    have sr : ∀ q ∈ zs, Src q.1 s.heap q.2.2 ((fun q => (fi q).toArray) q) := fun q m => (hfi q m).2.1
    have hk : ∀ q ∈ zs, n < ((fun q => (fi q).toArray) q).size := fun q m => by
      have := (hfi q m).1.length
      have := (hfi q m).2.2
      show n < (fi q).toArray.size
      rw [List.size_toArray]
      omega
    have zl : z < s.heap.objs.size := Heap.lt_size hz
    let row : List V := zs.map fun q => (ρ (q.1, q.2.2)).getD n .non
    have vr : Vals row (rowZ (fun q => (fi q).toArray) n zs) := vals_row fun q m => by
      have hn := (hfi q m).2.2
      obtain ⟨u, hu, r⟩ := (hfi q m).1.get (List.getElem?_eq_getElem hn)
      refine ⟨u, by simpa using hu, ?_⟩
      rw [List.getD_eq_getElem?_getD, List.getElem?_eq_getElem hn]
      exact r
    have yld : ∀ ρ' : Bool × Addr → List V, (∀ q ∈ zs.map (fun q : Zs => (q.1, q.2.2)), Sq q.1 X.K H q.2 (ρ' q)) → row.map some = (zs.map fun q : Zs => (q.1, q.2.2)).map fun q => (ρ' q)[n]? := fun ρ' h' => by
      show (zs.map _).map some = _
      rw [List.map_map, List.map_map]
      apply List.map_congr_left
      intro q m
      have mq : (q.1, q.2.2) ∈ zs.map (fun q : Zs => (q.1, q.2.2)) := List.mem_map.mpr ⟨q, m, rfl⟩
      have e := sq_inj J (h' _ mq) (hρ _ mq).1
      have hn := (hρ _ mq).2
      show some ((ρ (q.1, q.2.2)).getD n .non) = (ρ' (q.1, q.2.2))[n]?
      rw [e, List.getD_eq_getElem?_getD, List.getElem?_eq_getElem hn]
      rfl
    -- what both ways come to
    have fin : ∀ (a : Addr) (g : Heap), a = s.heap.objs.size → (∀ c o, c ∉ zfp z I T zs → s.heap.get? c = some o → g.get? c = some o) → g.get? a = some { cls := .type "tuple", data := .seq (rowZ (fun q => (fi q).toArray) n zs).toArray } → ZTn z I T zs (n + 1) g →
        ∃ x H', Inv X pins σ H' { s with heap := g } ∧ RelV x (Value.ref a) ∧ (ItzR X.K (zs.map fun q => (q.1, q.2.2))).yld n H x H' ∧ ZTn z I T zs (n + 1) g ∧ ∀ b ∈ zfp z I T zs, H' b = none := fun a g ea kp pT tn => by
      subst ea
      have new : ObjOk X.prog X.w (upd H s.heap.objs.size (.tup row)) g s.heap.objs.size (.tup row) := ⟨by show row.length ≤ sizeLine; rw [List.length_map]; exact hl, _, vr, ⟨_, pT, rfl, _, rfl⟩⟩
      have J1 : Inv X pins σ (upd H s.heap.objs.size (.tup row)) { s with heap := g } := J.turnedNew (t' := s.toks) (ch := zfp z I T zs) kp hf (Nat.le_refl _) new
      refine ⟨.ref s.heap.objs.size, _, J1, rfl, ⟨_, row, rfl, J.hok.fresh (Nat.le_refl _), rfl, yld⟩, tn, fun c hm => ?_⟩
      have lt : c < s.heap.objs.size := by
        rcases mem_zfp hm with rfl | rfl | rfl | ⟨q, m, rfl⟩
        · exact zl
        · exact Heap.lt_size hI
        · exact Heap.lt_size hT
        · obtain ⟨_, e, _⟩ := (si q m).lives; exact Heap.lt_size e
      rw [upd_ne (Nat.ne_of_lt lt)]
      exact (hf c hm).1
    have ty : s.TypeIs (.ref z) "zip" := ⟨_, hz, rfl⟩
    -- the tuple of its own
    have wayA : (f0 = .none ∨ ∃ a : Nat, f0 = rawInt a ∧ s.heap.get? a = none) → wpAny (model X.prog X.w) X.A (pyNext (.ref z)) (fun r s1 => ∃ u, r = some u ∧
      wpAny (model X.prog X.w) X.A (letOwnedTupleGo (.Name x tpos) (.ref z) u) (fun _ s2 => ∃ x H', Inv X pins σ H' s2 ∧ RelV x u ∧ (ItzR X.K (zs.map fun q => (q.1, q.2.2))).yld n H x H' ∧ ZTn z I T zs (n + 1) s2.heap ∧ ∀ b ∈ zfp z I T zs, H' b = none) E s1) E s := fun hfr => by
      unfold pyNext
      refine wpAny_bind (wpAny_attempt (wpAny_callSpecial?_slot (name := Str.ofString "__next__") ty F.slot_zip_next (wpAny_call_entry F.slot_zip_next ty F.entry_zip_next ?_ (F.args_zip_next_1 _))))
      refine za_item hfr D h0 hz hI hT hlo si sr hk hl fun g0 g g2 e0 M z3 T3 e2 z2 => wpAny_pure ⟨_, rfl, wpAny_pure ?_⟩
      have sz : g.objs.size = s.heap.objs.size := by rw [M.keep.1]; exact e0.1
      have zlg : z < g.objs.size := by rw [sz]; exact zl
      have up : ∀ c o, c ≠ z → g.get? c = some o → g2.get? c = some o := fun c o n1 h => e2.extBut _ _ n1 (Heap.get?_push_of_some _ h)
      have kp : ∀ c o, c ∉ zfp z I T zs → s.heap.get? c = some o → g2.get? c = some o := fun c o nm h => by
        have n1 : c ≠ z := fun y => nm (by rw [y]; simp [zfp])
        refine up c o n1 (M.keep.2 c o (fun y => nm (by rw [y]; simp [zfp])) (fun q m y => nm (by rw [y]; simp only [zfp, List.mem_cons, List.mem_map]; exact .inr (.inr (.inr ⟨q, m, rfl⟩)))) (e0.extBut _ _ n1 h))
      refine fin _ g2 sz kp (e2.extBut _ _ (Nat.ne_of_gt zlg) (Heap.get?_push_size _ rfl)) ⟨⟨_, _, .inr ⟨_, rfl⟩, ⟨_, rfl⟩, z2⟩, ?_, ⟨_, up _ _ D.Tz T3, rowZ_length⟩, fun q m => (M.was q m).to fun o h => up _ o (D.it q m).1 h⟩
      exact up _ _ D.Iz (M.keep.2 I _ D.IT (fun q m y => (D.it q m).2.1 y.symm) (e0.extBut _ _ D.Iz hI))
    rcases hf0 with rfl | ⟨a, rfl⟩
    · exact wayA (.inl rfl)
    · cases ha : s.heap.get? a with
      | none => exact wayA (.inr ⟨a, rfl, ha⟩)
      | some oa =>
        obtain ⟨b1, rfl⟩ := hf1
        unfold pyNext
        refine wpAny_bind (wpAny_attempt (wpAny_callSpecial?_slot (name := Str.ofString "__next__") ty F.slot_zip_next (wpAny_call_entry F.slot_zip_next ty F.entry_zip_next ?_ (F.args_zip_next_1 _))))
        refine zb_item D h0 hz hI ⟨oa, ha⟩ si sr hk hl fun g0 g e0 z0 M => wpAny_pure ⟨_, rfl, wpAny_pure ?_⟩
        have sz : g.objs.size = s.heap.objs.size := by rw [M.keep.1]; exact e0.1
        have kp : ∀ c o, c ∉ zfp z I T zs → s.heap.get? c = some o → (g.push { cls := .type "tuple", data := .seq (rowZ (fun q => (fi q).toArray) n zs).toArray }).get? c = some o := fun c o nm h => by
          have n1 : c ≠ z := fun y => nm (by rw [y]; simp [zfp])
          exact Heap.get?_push_of_some _ (M.keep.2 c o (fun y => y) (fun q m y => nm (by rw [y]; simp only [zfp, List.mem_cons, List.mem_map]; exact .inr (.inr (.inr ⟨q, m, rfl⟩)))) (e0.extBut _ _ n1 h))
        have kI : ∀ c o, c ≠ z → (∀ q ∈ zs, c ≠ q.2.1) → s.heap.get? c = some o → (g.push { cls := .type "tuple", data := .seq (rowZ (fun q => (fi q).toArray) n zs).toArray }).get? c = some o := fun c o n1 n2 h => Heap.get?_push_of_some _ (M.keep.2 c o (fun y => y) n2 (e0.extBut _ _ n1 h))
        refine fin _ _ sz kp (Heap.get?_push_size _ rfl) ⟨⟨_, _, .inr ⟨_, rfl⟩, ⟨_, rfl⟩, Heap.get?_push_of_some _ (M.keep.2 z _ (fun y => y) (fun q m y => (D.it q m).1 y.symm) z0)⟩, kI _ _ D.Iz (fun q m y => (D.it q m).2.1 y.symm) hI, ⟨old, kI _ _ D.Tz (fun q m y => (D.it q m).2.2 y.symm) hT, hlo⟩, fun q m => (M.was q m).to fun o h => Heap.get?_push_of_some _ h⟩
  done := by
    intro X hP hw hK hc n pins s σ H E J hf st hg
    subst hP hw hK
    obtain ⟨⟨f0, f1, hf0, hf1, hz⟩, hI, ⟨old, hT, hlo⟩, si⟩ := st
    obtain ⟨ρ, hρ⟩ := hg
    have src : ∀ q ∈ zs, ∃ its, Vals (ρ (q.1, q.2.2)) its ∧ Src q.1 s.heap q.2.2 its.toArray ∧ (ρ (q.1, q.2.2)).length = n := fun q m => by
      obtain ⟨h1, h2⟩ := hρ (q.1, q.2.2) (List.mem_map.mpr ⟨q, m, rfl⟩)
      obtain ⟨its, v, p, _⟩ := sq_src J h1
      exact ⟨its, v, p, h2⟩
    let fi : Zs → List Value := fun q => if h : q ∈ zs then (src q h).choose else []
    have hfi : ∀ q ∈ zs, Vals (ρ (q.1, q.2.2)) (fi q) ∧ Src q.1 s.heap q.2.2 (fi q).toArray ∧ (ρ (q.1, q.2.2)).length = n := fun q m => by
      show Vals _ (if h : q ∈ zs then (src q h).choose else []) ∧ Src _ _ _ (List.toArray (if h : q ∈ zs then (src q h).choose else [])) ∧ _
      rw [dif_pos m]
      exact (src q m).choose_spec
    have sr : ∀ q ∈ zs, Src q.1 s.heap q.2.2 ((fun q => (fi q).toArray) q) := fun q m => (hfi q m).2.1
    have hk : ∀ q ∈ zs, ((fun q => (fi q).toArray) q).size = n := fun q m => by
      have := (hfi q m).1.length
      have := (hfi q m).2.2
      show (fi q).toArray.size = n
      rw [List.size_toArray]
      omega
    have ty : s.TypeIs (.ref z) "zip" := ⟨_, hz, rfl⟩
    unfold pyNext
    refine wpAny_bind (wpAny_attempt (wpAny_callSpecial?_slot (name := Str.ofString "__next__") ty F.slot_zip_next (wpAny_call_entry F.slot_zip_next ty F.entry_zip_next ?_ (F.args_zip_next_1 _))))
    refine zb_end (J.ok.hd hc) hf0 hf1 D h0 hz hI si sr hk fun g e kp hs => ?_
    obtain ⟨o, ho, hcl⟩ := hs
    refine wpAny_bind (wpAny_isInstance (T := "StopIteration") (b := true) ⟨o, ho, hcl⟩ isSubtype_stop (wpAny_pure ⟨rfl, ?_⟩))
    exact J.turnedL (t' := s.toks) (ch := zfp z I T zs) (fun c o nm h => kp c o (fun y => nm (by rw [y]; simp [zfp])) (fun q m y => nm (by rw [y]; simp only [zfp, List.mem_cons, List.mem_map]; exact .inr (.inr (.inr ⟨q, m, rfl⟩)))) h) hf
  self := fun A n s Q E st h => by
    obtain ⟨f0, f1, _, _, hz⟩ := st.rec_
    have ty : s.TypeIs (.ref z) "zip" := ⟨_, hz, rfl⟩
    refine wpAny_pyIter_slot ty F.slot_zip_iter (wpAny_call_entry F.slot_zip_iter ty F.entry_zip_iter ?_ (F.args_zip_iter_1 _))
    show wpAny _ _ (ret (.ref z)) _ _ s
    exact wpAny_pure ⟨_, rfl, "zip", _, ty, F.slot_zip_next.lookup, h⟩
/-! its making -/
def zsOf : Nat → List (Bool × Addr) → List Zs
  | _, [] => []
  | n, q :: r => (q.1, n, q.2) :: zsOf (n + 1) r
theorem zsOf_app : ∀ {n : Nat} {a b : List (Bool × Addr)}, zsOf n (a ++ b) = zsOf n a ++ zsOf (n + a.length) b
  | n, [], b => by simp [zsOf]
  | n, q :: a, b => by
    rw [List.cons_append, zsOf, zsOf, zsOf_app, List.length_cons, List.cons_append]
    rw [show n + 1 + a.length = n + (a.length + 1) by omega]
theorem zsOf_length : ∀ {n : Nat} {a : List (Bool × Addr)}, (zsOf n a).length = a.length
  | _, [] => rfl
  | n, q :: a => by simp [zsOf, zsOf_length]
theorem zsOf_mem : ∀ {n : Nat} {a : List (Bool × Addr)} {q : Zs}, q ∈ zsOf n a → ∃ i : Nat, q.2.1 = i ∧ n ≤ i ∧ i < n + a.length ∧ (q.1, q.2.2) ∈ a
  | n, [], q, h => by cases h
  | n, p :: a, q, h => by
    rw [zsOf] at h
    rcases List.mem_cons.mp h with h | h
    · subst h
      exact ⟨n, rfl, Nat.le_refl _, by simp, List.mem_cons_self ..⟩
    · obtain ⟨i, e, h1, h2, h3⟩ := zsOf_mem h
      exact ⟨i, e, by omega, by simp only [List.length_cons]; omega, List.mem_cons_of_mem _ h3⟩
theorem zsOf_nd : ∀ {n : Nat} {a : List (Bool × Addr)}, ((zsOf n a).map (·.2.1)).Nodup
  | n, [] => .nil
  | n, p :: a => by
    rw [zsOf, List.map_cons]
    refine List.nodup_cons.mpr ⟨fun h => ?_, zsOf_nd⟩
    obtain ⟨q, m, e⟩ := List.mem_map.mp h
    obtain ⟨i, e1, h1, _⟩ := zsOf_mem m
    have e2 : i = n := e1.symm.trans e
    omega
theorem zsOf_srcs : ∀ {n : Nat} {a : List (Bool × Addr)}, (zsOf n a).map (fun q => (q.1, q.2.2)) = a
  | n, [] => rfl
  | n, p :: a => by rw [zsOf, List.map_cons, zsOf_srcs]
theorem ne_nat {a b : Addr} {i j : Nat} (ha : a = i) (hb : b = j) (h : i ≠ j) : a ≠ b := fun e => h (ha.symm.trans (e.trans hb))
theorem zap_of {n : Nat} {srcs : List (Bool × Addr)} (h : ∀ q ∈ srcs, q.2 < n) : ZAp (n + srcs.length + 2) (n + srcs.length) (n + srcs.length + 1) (zsOf n srcs) where
  nd := zsOf_nd
  Iz := ne_nat rfl rfl (by omega)
  Tz := ne_nat rfl rfl (by omega)
  IT := ne_nat rfl rfl (by omega)
  it := fun q m => by
    obtain ⟨i, e, h1, h2, _⟩ := zsOf_mem m
    exact ⟨ne_nat e rfl (by omega), ne_nat e rfl (by omega), ne_nat e rfl (by omega)⟩
  src := fun q m => by
    obtain ⟨i, e, h1, h2, h3⟩ := zsOf_mem m
    have h4 : q.2.2 < n := h _ h3
    have h4 : ∀ j : Nat, n ≤ j → q.2.2 ≠ (j : Addr) := fun j hj e => Nat.lt_irrefl _ (Nat.lt_of_lt_of_le (by rw [← e]; exact h4) hj)
    refine ⟨h4 _ (by omega), h4 _ (by omega), fun p mp => ?_⟩
    obtain ⟨j, e2, g1, _⟩ := zsOf_mem mp
    rw [e2]
    exact h4 j g1
theorem newClass_zip (as : List Value) : Builtin.SmallTypes.newClass "zip" ⟨.type "zip" :: as, []⟩ = pure (.type "zip", as) := by
  have hsub := sub_zip
  unfold Builtin.SmallTypes.newClass
  simp only [hsub, show isType (.type "zip") = pure true by first | rfl | kernel_rfl | (unfold isType; rw [isSubtype_type]; kernel_rfl), pure_bind, Bool.not_true, Bool.false_eq_true, if_false]
section
variable {prog : Program} {w : World}
theorem it_new {A : Around} {E : Value → Shared → Prop} {s : Shared} {t : Bool} {l : Addr} {xs : Array Value} {R : Value → Shared → Prop} (h : Src t s.heap l xs) (hR : R (.ref s.heap.objs.size) { s with heap := s.heap.push (sitO t l) }) : wpAny (model prog w) A (pyIter (.ref l)) R E s := by
  cases t
  · exact wpAny_pyIter_list (show s.heap.IsList l xs from h) hR
  · exact wpAny_pyIter_tuple (show s.heap.IsTuple l xs from h) hR
theorem zr_new (srcs : List (Bool × Addr)) : MeetsIn prog w (Builtin.«zip.__new__» ⟨.type "zip" :: srcs.map (fun q => .ref q.2), []⟩) (fun _ R s => (∀ q ∈ srcs, ∃ xs, Src q.1 s.heap q.2 xs) ∧ srcs.length ≤ sizeLine ∧
    ∀ g, ZTn (s.heap.objs.size + srcs.length + 2) (s.heap.objs.size + srcs.length) (s.heap.objs.size + srcs.length + 1) (zsOf s.heap.objs.size srcs) 0 g → (∀ c o, s.heap.get? c = some o → g.get? c = some o) → R (.ok (.ret (.ref (s.heap.objs.size + srcs.length + 2)))) { s with heap := g }) :=
  .of_wp fun A R s h => by
    obtain ⟨hsrc, hl, h⟩ := h
    unfold Builtin.«zip.__new__»
    rw [newClass_zip, pure_bind]
    show wpAny _ _ (Builtin.SmallTypes.iterAll (srcs.map fun q => .ref q.2) >>= _) _ _ _
    unfold Builtin.SmallTypes.iterAll
    refine wpAny_bind (wpAny_bind (wpAny_forIn_list _ (fun rest (b : Array Value) s' => ∃ ds es g, s' = { s with heap := g } ∧ rest = es.map (fun q : Bool × Addr => (.ref q.2 : Value)) ∧ srcs = ds ++ es ∧ b.toList = (zsOf s.heap.objs.size ds).map (fun q => (.ref q.2.1 : Value)) ∧ g.objs.size = s.heap.objs.size + ds.length ∧
        (∀ q ∈ zsOf s.heap.objs.size ds, g.get? q.2.1 = some (sitO q.1 q.2.2)) ∧ ∀ c o, s.heap.get? c = some o → g.get? c = some o) _ ?_ ?_ _ _ ⟨[], srcs, s.heap, rfl, rfl, rfl, rfl, by simp, fun q m => (nomatch m), fun c o e => e⟩))
    · rintro x rest b s' ⟨ds, es, g, rfl, er, ea, eb, sz, si, kp⟩
      cases es with
      | nil => cases er
      | cons p es =>
        cases er
        obtain ⟨xs, hx⟩ := hsrc p (by rw [ea]; simp)
        have hx' : Src p.1 g p.2 xs := src_at hx fun o e => kp _ o e
        refine wpAny_bind (wpAny_holding (it_new (s := { s with heap := g }) hx' (wpAny_pure ⟨ds ++ [p], es, _, rfl, rfl, by rw [ea]; simp, ?_, by rw [Heap.size_push, sz]; simp [Nat.add_assoc], fun q m => ?_, fun c o e => Heap.get?_push_of_some _ (kp c o e)⟩)))
        · show (b.push _).toList = _
          rw [Array.toList_push, eb, zsOf_app, List.map_append]
          show _ ++ [Value.ref g.objs.size] = _ ++ [Value.ref (s.heap.objs.size + ds.length)]
          rw [sz]
        · rw [zsOf_app] at m
          rcases List.mem_append.mp m with m | m
          · exact Heap.get?_push_of_some _ (si q m)
          · rw [zsOf, zsOf] at m
            cases List.mem_singleton.mp m
            show Heap.get? _ (s.heap.objs.size + ds.length) = _
            rw [← sz]
            exact Heap.get?_push_size _ (sitO_live p.1 p.2)
    · rintro b s' ⟨ds, es, g, rfl, er, ea, eb, sz, si, kp⟩
      have e0 : es = [] := by
        cases es with
        | nil => rfl
        | cons => cases er
      subst e0
      rw [List.append_nil] at ea
      subst ea
      refine wpAny_pure ?_
      rw [eb]
      have hl1 : ((zsOf s.heap.objs.size srcs).map (fun q => (.ref q.2.1 : Value))).length ≤ sizeLine := by rw [List.length_map, zsOf_length]; exact hl
      have hl2 : (((zsOf s.heap.objs.size srcs).map (fun q => (.ref q.2.1 : Value))).map fun _ => Value.none).length ≤ sizeLine := by rw [List.length_map]; exact hl1
      show wpAny _ _ (newTuple ((zsOf s.heap.objs.size srcs).map fun q => (.ref q.2.1 : Value)) >>= _) _ _ _
      refine wpAny_bind (wpAny_newTuple ?_ hl1)
      refine wpAny_bind (wpAny_newTuple ?_ hl2)
      refine wpAny_bind ?_
      show wpAny _ _ (newObj (.type "zip") (.fields #[.none, .bool false, .bool false, .ref g.objs.size, .ref (g.push _).objs.size])) _ _ _
      refine wpAny_newObj_type (wpAny_pure ⟨_, rfl, ?_⟩)
      have s1 : ∀ o : Obj, (g.push o).objs.size = s.heap.objs.size + srcs.length + 1 := fun o => by rw [Heap.size_push, sz]
      have s2 : ∀ o o' : Obj, ((g.push o).push o').objs.size = s.heap.objs.size + srcs.length + 2 := fun o o' => by rw [Heap.size_push, s1]
      have old : ∀ (o o' o'' : Obj) c x, g.get? c = some x → (((g.push o).push o').push o'').get? c = some x := fun o o' o'' c x e => Heap.get?_push_of_some _ (Heap.get?_push_of_some _ (Heap.get?_push_of_some _ e))
      have aI : ∀ (o o' o'' : Obj), o.isFreed = false → (((g.push o).push o').push o'').get? (s.heap.objs.size + srcs.length) = some o := fun o o' o'' ho => Heap.get?_push_of_some _ (Heap.get?_push_of_some _ (by rw [← sz]; exact Heap.get?_push_size _ ho))
      have aT : ∀ (o o' o'' : Obj), o'.isFreed = false → (((g.push o).push o').push o'').get? (s.heap.objs.size + srcs.length + 1) = some o' := fun o o' o'' ho => Heap.get?_push_of_some _ (by rw [← s1 o]; exact Heap.get?_push_size _ ho)
      have aZ : ∀ (o o' o'' : Obj), o''.isFreed = false → (((g.push o).push o').push o'').get? (s.heap.objs.size + srcs.length + 2) = some o'' := fun o o' o'' ho => by rw [← s2 o o']; exact Heap.get?_push_size _ ho
      show R (.ok (.ret (.ref (Heap.push (Heap.push g _) _).objs.size))) _
      rw [s2]
      refine h _ ⟨⟨.none, .bool false, .inl rfl, ⟨_, rfl⟩, ?_⟩, ?_, ⟨((zsOf s.heap.objs.size srcs).map (fun q => (.ref q.2.1 : Value))).map fun _ => Value.none, ?_, by rw [List.length_map, List.length_map]⟩, fun q m => sit_new q.1 (old _ _ _ _ _ (si q m))⟩ fun c o e => old _ _ _ _ _ (kp c o e)
      · have z := aZ { cls := .type "tuple", data := .seq ((zsOf s.heap.objs.size srcs).map (fun q => (.ref q.2.1 : Value))).toArray } { cls := .type "tuple", data := .seq (((zsOf s.heap.objs.size srcs).map (fun q => (.ref q.2.1 : Value))).map fun _ => Value.none).toArray } { cls := .type "zip", data := .fields #[.none, .bool false, .bool false, .ref (s.heap.objs.size + srcs.length), .ref (s.heap.objs.size + srcs.length + 1)] } rfl
        rw [← sz] at z
        rw [sz] at z
        show Heap.get? _ _ = _
        rw [s1]
        rw [sz]
        exact z
      · exact aI _ _ _ rfl
      · exact aT _ _ _ rfl
end
end Pc

set_option Elab.async false
set_option maxRecDepth 100000
set_option maxHeartbeats 4000000
/-! Pe7: looks at a call of zip. -/
namespace Pc
open PySem PySem.Spec PyProof.Rows L2 RZ
theorem zc1 (a : Value) : checkTypeCall "zip" ⟨[a], []⟩ = pure () := by kernel_rfl
theorem zc2 (a b : Value) : checkTypeCall "zip" ⟨[a, b], []⟩ = pure () := by kernel_rfl
theorem zc3 (a b c : Value) : checkTypeCall "zip" ⟨[a, b, c], []⟩ = pure () := by kernel_rfl
theorem zc4 (a b c d : Value) : checkTypeCall "zip" ⟨[a, b, c, d], []⟩ = pure () := by kernel_rfl
theorem zn1 (a : Value) : checkBuiltinCall "zip.__new__" ⟨[.type "zip", a], []⟩ = pure () := by kernel_rfl
theorem zn2 (a b : Value) : checkBuiltinCall "zip.__new__" ⟨[.type "zip", a, b], []⟩ = pure () := by kernel_rfl
theorem zn3 (a b c : Value) : checkBuiltinCall "zip.__new__" ⟨[.type "zip", a, b, c], []⟩ = pure () := by kernel_rfl
theorem zn4 (a b c d : Value) : checkBuiltinCall "zip.__new__" ⟨[.type "zip", a, b, c, d], []⟩ = pure () := by kernel_rfl
theorem zi {as : List Value} (h : as.length = 2 ∨ as.length = 3 ∨ as.length = 4 ∨ as.length = 5) : argsOk "object.__init__" ⟨as, []⟩ := by
  unfold argsOk
  rw [signature?_of (id := "object.__init__") (n := ['_', '_', 't', 'i', 'n', 'i', '_', '_']) (o := ['t', 'c', 'e', 'j', 'b', 'o']) (by kernel_rfl) F.owner_object]
  rcases h with h | h | h | h <;> match as, h with
    | [_, _], _ => kernel_rfl
    | [_, _, _], _ => kernel_rfl
    | [_, _, _, _], _ => kernel_rfl
    | [_, _, _, _, _], _ => kernel_rfl
end Pc

set_option Elab.async false
set_option maxRecDepth 100000
set_option maxHeartbeats 4000000
/-! Pe8: zip(*rows), by data. -/
namespace Pc
open PySem PySem.Spec PyProof.Rows L2 RZ
theorem zr_call {prog : Program} {w : World} {A : Around} {E : Value → Shared → Prop} {s : Shared} {srcs : List (Bool × Addr)} {Q : Value → Shared → Prop} (h1 : 1 ≤ srcs.length) (h4 : srcs.length ≤ 4) (hs : ∀ q ∈ srcs, ∃ xs, Src q.1 s.heap q.2 xs)
    (q : ∀ g, ZTn (s.heap.objs.size + srcs.length + 2) (s.heap.objs.size + srcs.length) (s.heap.objs.size + srcs.length + 1) (zsOf s.heap.objs.size srcs) 0 g → (∀ c o, s.heap.get? c = some o → g.get? c = some o) → Q (.ref (s.heap.objs.size + srcs.length + 2)) { s with heap := g }) :
    wpAny (model prog w) A (call (.type "zip") (srcs.map fun q => .ref q.2)) Q E s := by
  have hz : srcs.length ≤ sizeLine := Nat.le_trans h4 (by decide)
  have ct : checkTypeCall "zip" ⟨srcs.map fun q => .ref q.2, []⟩ = pure () := by
    match srcs, h1, h4 with
    | [_], _, _ => exact zc1 _
    | [_, _], _, _ => exact zc2 _ _
    | [_, _, _], _, _ => exact zc3 _ _ _
    | [_, _, _, _], _, _ => exact zc4 _ _ _ _
  have cn : checkBuiltinCall "zip.__new__" ⟨.type "zip" :: srcs.map fun q => .ref q.2, []⟩ = pure () := by
    match srcs, h1, h4 with
    | [_], _, _ => exact zn1 _
    | [_, _], _, _ => exact zn2 _ _
    | [_, _, _], _, _ => exact zn3 _ _ _
    | [_, _, _, _], _, _ => exact zn4 _ _ _ _
  refine callType_newIn F.called_zip (by decide) ct cn (fun o => zi (by simp only [List.length_cons, List.length_map]; omega)) F.entry_zip_new (zr_new srcs) ⟨hs, hz, fun g t k => ?_⟩
  obtain ⟨f0, f1, _, _, hz⟩ := t.rec_
  exact ⟨⟨_, hz, rfl⟩, q g t k⟩
def iZipR (K : PySem.W.Frag) (te : TE) : TI := fun σ H R => te σ H fun v H1 => ∃ (a : Addr) (srcs : List (Bool × Addr)), v = .ref a ∧ (SqT K H1 a (srcs.map fun q => V.ref q.2) ∨ SqL K H1 a (srcs.map fun q => V.ref q.2)) ∧ 1 ≤ srcs.length ∧ srcs.length ≤ 4 ∧ (∀ q ∈ srcs, ∃ xs, Sq q.1 K H1 q.2 xs) ∧ R (ItzR K srcs) H1
theorem vals_srcs : ∀ {srcs : List (Bool × Addr)} {us : List Value}, Vals (srcs.map fun q => V.ref q.2) us → us = srcs.map fun q => (.ref q.2 : Value)
  | [], us, h => by cases h; rfl
  | q :: srcs, us, h => by
    cases h with
    | cons r t =>
      rw [vals_srcs t]
      cases r
      rfl
theorem pi_zipR {X : Cx} {y : Str} {e : Expr} {te : TE} {p pos tpos sp : Pos} (hg : Gl X "zip") (hm : X.mg "zip" = none) (he : PE X e te) (hst : starEach [.Starred e sp] X.env = [(true, eval e X.env)] := by rfl) :
    PI X (.Name y tpos) (.Call (.Name "zip" p) [.Starred e sp] [] pos) (iZipR X.K te) := by
  refine ⟨fun pins s σ H R I h => Call_ (ld_blt I hg hm PyProof.Rows.boot_zip ?_)⟩
  rw [hst]
  refine PySem.W.ks_call (P := fun _ => True) rfl (fun h _ => ⟨.machine, .inr (.inl rfl), PySem.W.Looks.now⟩) (PySem.W.ks_lone (thn (he.run pins s σ H _ I h) fun v s1 ⟨v', H1, I1, rv, a, srcs, ev, hx, h1, h4, hs, q⟩ => ?_))
  subst ev
  obtain rfl : v = Value.ref a := rv
  refine StX.star_any I1 hx fun us s2 I2 rus => ⟨trivial, ?_⟩
  cases vals_srcs rus
  have hs2 : ∀ q ∈ srcs, ∃ xs, Src q.1 s2.heap q.2 xs := fun q m => by
    obtain ⟨xs, h⟩ := hs q m
    obtain ⟨its, _, p, _⟩ := sq_src I2 h
    exact ⟨_, p⟩
  have lt2 : ∀ q ∈ srcs, q.2 < s2.heap.objs.size := fun q m => by
    obtain ⟨xs, h⟩ := hs q m
    obtain ⟨its, _, _, l⟩ := sq_src I2 h
    exact l
  show wpAny _ _ (call (.type "zip") (srcs.map fun q => .ref q.2)) _ _ _
  refine zr_call h1 h4 hs2 fun g t k => ?_
  obtain ⟨f0, f1, _, _, hz⟩ := id t.rec_
  have ty : (Shared.mk g s2.gens s2.drawn s2.toks s2.os).TypeIs (.ref (s2.heap.objs.size + srcs.length + 2)) "zip" := ⟨_, hz, rfl⟩
  refine wpAny_pyIter_slot ty F.slot_zip_iter (wpAny_call_entry F.slot_zip_iter ty F.entry_zip_iter ?_ (F.args_zip_iter_1 _))
  show wpAny _ _ (ret (.ref _)) _ _ _
  refine wpAny_pure ⟨_, rfl, "zip", _, ty, F.slot_zip_next.lookup, ?_⟩
  have I3 : Inv X pins σ H1 { s2 with heap := g } := I2.kept (t' := s2.toks) k
  have D := zap_of (n := s2.heap.objs.size) lt2
  have T := turn_zipR (P := X.prog) (w := X.w) (K := X.K) (x := y) (tpos := tpos) D (by
    intro e
    have := congrArg List.length e
    rw [zsOf_length] at this
    simp only [List.length_nil] at this
    omega) (by rw [zsOf_length]; exact Nat.le_trans h4 (by decide))
  rw [zsOf_srcs] at T
  refine ⟨_, _, _, _, H1, rfl, I3, T, t, fun c hc => ?_, q⟩
  have le : s2.heap.objs.size ≤ c := by
    rcases mem_zfp hc with rfl | rfl | rfl | ⟨q, m, rfl⟩
    · show s2.heap.objs.size ≤ s2.heap.objs.size + srcs.length + 2; omega
    · show s2.heap.objs.size ≤ s2.heap.objs.size + srcs.length; omega
    · show s2.heap.objs.size ≤ s2.heap.objs.size + srcs.length + 1; omega
    · obtain ⟨i, e, h1, _⟩ := zsOf_mem m
      rw [e]
      exact h1
  exact I2.fpOk le (I2.hok.fresh le)
/-! by data -/
def rowsK : List D → Option (List (List D))
  | [] => some []
  | d :: ds => (seqK (.st, d)).bind fun r => (rowsK ds).map fun rs => r :: rs
def colsK (rs : List (List D)) : List D := (List.range (rs.headD []).length).map fun i => .tup (rs.map fun r => r.getD i .non)
def zipRK (x : Vl) : Option (List D) := (seqK x).bind fun rows => (rowsK rows).bind fun rs => if 1 ≤ rs.length ∧ rs.length ≤ 4 ∧ (rs.all fun r => decide (r.length = (rs.headD []).length)) = true then some (colsK rs) else none
def iZipRD (m : ES) : IS := fun env cs => match m env cs with
  | .ok x c => (match zipRK x with
    | some ds => .ok ds c
    | none => .bad)
  | .exc x fs c => .exc x fs c
  | .bad => .bad
section
variable {X : Cx} {B : Bx} {W : WX} {m : ES}
theorem rpl_un {hs : Addr → Prop} {H1 : Hp} {d : D} {ds : List D} {xs : List V} (h : B.RpL H1 hs (d :: ds) xs) : ∃ x r, xs = x :: r ∧ B.Rp H1 hs d x ∧ B.RpL H1 hs ds r := by
  have h : Pc.RpL B.K B.mg B.ps (hid H1 hs) (d :: ds) xs := h
  unfold Pc.RpL at h
  exact h
theorem rows_srcs {hs : Addr → Prop} {H1 : Hp} : ∀ {rows : List D} {rs : List (List D)} {xs : List V}, rowsK rows = some rs → B.RpL H1 hs rows xs → ∃ (srcs : List (Bool × Addr)) (ys : List (List V)), xs = srcs.map (fun q => V.ref q.2) ∧ ys.length = srcs.length ∧ rs.length = srcs.length ∧
    ∀ (i : Nat) (q : Bool × Addr) (r : List D) (y : List V), srcs[i]? = some q → rs[i]? = some r → ys[i]? = some y → Sq q.1 B.K (hid H1 hs) q.2 y ∧ B.RpL H1 hs r y
  | [], rs, xs, h, rl => by
    cases h
    have e := rl.length
    cases xs with
    | nil => exact ⟨[], [], rfl, rfl, rfl, fun i q r y e => by simp at e⟩
    | cons => cases e
  | d :: ds, rs, xs, h, rl => by
    have h : (seqK (.st, d)).bind (fun r => (rowsK ds).map fun rs => r :: rs) = some rs := h
    cases e1 : seqK (.st, d) with
    | none => rw [e1] at h; cases h
    | some r0 =>
      cases e2 : rowsK ds with
      | none => rw [e1, e2] at h; cases h
      | some rs0 =>
        rw [e1, e2] at h
        cases h
        obtain ⟨x0, xs0, rfl, rx, rl0⟩ := rpl_un rl
        obtain ⟨t, a, y0, rfl, s0, ry⟩ := seqK_sq (B := B) (H0 := H1) e1 rx
        obtain ⟨srcs, ys, rfl, l1, l2, h3⟩ := rows_srcs e2 rl0
        refine ⟨(t, a) :: srcs, y0 :: ys, rfl, by simp [l1], by simp [l2], fun i q r y g1 g2 g3 => ?_⟩
        cases i with
        | zero =>
          cases g1; cases g2; cases g3
          exact ⟨s0, ry⟩
        | succ i => exact h3 i q r y (by simpa using g1) (by simpa using g2) (by simpa using g3)
theorem zipR_read {hs : Addr → Prop} {H1 : Hp} {x : Vl} {v : V} {ds : List D} {H0 : Hp} (hK : X.K = B.K) (h : zipRK x = some ds) (p : PV B hs H0 H1 x.1 x.2 v) :
    ∃ (a : Addr) (srcs : List (Bool × Addr)), v = .ref a ∧ (SqT X.K H1 a (srcs.map fun q => V.ref q.2) ∨ SqL X.K H1 a (srcs.map fun q => V.ref q.2)) ∧ 1 ≤ srcs.length ∧ srcs.length ≤ 4 ∧ (∀ q ∈ srcs, ∃ xs, Sq q.1 X.K H1 q.2 xs) ∧ ItR B hs H1 (ItzR X.K srcs) ds := by
  unfold zipRK at h
  cases e1 : seqK x with
  | none => rw [e1] at h; cases h
  | some rows =>
    rw [e1] at h
    simp only [Option.bind_some] at h
    cases e2 : rowsK rows with
    | none => rw [e2] at h; cases h
    | some rs =>
      rw [e2] at h
      simp only [Option.bind_some] at h
      split at h
      case isFalse => cases h
      rename_i hc
      cases h
      obtain ⟨h1, h4, hall⟩ := hc
      obtain ⟨t, a, xs, rfl, s0, rl⟩ := seqK_sq e1 p
      obtain ⟨srcs, ys, rfl, l1, l2, hat⟩ := rows_srcs e2 rl
      have up : ∀ a o, hid H1 hs a = some o → H1 a = some o := fun a o z => hid_leH a o z
      have hlen : ∀ r ∈ rs, r.length = (rs.headD []).length := fun r m => of_decide_eq_true (List.all_eq_true.mp hall r m)
      -- each source's row
      have row : ∀ i (hi : i < srcs.length), Sq srcs[i].1 B.K (hid H1 hs) srcs[i].2 (ys[i]'(by omega)) ∧ B.RpL H1 hs (rs[i]'(by omega)) (ys[i]'(by omega)) := fun i hi => hat i _ _ _ (List.getElem?_eq_getElem hi) (List.getElem?_eq_getElem (by omega)) (List.getElem?_eq_getElem (by omega))
      have sq0 : ∀ q ∈ srcs, ∃ xs, Sq q.1 B.K (hid H1 hs) q.2 xs ∧ xs.length = (rs.headD []).length := fun q m => by
        obtain ⟨i, hi, e⟩ := List.getElem_of_mem m
        obtain ⟨r1, r2⟩ := row i hi
        rw [e] at r1
        refine ⟨_, r1, ?_⟩
        rw [← r2.length]
        exact hlen _ (List.getElem_mem _)
      have sq1 : ∀ q ∈ srcs, ∃ xs, Sq q.1 X.K H1 q.2 xs := fun q m => by
        obtain ⟨xs, h, _⟩ := sq0 q m
        exact ⟨xs, by rw [hK]; exact sq_le up h⟩
      refine ⟨a, srcs, rfl, ?_, by omega, by omega, sq1, ?_⟩
      · rw [hK]
        cases t with
        | true => exact .inl (sq_le (t := true) up s0)
        | false => exact .inr (sq_le (t := false) up s0)
      have hn : (colsK rs).length = (rs.headD []).length := by simp [colsK]
      let G : Hp → Prop := fun H => ∀ i (hi : i < srcs.length), Sq srcs[i].1 X.K H srcs[i].2 (ys[i]'(by omega))
      have gAt : ∀ {H : Hp}, G H → ∀ q ∈ srcs, ∃ xs, Sq q.1 X.K H q.2 xs ∧ xs.length = (rs.headD []).length := fun {H} g q m => by
        obtain ⟨i, hi, e⟩ := List.getElem_of_mem m
        have r1 := g i hi
        rw [e] at r1
        refine ⟨_, r1, ?_⟩
        rw [← (row i hi).2.length]
        exact hlen _ (List.getElem_mem _)
      have gRho : ∀ {H : Hp}, G H → ∃ ρ : Bool × Addr → List V, ∀ q ∈ srcs, Sq q.1 X.K H q.2 (ρ q) ∧ (ρ q).length = (rs.headD []).length := fun {H} g => by
        refine ⟨fun q => if h : q ∈ srcs then (gAt g q h).choose else [], fun q m => ?_⟩
        simp only [dif_pos m]
        exact (gAt g q m).choose_spec
      refine ⟨G, fun i H x H' => i < (rs.headD []).length ∧ G H ∧ (ItzR X.K srcs).yld i H x H', ⟨fun i H hi g => ?_, fun H g => ?_, fun i H x H' hi g y => ⟨by rw [hn] at hi; exact hi, g, y⟩⟩, fun H p le => ?_, fun i H x H' p th le y => ?_⟩
      · rw [hn] at hi
        obtain ⟨ρ, h⟩ := gRho g
        exact ⟨ρ, fun q m => ⟨(h q m).1, by rw [(h q m).2]; exact hi⟩⟩
      · rw [hn]
        obtain ⟨ρ, h⟩ := gRho g
        exact ⟨ρ, h⟩
      · intro i hi
        rw [hK]
        exact sq_le (fun a o e => hid_leH a o (le a o e)) (row i hi).1
      · obtain ⟨hi, g, T, rw_, rfl, e2, rfl, hy⟩ := y
        obtain ⟨ρ, hρ⟩ := gRho g
        have len : rw_.length = srcs.length := by
          have := congrArg List.length (hy ρ fun q m => (hρ q m).1)
          simpa using this
        -- the j-th of the row is the j-th source's i-th
        have at_ : ∀ j (hj : j < srcs.length), rw_[j]? = (ys[j]'(by omega))[i]? := fun j hj => by
          have z := hy (fun q => if q = srcs[j] then ys[j]'(by omega) else ρ q) fun q m => by
            by_cases e : q = srcs[j]
            · simp only [if_pos e]
              rw [e]
              exact g j hj
            · simp only [if_neg e]
              exact (hρ q m).1
          have z2 := congrArg (fun l => l[j]?) z
          simp only [List.getElem?_map, List.getElem?_eq_getElem hj, Option.map_some, if_true] at z2
          have hj' : j < rw_.length := by omega
          rw [List.getElem?_eq_getElem hj'] at z2 ⊢
          simp only [Option.map_some, Option.some.injEq] at z2
          exact z2
        have nT : ¬ p T := fun q => by
          obtain ⟨o, z, _⟩ := th T q
          rw [e2] at z; cases z
        have le2 : Le (hid H p) (hid (upd H T (.tup rw_)) p) := hid_le (fun _ h => h) fun c o _ e => upd_le e2 c o e
        refine ⟨upd_le e2, .tup (rs.map fun r => r.getD i .non), ?_, ?_⟩
        · unfold colsK
          rw [List.getElem?_map, List.getElem?_eq_getElem (by rw [List.length_range]; exact hi), List.getElem_range]
          rfl
        · refine Rp.tup (xs := rw_) (hid_some.mpr ⟨nT, upd_same⟩) (RpL.of_get (by rw [List.length_map]; omega) fun j e q => ?_)
          rw [List.getElem?_map] at q
          have hj : j < srcs.length := by
            cases e3 : rs[j]? with
            | none => rw [e3] at q; cases q
            | some _ => have := (List.getElem?_eq_some_iff.mp e3).1; omega
          rw [List.getElem?_eq_getElem (by omega)] at q
          cases q
          have hr : i < (rs[j]'(by omega)).length := by rw [hlen _ (List.getElem_mem _)]; exact hi
          obtain ⟨y, ey, ry⟩ := (row j hj).2.get (List.getElem?_eq_getElem hr)
          refine ⟨y, by rw [at_ j hj]; exact ey, ?_⟩
          show Pc.Rp _ _ _ _ ((rs[j]'(by omega)).getD i .non) y
          rw [List.getD_eq_getElem?_getD, List.getElem?_eq_getElem hr]
          exact Rp.mono le2 _ _ (Rp.mono le _ _ ry)
theorem pi_zipRD {y : Str} {e : Expr} {p pos tpos sp : Pos} (co : Co X B) (hg : Gl X "zip") (hm : B.mg "zip" = none) (ha : PM X B W e m) : PIm X B W (.Name y tpos) (.Call (.Name "zip" p) [.Starred e sp] [] pos) (iZipRD m) := by
  refine ⟨_, pi_zipR hg (by rw [co.mg]; exact hm) ha.pe, fun σ H R env cs fp S h => ?_⟩
  unfold iZipRD at h
  refine ⟨env, cs, fp, S, ?_⟩
  cases e : m env cs with
  | bad => rw [e] at h; exact h.elim
  | exc x fs c => rw [e] at h; exact h
  | ok x c =>
    simp only [e] at h
    intro v H1 sb cc pv
    cases e2 : zipRK x with
    | none => simp only [e2] at h; exact h.elim
    | some ds =>
      simp only [e2] at h
      obtain ⟨a, srcs, ev, h1, h2, h3, h4, it⟩ := zipR_read (X := X) co.K e2 pv
      exact ⟨a, srcs, ev, h1, h2, h3, h4, h _ H1 sb cc it⟩
end
end Pc

set_option Elab.async false
set_option maxRecDepth 100000
set_option maxHeartbeats 4000000
namespace Pc
open PySem PySem.Spec PyProof.Rows L2 PySem.PcX

/-! ### the text's own words, as data -/
inductive BF where
  | len | int | abs | max | min | sum | sorted | tuple | list | all | any | isinstance | sortedD | isx
  deriving DecidableEq
/-- operations of two, said apart -/
inductive O2 where
  | din | dnin | fdiv | rep
  deriving DecidableEq
/-- how an error is made: by position, by a keyword, of nothing -/
inductive NK where
  | pos | kw (g : Str) | no
/-- operations of one, on a name -/
inductive U1 where
  | attr (f : Str)
inductive MT where
  | n (i : Nat) | t (is : List Nat)
mutual
inductive ME where
  | var (i : Nat) | ci (i : Int) | cb (b : Bool) | cn | cs (x : Str) | con (x : Str) | ty (x : String)
  | bin (op : Operator) (a b : ME) | cmp (op : CmpOp) (a b : ME) | chain (op op' : CmpOp) (a b c : ME) | neg (a : ME) | not (a : ME) | bo (op : BoolOp) (l : MEs) | ite (c a b : ME)
  | tup (l : MEs) | lst (l : MEs) | sub (a b : ME) | dsub (a b : ME) | slice (a : ME) (lo hi : MO) | call (f : Str) (l : MEs) | callv (i : Nat) (fs : List Str) (l : MEs) | callk (f : Str) (l : MEs) | imp (f : IM) (l : MEs) | bf (f : BF) (l : MEs)
  | comp (kk : Nat) (t : MT) (it : MI) (c : MO) (e : ME)
  | comp2 (t : MT) (it : MI) (c : MO) (t1 : MT) (it1 : MI) (c1 : MO) (e : ME)
  | comp3 (t : MT) (it : MI) (c : MO) (t1 : MT) (it1 : MI) (c1 : MO) (t2 : MT) (it2 : MI) (c2 : MO) (e : ME)
  | dcomp (k : DK) (t : MT) (it : MI) (c : MO) (a b : ME) | op2 (f : O2) (a b : ME)
  | new (k : NK) (x : Str) (l : MEs) | un1 (f : U1) (a : ME)
inductive MEs where
  | nil | cons (a : ME) (l : MEs)
inductive MO where
  | none | some (a : ME)
inductive MI where
  | seq (a : ME) | rng (l : MEs) | rng2 (l : MEs) | zip (l : MEs) | keys (a : ME) | zipS (a : ME)
end
def MEs.len : MEs → Nat
  | .nil => 0
  | .cons _ l => l.len + 1
def BF.fn : BF → List Vl → Option Vl
  | .len => lenF | .int => intF | .abs => absF | .max => maxF | .min => minF | .sum => sumF | .sorted => sortF | .tuple => tupleF | .list => listF | .all => allF | .any => anyF | .isinstance => isiF | .sortedD => dsortF | .isx => isxF
def BF.name : BF → String
  | .len => "len" | .int => "int" | .abs => "abs" | .max => "max" | .min => "min" | .sum => "sum" | .sorted => "sorted" | .tuple => "tuple" | .list => "list" | .all => "all" | .any => "any" | .isinstance => "isinstance" | .sortedD => "sorted" | .isx => "isinstance"
def O2.fn : O2 → Vl → Vl → Option Vl
  | .din => dinF | .dnin => dninF | .fdiv => fdivD | .rep => repD
def U1.fn : U1 → Vl → Option Vl
  | .attr f => attrD f
def sNw (k : NK) (cl : Option D) (ms : AS) : ES := match k with
  | .pos => sNew cl ms
  | .kw g => sNewK cl g ms
  | .no => sNew0 cl
def BF.isTy : BF → Bool
  | .int => true | .tuple => true | .list => true | _ => false
def MT.slots : MT → List Nat
  | .n i => [i]
  | .t is => is
def MT.gs : MT → GS
  | .n i => gN i
  | .t is => gT is
section
variable (call : Str → List D → Cells → Rs D) (con : Str → Option D)
mutual
def evE : ME → ES
  | .var i => sVar i
  | .ci i => sRet (.int i)
  | .cb b => sRet (.bl b)
  | .cn => sRet .non
  | .cs x => sRet (.str x)
  | .con x => (match con x with
    | some d => sRet d
    | none => fun _ _ => .bad)
  | .ty x => sRet (.ty x)
  | .bin op a b => sOp (binD op) (evE a) (evE b)
  | .cmp op a b => sOp (cmpD op) (evE a) (evE b)
  | .chain op op' a b c => sChain (cmpD op) (cmpD op') (evE a) (evE b) (evE c)
  | .neg a => sUn negD (evE a)
  | .not a => sNot (evE a)
  | .bo op l => evB op l
  | .ite c a b => sIf (evE c) (evE a) (evE b)
  | .tup l => appA (evA l) tupF
  | .lst l => appA (evA l) lstF
  | .sub a b => sSub (evE a) (evE b)
  | .dsub a b => sDsub (evE a) (evE b)
  | .slice a lo hi => sSlice (evE a) (evO lo) (evO hi)
  | .call f l => sCall l.len (call f) (evA l)
  | .callv i fs l => sCallv l.len i fs call (evA l)
  | .callk f l => sCall l.len (call f) (evA l)
  | .imp f l => appA (evA l) f.fn
  | .bf f l => appA (evA l) f.fn
  | .comp kk t it c e => sComp kk t.slots t.gs (evI it) (evC c) (evE e)
  | .comp2 t it c t1 it1 c1 e => sCompN (t.slots ++ t1.slots) t.gs (evI it) (evC c) (sLp t1.slots t1.gs (evI it1) (evC c1) (sEl (evE e)))
  | .comp3 t it c t1 it1 c1 t2 it2 c2 e => sCompN (t.slots ++ (t1.slots ++ t2.slots)) t.gs (evI it) (evC c) (sLp (t1.slots ++ t2.slots) t1.gs (evI it1) (evC c1) (sLp t2.slots t2.gs (evI it2) (evC c2) (sEl (evE e))))
  | .dcomp k t it c a b => sDcomp k t.slots t.gs (evI it) (evC c) (evE a) (evE b)
  | .op2 f a b => sOp f.fn (evE a) (evE b)
  | .new k x l => sNw k (con x) (evA l)
  | .un1 f a => sUn f.fn (evE a)
def evA : MEs → AS
  | .nil => aNil
  | .cons a l => aCons (evE a) (evA l)
def evB (op : BoolOp) : MEs → ES
  | .nil => fun _ _ => .bad
  | .cons a .nil => evE a
  | .cons a (.cons b l) => match op with
    | .And => sAnd (evE a) (evB op (.cons b l))
    | .Or => sOr (evE a) (evB op (.cons b l))
def evO : MO → OS
  | .none => oNone
  | .some a => oSome (evE a)
def evC : MO → ES
  | .none => sRet (.bl true)
  | .some a => evE a
def evI : MI → IS
  | .seq a => iSeq (evE a)
  | .rng l => iApp (evA l) rngF
  | .rng2 l => iApp (evA l) rngF2
  | .zip l => iApp (evA l) zipF
  | .keys a => iKeysD (evE a)
  | .zipS a => iZipRD (evE a)
end
end

/-! ### the text is what the words say -/
structure G where
  N : List Str
  sc : Scope
  blk : Option Scope
  sig : Str → Option (List Str)
  con : Str → Option Unit
  fre : List Str
  kwf : Str → Bool
  imp : Str → Option IM
def okN (x : Str) : Bool := !(x == ("__debug__" : Str)) && !(x == ("__classdict__" : Str)) && !(x == ("__name__" : Str))
def isVis (Γ : G) (x : Str) : Bool := match Γ.sc.names.lookup x with
  | some .local => true
  | some .cell => true
  | some .free => true
  | _ => false
def isLoc (Γ : G) (x : Str) : Bool := match Γ.sc.names.lookup x with
  | some .local => true
  | some .cell => true
  | _ => false
def isFn (Γ : G) (x : Str) : Bool := Γ.sc.names.lookup x == some .local || match Γ.blk with
  | none => true
  | some s => s.names.lookup x == some .cell
def isGl (Γ : G) (x : Str) : Bool := Γ.sc.names.lookup x == some .globalImplicit
def noStar : Expr → Bool
  | .Starred .. => false
  | _ => true
def notSet : Expr → Bool
  | .Set .. => false
  | _ => true
def notSlice : Expr → Bool
  | .Slice .. => false
  | _ => true
def notComp : Expr → Bool
  | .ListComp .. => false
  | .SetComp .. => false
  | .DictComp .. => false
  | _ => true
def chkTs (Γ : G) : List Nat → List Expr → Bool
  | [], [] => true
  | i :: is, .Name x _ :: es => (Γ.N[i]? == some x) && isLoc Γ x && isFn Γ x && chkTs Γ is es
  | _, _ => false
def chkT (Γ : G) : MT → Expr → Bool
  | .n i, .Name x _ => (Γ.N[i]? == some x) && isLoc Γ x && isFn Γ x
  | .t is, .Tuple es _ _ => chkTs Γ is es
  | _, _ => false
def ownOf (Γ : G) (t : MT) : List (Str × Nat) := t.slots.filterMap fun i => Γ.N[i]?.map fun x => (x, i)
def ownL (Γ : G) (l : List Nat) : List (Str × Nat) := l.filterMap fun i => Γ.N[i]?.map fun x => (x, i)
abbrev G.inBlk (Γ : G) (s : Scope) : G := { Γ with sc := relS s Γ.sc, blk := some s }
/-! the shapes of an expression, one by one -/
def cVar (Γ : G) (i : Nat) : Expr → Bool
  | .Name x _ => (Γ.N[i]? == some x) && isVis Γ x && okN x
  | _ => false
theorem cVar_is {Γ : G} {i : Nat} {e : Expr} (h : cVar Γ i e = true) : ∃ x p, e = .Name x p ∧ Γ.N[i]? = some x ∧ isVis Γ x = true ∧ okN x = true := by
  unfold cVar at h
  split at h
  · rename_i x p
    simp only [Bool.and_eq_true, beq_iff_eq] at h
    exact ⟨x, p, rfl, h.1.1, h.1.2, h.2⟩
  · cases h
def cCon (f : Const → Bool) : Expr → Bool
  | .Constant c _ _ => f c
  | _ => false
theorem cCon_is {f : Const → Bool} {e : Expr} (h : cCon f e = true) : ∃ c k p, e = .Constant c k p ∧ f c = true := by
  unfold cCon at h
  split at h
  · rename_i c k p
    exact ⟨c, k, p, rfl, h⟩
  · cases h
def kInt (i : Int) : Const → Bool
  | .int j => decide (i = j)
  | _ => false
theorem kInt_is {i : Int} {c : Const} (h : kInt i c = true) : c = .int i :=
  match c, h with
  | .int j, h => by cases of_decide_eq_true h; rfl
def kBool (i : Bool) : Const → Bool
  | .bool j => decide (i = j)
  | _ => false
theorem kBool_is {i : Bool} {c : Const} (h : kBool i c = true) : c = .bool i :=
  match c, h with
  | .bool j, h => by cases of_decide_eq_true h; rfl
def kNone : Const → Bool
  | .none => true
  | _ => false
theorem kNone_is {c : Const} (h : kNone c = true) : c = .none :=
  match c, h with
  | .none, _ => rfl
def kStr (x : Str) : Const → Bool
  | .str y => decide (x = y) && decide (x.length ≤ 100000)
  | _ => false
theorem kStr_is {x : Str} {c : Const} (h : kStr x c = true) : c = .str x ∧ x.length ≤ 100000 :=
  match c, h with
  | .str y, h => by
    simp only [kStr, Bool.and_eq_true] at h
    cases of_decide_eq_true h.1
    exact ⟨rfl, of_decide_eq_true h.2⟩
/-- a global name -/
def cGl (Γ : G) (f : Str → Bool) : Expr → Bool
  | .Name y _ => isGl Γ y && okN y && f y
  | _ => false
theorem cGl_is {Γ : G} {f : Str → Bool} {e : Expr} (h : cGl Γ f e = true) : ∃ x p, e = .Name x p ∧ isGl Γ x = true ∧ okN x = true ∧ f x = true := by
  unfold cGl at h
  split at h
  · rename_i x p
    simp only [Bool.and_eq_true] at h
    exact ⟨x, p, rfl, h.1.1, h.1.2, h.2⟩
  · cases h
def cBin (op : Operator) (f g : Expr → Bool) : Expr → Bool
  | .BinOp x op' y _ => decide (op = op') && f x && g y
  | _ => false
theorem cBin_is {op : Operator} {f g : Expr → Bool} {e : Expr} (h : cBin op f g e = true) : ∃ x y p, e = .BinOp x op y p ∧ f x = true ∧ g y = true := by
  unfold cBin at h
  split at h
  · rename_i x op' y p
    simp only [Bool.and_eq_true] at h
    cases of_decide_eq_true h.1.1
    exact ⟨x, y, p, rfl, h.1.2, h.2⟩
  · cases h
def cCmps (f : Expr → List CmpOp → List Expr → Bool) : Expr → Bool
  | .Compare x os ys _ => f x os ys
  | _ => false
theorem cCmps_is {f : Expr → List CmpOp → List Expr → Bool} {e : Expr} (h : cCmps f e = true) : ∃ x os ys p, e = .Compare x os ys p ∧ f x os ys = true := by
  unfold cCmps at h
  split at h
  · rename_i x os ys p
    exact ⟨x, os, ys, p, rfl, h⟩
  · cases h
def cCmp (op : CmpOp) (f g : Expr → Bool) (x : Expr) : List CmpOp → List Expr → Bool
  | [op'], [y] => decide (op = op') && f x && g y && notSet y
  | _, _ => false
theorem cCmp_is {op : CmpOp} {f g : Expr → Bool} {e : Expr} (h : cCmps (cCmp op f g) e = true) : ∃ x y p, e = .Compare x [op] [y] p ∧ f x = true ∧ g y = true ∧ notSet y = true := by
  obtain ⟨x, os, ys, p, rfl, h⟩ := cCmps_is h
  exact match os, ys, h with
  | [op'], [y], h => by
    have h : (decide (op = op') && f x && g y && notSet y) = true := h
    simp only [Bool.and_eq_true] at h
    cases of_decide_eq_true h.1.1.1
    exact ⟨x, y, p, rfl, h.1.1.2, h.1.2, h.2⟩
def cChain (o1 o2 : CmpOp) (f g k : Expr → Bool) (x : Expr) : List CmpOp → List Expr → Bool
  | [p1, p2], [y, z] => decide (o1 = p1) && decide (o2 = p2) && f x && g y && k z && notSet z
  | _, _ => false
theorem cChain_is {o1 o2 : CmpOp} {f g k : Expr → Bool} {e : Expr} (h : cCmps (cChain o1 o2 f g k) e = true) : ∃ x y z p, e = .Compare x [o1, o2] [y, z] p ∧ f x = true ∧ g y = true ∧ k z = true ∧ notSet z = true := by
  obtain ⟨x, os, ys, p, rfl, h⟩ := cCmps_is h
  exact match os, ys, h with
  | [p1, p2], [y, z], h => by
    have h : (decide (o1 = p1) && decide (o2 = p2) && f x && g y && k z && notSet z) = true := h
    simp only [Bool.and_eq_true] at h
    cases of_decide_eq_true h.1.1.1.1.1
    cases of_decide_eq_true h.1.1.1.1.2
    exact ⟨x, y, z, p, rfl, h.1.1.1.2, h.1.1.2, h.1.2, h.2⟩
def cUn (op : UnaryOp) (f : Expr → Bool) : Expr → Bool
  | .UnaryOp op' x _ => decide (op = op') && f x
  | _ => false
theorem cUn_is {op : UnaryOp} {f : Expr → Bool} {e : Expr} (h : cUn op f e = true) : ∃ x p, e = .UnaryOp op x p ∧ f x = true := by
  unfold cUn at h
  split at h
  · rename_i op' x p
    simp only [Bool.and_eq_true] at h
    cases of_decide_eq_true h.1
    exact ⟨x, p, rfl, h.2⟩
  · cases h
def cBo (op : BoolOp) (f : List Expr → Bool) : Expr → Bool
  | .BoolOp op' es _ => decide (op = op') && f es && !es.isEmpty
  | _ => false
theorem cBo_is {op : BoolOp} {f : List Expr → Bool} {e : Expr} (h : cBo op f e = true) : ∃ es p, e = .BoolOp op es p ∧ f es = true ∧ es ≠ [] := by
  unfold cBo at h
  split at h
  · rename_i op' es p
    simp only [Bool.and_eq_true] at h
    cases of_decide_eq_true h.1.1
    exact ⟨es, p, rfl, h.1.2, by simpa using h.2⟩
  · cases h
def cIf (f g k : Expr → Bool) : Expr → Bool
  | .IfExp x y z _ => f x && g y && k z
  | _ => false
theorem cIf_is {f g k : Expr → Bool} {e : Expr} (h : cIf f g k e = true) : ∃ x y z p, e = .IfExp x y z p ∧ f x = true ∧ g y = true ∧ k z = true := by
  unfold cIf at h
  split at h
  · rename_i x y z p
    simp only [Bool.and_eq_true] at h
    exact ⟨x, y, z, p, rfl, h.1.1, h.1.2, h.2⟩
  · cases h
def cTup (f : List Expr → Bool) : Expr → Bool
  | .Tuple es _ _ => f es && es.all noStar
  | _ => false
theorem cTup_is {f : List Expr → Bool} {e : Expr} (h : cTup f e = true) : ∃ es k p, e = .Tuple es k p ∧ f es = true ∧ es.all noStar = true := by
  unfold cTup at h
  split at h
  · rename_i es k p
    simp only [Bool.and_eq_true] at h
    exact ⟨es, k, p, rfl, h.1, h.2⟩
  · cases h
def cLst (f : List Expr → Bool) : Expr → Bool
  | .List es _ => f es && es.all noStar
  | _ => false
theorem cLst_is {f : List Expr → Bool} {e : Expr} (h : cLst f e = true) : ∃ es p, e = .List es p ∧ f es = true ∧ es.all noStar = true := by
  unfold cLst at h
  split at h
  · rename_i es p
    simp only [Bool.and_eq_true] at h
    exact ⟨es, p, rfl, h.1, h.2⟩
  · cases h
def cSub (f g : Expr → Bool) : Expr → Bool
  | .Subscript x y _ => f x && g y && notSlice y
  | _ => false
theorem cSub_is {f g : Expr → Bool} {e : Expr} (h : cSub f g e = true) : ∃ x y p, e = .Subscript x y p ∧ f x = true ∧ g y = true ∧ notSlice y = true := by
  unfold cSub at h
  split at h
  · rename_i x y p
    simp only [Bool.and_eq_true] at h
    exact ⟨x, y, p, rfl, h.1.1, h.1.2, h.2⟩
  · cases h
def cSlice (f : Expr → Bool) (g k : Option Expr → Bool) : Expr → Bool
  | .Subscript x (.Slice l h none _) _ => f x && g l && k h
  | _ => false
theorem cSlice_is {f : Expr → Bool} {g k : Option Expr → Bool} {e : Expr} (h : cSlice f g k e = true) : ∃ x l u p q, e = .Subscript x (.Slice l u none p) q ∧ f x = true ∧ g l = true ∧ k u = true := by
  unfold cSlice at h
  split at h
  · rename_i x l u p q
    simp only [Bool.and_eq_true] at h
    exact ⟨x, l, u, p, q, rfl, h.1.1, h.1.2, h.2⟩
  · cases h
/-- a call of a name -/
def cCall (f : Str → List Expr → List Keyword → Bool) : Expr → Bool
  | .Call (.Name x _) es ks _ => f x es ks
  | _ => false
theorem cCall_is {f : Str → List Expr → List Keyword → Bool} {e : Expr} (h : cCall f e = true) : ∃ x p es ks q, e = .Call (.Name x p) es ks q ∧ f x es ks = true := by
  unfold cCall at h
  split at h
  · rename_i x p es ks q
    exact ⟨x, p, es, ks, q, rfl, h⟩
  · cases h
def cPos (Γ : G) (f : Str → Bool) (g : List Expr → Bool) (x : Str) : List Expr → List Keyword → Bool
  | e :: es, [] => okN x && g (e :: es) && (e :: es).all noStar && f x
  | _, _ => false
theorem cPos_is {Γ : G} {f : Str → Bool} {g : List Expr → Bool} {e : Expr} (h : cCall (cPos Γ f g) e = true) : ∃ x p a es q, e = .Call (.Name x p) (a :: es) [] q ∧ okN x = true ∧ g (a :: es) = true ∧ (a :: es).all noStar = true ∧ f x = true := by
  obtain ⟨x, p, es, ks, q, rfl, h⟩ := cCall_is h
  exact match es, ks, h with
  | a :: es, [], h => by
    have h : (okN x && g (a :: es) && (a :: es).all noStar && f x) = true := h
    simp only [Bool.and_eq_true] at h
    exact ⟨x, p, a, es, q, rfl, h.1.1.1, h.1.1.2, h.1.2, h.2⟩
def cNo (f : Str → Bool) (x : Str) : List Expr → List Keyword → Bool
  | [], [] => okN x && f x
  | _, _ => false
theorem cNo_is {f : Str → Bool} {e : Expr} (h : cCall (cNo f) e = true) : ∃ x p q, e = .Call (.Name x p) [] [] q ∧ okN x = true ∧ f x = true := by
  obtain ⟨x, p, es, ks, q, rfl, h⟩ := cCall_is h
  exact match es, ks, h with
  | [], [], h => by
    have h : (okN x && f x) = true := h
    simp only [Bool.and_eq_true] at h
    exact ⟨x, p, q, rfl, h.1, h.2⟩
def cKw (f : Str → List Keyword → Bool) (g : List Keyword → Bool) (x : Str) : List Expr → List Keyword → Bool
  | [], kw :: kws => okN x && g (kw :: kws) && f x (kw :: kws)
  | _, _ => false
theorem cKw_is {f : Str → List Keyword → Bool} {g : List Keyword → Bool} {e : Expr} (h : cCall (cKw f g) e = true) : ∃ x p a es q, e = .Call (.Name x p) [] (a :: es) q ∧ okN x = true ∧ g (a :: es) = true ∧ f x (a :: es) = true := by
  obtain ⟨x, p, es, ks, q, rfl, h⟩ := cCall_is h
  exact match es, ks, h with
  | [], a :: ks, h => by
    have h : (okN x && g (a :: ks) && f x (a :: ks)) = true := h
    simp only [Bool.and_eq_true] at h
    exact ⟨x, p, a, ks, q, rfl, h.1.1, h.1.2, h.2⟩
def sigLen (Γ : G) (f : Str) (n : Nat) : Bool := match Γ.sig f with
  | some ps => decide (ps.length = n)
  | none => false
theorem sigLen_is {Γ : G} {f : Str} {n : Nat} (h : sigLen Γ f n = true) : ∃ ps, Γ.sig f = some ps ∧ ps.length = n := by
  unfold sigLen at h
  cases e : Γ.sig f with
  | none => rw [e] at h; cases h
  | some ps => rw [e] at h; exact ⟨ps, rfl, of_decide_eq_true h⟩
def sigKw (Γ : G) (f : Str) (n : Nat) (ks : List Keyword) : Bool := match Γ.sig f with
  | some ps => decide (kwNames ks = some ps) && decide (ps.length = n)
  | none => false
theorem sigKw_is {Γ : G} {f : Str} {n : Nat} {ks : List Keyword} (h : sigKw Γ f n ks = true) : ∃ ps, Γ.sig f = some ps ∧ kwNames ks = some ps ∧ ps.length = n := by
  unfold sigKw at h
  cases e : Γ.sig f with
  | none => rw [e] at h; cases h
  | some ps =>
    rw [e, Bool.and_eq_true] at h
    exact ⟨ps, rfl, of_decide_eq_true h.1, of_decide_eq_true h.2⟩
def isNil : MEs → Bool
  | .nil => true
  | _ => false
theorem isNil_is {l : MEs} (h : isNil l = true) : l = .nil :=
  match l, h with
  | .nil, _ => rfl
/-- a list comprehension -/
def cLC (f : Expr → List Comprehension → Scope → Bool) : Expr → Bool
  | .ListComp x gs s _ => f x gs s
  | _ => false
theorem cLC_is {f : Expr → List Comprehension → Scope → Bool} {e : Expr} (h : cLC f e = true) : ∃ x gs s p, e = .ListComp x gs s p ∧ f x gs s = true := by
  unfold cLC at h
  split at h
  · rename_i x gs s p
    exact ⟨x, gs, s, p, rfl, h⟩
  · cases h
def cC1 (f : Expr → Expr → Expr → List Expr → Scope → Bool) (x : Expr) : List Comprehension → Scope → Bool
  | [⟨tg, iter, ifs, a⟩], s => decide (a = 0) && f x tg iter ifs s
  | _, _ => false
theorem cC1_is {f : Expr → Expr → Expr → List Expr → Scope → Bool} {x : Expr} {gs : List Comprehension} {s : Scope} (h : cC1 f x gs s = true) : ∃ tg iter ifs, gs = [⟨tg, iter, ifs, 0⟩] ∧ f x tg iter ifs s = true :=
  match gs, h with
  | [⟨tg, iter, ifs, a⟩], h => by
    simp only [cC1, Bool.and_eq_true] at h
    cases of_decide_eq_true h.1
    exact ⟨tg, iter, ifs, rfl, h.2⟩
def cC2 (f : Expr → Expr → Expr → List Expr → Expr → Expr → List Expr → Scope → Bool) (x : Expr) : List Comprehension → Scope → Bool
  | [⟨tg, iter, ifs, a⟩, ⟨tg1, iter1, ifs1, a1⟩], s => decide (a = 0) && decide (a1 = 0) && f x tg iter ifs tg1 iter1 ifs1 s
  | _, _ => false
theorem cC2_is {f : Expr → Expr → Expr → List Expr → Expr → Expr → List Expr → Scope → Bool} {x : Expr} {gs : List Comprehension} {s : Scope} (h : cC2 f x gs s = true) : ∃ tg iter ifs tg1 iter1 ifs1, gs = [⟨tg, iter, ifs, 0⟩, ⟨tg1, iter1, ifs1, 0⟩] ∧ f x tg iter ifs tg1 iter1 ifs1 s = true :=
  match gs, h with
  | [⟨tg, iter, ifs, a⟩, ⟨tg1, iter1, ifs1, a1⟩], h => by
    simp only [cC2, Bool.and_eq_true] at h
    cases of_decide_eq_true h.1.1
    cases of_decide_eq_true h.1.2
    exact ⟨tg, iter, ifs, tg1, iter1, ifs1, rfl, h.2⟩
def cC3 (f : Expr → Expr → Expr → List Expr → Expr → Expr → List Expr → Expr → Expr → List Expr → Scope → Bool) (x : Expr) : List Comprehension → Scope → Bool
  | [⟨tg, iter, ifs, a⟩, ⟨tg1, iter1, ifs1, a1⟩, ⟨tg2, iter2, ifs2, a2⟩], s => decide (a = 0) && decide (a1 = 0) && decide (a2 = 0) && f x tg iter ifs tg1 iter1 ifs1 tg2 iter2 ifs2 s
  | _, _ => false
theorem cC3_is {f : Expr → Expr → Expr → List Expr → Expr → Expr → List Expr → Expr → Expr → List Expr → Scope → Bool} {x : Expr} {gs : List Comprehension} {s : Scope} (h : cC3 f x gs s = true) : ∃ tg iter ifs tg1 iter1 ifs1 tg2 iter2 ifs2, gs = [⟨tg, iter, ifs, 0⟩, ⟨tg1, iter1, ifs1, 0⟩, ⟨tg2, iter2, ifs2, 0⟩] ∧ f x tg iter ifs tg1 iter1 ifs1 tg2 iter2 ifs2 s = true :=
  match gs, h with
  | [⟨tg, iter, ifs, a⟩, ⟨tg1, iter1, ifs1, a1⟩, ⟨tg2, iter2, ifs2, a2⟩], h => by
    simp only [cC3, Bool.and_eq_true] at h
    cases of_decide_eq_true h.1.1.1
    cases of_decide_eq_true h.1.1.2
    cases of_decide_eq_true h.1.2
    exact ⟨tg, iter, ifs, tg1, iter1, ifs1, tg2, iter2, ifs2, rfl, h.2⟩
/-- a dict comprehension of one for -/
def cDC (f : Expr → Expr → Expr → Expr → List Expr → Scope → Bool) : Expr → Bool
  | .DictComp k v gs s _ => cC1 (fun _ tg iter ifs s => f k v tg iter ifs s) k gs s
  | _ => false
theorem cDC_is {f : Expr → Expr → Expr → Expr → List Expr → Scope → Bool} {e : Expr} (h : cDC f e = true) : ∃ k v tg iter ifs s p, e = .DictComp k v [⟨tg, iter, ifs, 0⟩] s p ∧ f k v tg iter ifs s = true := by
  unfold cDC at h
  split at h
  · obtain ⟨tg, iter, ifs, rfl, h⟩ := cC1_is h
    exact ⟨_, _, tg, iter, ifs, _, _, rfl, h⟩
  · cases h
/-- the two places of an operation said apart -/
def cO2 : O2 → (Expr → Bool) → (Expr → Bool) → Expr → Bool
  | .din, f, g => cCmps (cCmp .In f g)
  | .dnin, f, g => cCmps (cCmp .NotIn f g)
  | .fdiv, f, g => cBin .FloorDiv f g
  | .rep, f, g => cBin .Mult f g
/-- zip(*e) -/
def cZipS (Γ : G) (f : Expr → Bool) : Expr → Bool
  | .Call (.Name x _) [.Starred e _] [] _ => decide (x = ("zip" : Str)) && isGl Γ x && Γ.fre.contains x && f e
  | _ => false
theorem cZipS_is {Γ : G} {f : Expr → Bool} {e : Expr} (h : cZipS Γ f e = true) : ∃ p a sp q, e = .Call (.Name "zip" p) [.Starred a sp] [] q ∧ isGl Γ "zip" = true ∧ Γ.fre.contains "zip" = true ∧ f a = true := by
  unfold cZipS at h
  split at h
  · simp only [Bool.and_eq_true] at h
    cases of_decide_eq_true h.1.1.1
    exact ⟨_, _, _, _, rfl, h.1.1.2, h.1.2, h.2⟩
  · cases h
def cNew (Γ : G) (k : NK) (x : Str) (l : MEs) (g : List Expr → Bool) (gk : List Keyword → Bool) : Expr → Bool := match k with
  | .pos => cCall (cPos Γ (fun y => decide (x = y) && isGl Γ y && (Γ.con y).isSome) g)
  | .kw n => cCall (cKw (fun y ks => decide (x = y) && isGl Γ y && (Γ.con y).isSome && decide (kwNames ks = some [n])) gk)
  | .no => cCall (cNo fun y => decide (x = y) && isGl Γ y && (Γ.con y).isSome)
def cU1 (f : U1) (g : Expr → Bool) : Expr → Bool
  | .Attribute (.Name x p) h _ => (match f with
    | .attr f => decide (h = f)) && g (.Name x p)
  | _ => false
theorem cU1_is {f : Str} {g : Expr → Bool} {e : Expr} (h : cU1 (.attr f) g e = true) : ∃ x p q, e = .Attribute (.Name x p) f q ∧ g (.Name x p) = true := by
  unfold cU1 at h
  split at h
  · simp only [Bool.and_eq_true] at h
    cases of_decide_eq_true h.1
    exact ⟨_, _, _, rfl, h.2⟩
  · cases h
def isName : Expr → Bool
  | .Name .. => true
  | _ => false
theorem isName_is {e : Expr} (h : isName e = true) : ∃ x p, e = .Name x p := by
  unfold isName at h
  split at h
  · exact ⟨_, _, rfl⟩
  · cases h
def oE (f : Expr → Bool) : Option Expr → Bool
  | some e => f e
  | none => false
def oN : Option Expr → Bool
  | none => true
  | some _ => false
def lE (f : Expr → Bool) : List Expr → Bool
  | [e] => f e
  | _ => false
theorem lE_is {f : Expr → Bool} {es : List Expr} (h : lE f es = true) : ∃ e, es = [e] ∧ f e = true :=
  match es, h with
  | [e], h => ⟨e, rfl, h⟩
/-- a builtin that a loop goes through, called with one or two -/
def cRng (Γ : G) (f : Str) (g : List Expr → Bool) (x : Str) : List Expr → List Keyword → Bool
  | [e], [] => decide (x = f) && isGl Γ x && Γ.fre.contains x && g [e] && noStar e
  | _, _ => false
theorem cRng_is {Γ : G} {f : Str} {g : List Expr → Bool} {e : Expr} (h : cCall (cRng Γ f g) e = true) : ∃ p a q, e = .Call (.Name f p) [a] [] q ∧ isGl Γ f = true ∧ Γ.fre.contains f = true ∧ g [a] = true ∧ noStar a = true := by
  obtain ⟨x, p, es, ks, q, rfl, h⟩ := cCall_is h
  exact match es, ks, h with
  | [a], [], h => by
    have h : (decide (x = f) && isGl Γ x && Γ.fre.contains x && g [a] && noStar a) = true := h
    simp only [Bool.and_eq_true] at h
    cases of_decide_eq_true h.1.1.1.1
    exact ⟨p, a, q, rfl, h.1.1.1.2, h.1.1.2, h.1.2, h.2⟩
def cRng2 (Γ : G) (f : Str) (g : List Expr → Bool) (x : Str) : List Expr → List Keyword → Bool
  | [e, e2], [] => decide (x = f) && isGl Γ x && Γ.fre.contains x && g [e, e2] && noStar e && noStar e2
  | _, _ => false
theorem cRng2_is {Γ : G} {f : Str} {g : List Expr → Bool} {e : Expr} (h : cCall (cRng2 Γ f g) e = true) : ∃ p a b q, e = .Call (.Name f p) [a, b] [] q ∧ isGl Γ f = true ∧ Γ.fre.contains f = true ∧ g [a, b] = true ∧ noStar a = true ∧ noStar b = true := by
  obtain ⟨x, p, es, ks, q, rfl, h⟩ := cCall_is h
  exact match es, ks, h with
  | [a, b], [], h => by
    have h : (decide (x = f) && isGl Γ x && Γ.fre.contains x && g [a, b] && noStar a && noStar b) = true := h
    simp only [Bool.and_eq_true] at h
    cases of_decide_eq_true h.1.1.1.1.1
    exact ⟨p, a, b, q, rfl, h.1.1.1.1.2, h.1.1.1.2, h.1.1.2, h.1.2, h.2⟩
def isTupT : Expr → Bool
  | .Tuple .. => true
  | _ => false
theorem isTupT_is {e : Expr} (h : isTupT e = true) : ∃ es k p, e = .Tuple es k p := by
  unfold isTupT at h
  split at h
  · exact ⟨_, _, _, rfl⟩
  · cases h
def cCons {α : Type} (f : α → Bool) (g : List α → Bool) : List α → Bool
  | e :: es => f e && g es
  | [] => false
theorem cCons_is {α : Type} {f : α → Bool} {g : List α → Bool} {l : List α} (h : cCons f g l = true) : ∃ e es, l = e :: es ∧ f e = true ∧ g es = true :=
  match l, h with
  | e :: es, h => by
    simp only [cCons, Bool.and_eq_true] at h
    exact ⟨e, es, rfl, h.1, h.2⟩
theorem emp_is {α : Type} {l : List α} (h : l.isEmpty = true) : l = [] :=
  match l, h with
  | [], _ => rfl
mutual
def chkE (Γ : G) : ME → Expr → Bool
  | .var i => cVar Γ i
  | .ci i => cCon (kInt i)
  | .cb i => cCon (kBool i)
  | .cn => cCon kNone
  | .cs x => cCon (kStr x)
  | .con x => cGl Γ fun y => decide (x = y) && (Γ.con x).isSome
  | .ty n => cGl Γ fun y => decide (y = Str.ofString n) && Γ.fre.contains y && (n == "int" || n == "str" || n == "bool" || n == "list" || n == "tuple" || n == "ValueError" || n == "LookupError" || n == "ArithmeticError" || n == "Exception")
  | .bin op a b => cBin op (chkE Γ a) (chkE Γ b)
  | .cmp op a b => cCmps (cCmp op (chkE Γ a) (chkE Γ b))
  | .chain o1 o2 a b c => cCmps (cChain o1 o2 (chkE Γ a) (chkE Γ b) (chkE Γ c))
  | .neg a => cUn .USub (chkE Γ a)
  | .not a => cUn .Not (chkE Γ a)
  | .bo op l => cBo op (chkA Γ l)
  | .ite c a b => cIf (chkE Γ c) (chkE Γ a) (chkE Γ b)
  | .tup l => cTup (chkA Γ l)
  | .lst l => cLst (chkA Γ l)
  | .sub a b => cSub (chkE Γ a) (chkE Γ b)
  | .dsub a b => cSub (chkE Γ a) (chkE Γ b)
  | .slice a lo hi => cSlice (chkE Γ a) (chkO Γ lo) (chkO Γ hi)
  | .call f l => fun e => cCall (cPos Γ (fun x => decide (f = x) && isGl Γ x && sigLen Γ f l.len) (chkA Γ l)) e || (isNil l && cCall (cNo fun x => decide (f = x) && isGl Γ x && sigLen Γ f 0) e)
  | .callv i fs l => cCall (cPos Γ (fun x => (Γ.N[i]? == some x) && isVis Γ x && fs.all fun f => sigLen Γ f l.len) (chkA Γ l))
  | .callk f l => cCall (cKw (fun x ks => decide (f = x) && isGl Γ x && Γ.kwf f && sigKw Γ f l.len ks) (chkK Γ l))
  | .imp f l => cCall (cPos Γ (fun x => decide (Γ.imp x = some f) && isGl Γ x) (chkA Γ l))
  | .bf f l => cCall (cPos Γ (fun x => decide (x = Str.ofString f.name) && isGl Γ x && Γ.fre.contains x) (chkA Γ l))
  | .comp _ t it c e => cLC (cC1 fun x tg iter ifs s => blkC Γ.N Γ.sc s (ownOf Γ t) && decide ((ownOf Γ t).map (·.2) = t.slots) && chkT (Γ.inBlk s) t tg && chkI Γ it tg iter && chkC (Γ.inBlk s) c ifs && chkE (Γ.inBlk s) e x && notSet iter)
  | .comp2 t it c t1 it1 c1 e => cLC (cC2 fun x tg iter ifs tg1 iter1 ifs1 s => blkC Γ.N Γ.sc s (ownL Γ (t.slots ++ t1.slots)) && decide ((ownL Γ (t.slots ++ t1.slots)).map (·.2) = t.slots ++ t1.slots) && chkT (Γ.inBlk s) t tg && chkI Γ it tg iter && chkC (Γ.inBlk s) c ifs && chkT (Γ.inBlk s) t1 tg1 && chkI (Γ.inBlk s) it1 tg1 iter1 && chkC (Γ.inBlk s) c1 ifs1 && chkE (Γ.inBlk s) e x && notSet iter && notSet iter1)
  | .comp3 t it c t1 it1 c1 t2 it2 c2 e => cLC (cC3 fun x tg iter ifs tg1 iter1 ifs1 tg2 iter2 ifs2 s => blkC Γ.N Γ.sc s (ownL Γ (t.slots ++ (t1.slots ++ t2.slots))) && decide ((ownL Γ (t.slots ++ (t1.slots ++ t2.slots))).map (·.2) = t.slots ++ (t1.slots ++ t2.slots)) && chkT (Γ.inBlk s) t tg && chkI Γ it tg iter && chkC (Γ.inBlk s) c ifs && chkT (Γ.inBlk s) t1 tg1 && chkI (Γ.inBlk s) it1 tg1 iter1 && chkC (Γ.inBlk s) c1 ifs1 && chkT (Γ.inBlk s) t2 tg2 && chkI (Γ.inBlk s) it2 tg2 iter2 && chkC (Γ.inBlk s) c2 ifs2 && chkE (Γ.inBlk s) e x && notSet iter && notSet iter1 && notSet iter2)
  | .dcomp _ t it c a b => cDC fun k v tg iter ifs s => blkC Γ.N Γ.sc s (ownOf Γ t) && decide ((ownOf Γ t).map (·.2) = t.slots) && chkT (Γ.inBlk s) t tg && chkI Γ it tg iter && chkC (Γ.inBlk s) c ifs && chkE (Γ.inBlk s) a k && chkE (Γ.inBlk s) b v && notSet iter
  | .op2 f a b => cO2 f (chkE Γ a) (chkE Γ b)
  | .new k x l => cNew Γ k x l (chkA Γ l) (chkK Γ l)
  | .un1 f a => cU1 f (chkE Γ a)
def chkA (Γ : G) : MEs → List Expr → Bool
  | .nil => List.isEmpty
  | .cons a l => cCons (chkE Γ a) (chkA Γ l)
def chkK (Γ : G) : MEs → List Keyword → Bool
  | .nil => List.isEmpty
  | .cons a l => cCons (fun k : Keyword => chkE Γ a k.value) (chkK Γ l)
def chkO (Γ : G) : MO → Option Expr → Bool
  | .none => oN
  | .some a => oE (chkE Γ a)
def chkC (Γ : G) : MO → List Expr → Bool
  | .none => List.isEmpty
  | .some a => lE (chkE Γ a)
def chkI (Γ : G) : MI → Expr → Expr → Bool
  | .seq a => fun _ => chkE Γ a
  | .rng l => fun _ => cCall (cRng Γ "range" (chkA Γ l))
  | .rng2 l => fun _ => cCall (cRng2 Γ "range" (chkA Γ l))
  | .zip l => fun tg e => isTupT tg && cCall (cRng2 Γ "zip" (chkA Γ l)) e
  | .keys a => fun _ => chkE Γ a
  | .zipS a => fun tg e => isName tg && cZipS Γ (chkE Γ a) e
end
/-! side conditions -/
theorem star_cons {e : Expr} {es : List Expr} {env : Env} (h : noStar e = true) : starEach (e :: es) env = (false, eval e env) :: starEach es env := by
  cases e <;> first | rfl | (simp [noStar] at h)
theorem star_plain {es : List Expr} {env : Env} {pos : Pos} (h : es.all noStar = true) : (backTo pos (starEach es env)).any (·.1) = false := by
  induction es with
  | nil => rfl
  | cons e es ih =>
    rw [List.all_cons, Bool.and_eq_true] at h
    rw [star_cons h.1]
    show (false || (backTo pos (starEach es env)).any (·.1)) = false
    rw [ih h.2]
    rfl
theorem marks_no {op : CmpOp} {b : Expr} (h : notSet b = true) : behindInMarks op b = false := by
  cases b <;> first | rfl | (simp [notSet] at h)
theorem plain_ix {b : Expr} (h : notSlice b = true) : PlainIx b := by
  intro o i
  cases b <;> first | rfl | (simp [notSlice] at h)
theorem swaps_no {e : Expr} {t : Option Expr} {l : Nat} {env : Env} (h : notComp e = true) : swapsWith e t l env = pure false := by
  cases e <;> first | rfl | (simp [notComp] at h)
theorem folded_no {e : Expr} {env : Env} (h : notSet e = true) : ∀ x, foldedSetIterable e env x = pure x := by
  intro x
  cases e <;> first | rfl | (simp [notSet] at h)
/-- what the words are about -/
structure Cg (Γ : G) (X : Cx) (B : Bx) (call : Str → List D → Cells → Rs D) (con : Str → Option D) : Prop where
  co : Co X B
  N : X.N = Γ.N
  sc : X.env.scope = Γ.sc
  fn : ∀ x, (match Γ.blk with | none => true | some s => s.names.lookup x == some NameKind.cell) = true → X.fn x = true
  df : ∀ f ps, Γ.sig f = some ps → Df X B f ps (call f)
  dk : ∀ f ps, Γ.kwf f = true → Γ.sig f = some ps → Dk X B f ps (call f)
  con : ∀ x, (Γ.con x).isSome = true → ∃ d u v, con x = some d ∧ B.mg x = some u ∧ RelV v u ∧ ∀ ps H, Rp B.K B.mg ps H d v
  fre : ∀ x ∈ Γ.fre, B.mg x = none
  im : ∀ x f, Γ.imp x = some f → B.mg x = some (.builtin f.id)
  rm : ∃ k, Room k X.A
theorem okN_of {x : Str} (h : okN x = true) : (x == ("__debug__" : Str)) = false ∧ (x == ("__classdict__" : Str)) = false ∧ x ≠ ("__name__" : Str) := by
  unfold okN at h
  simp only [Bool.and_eq_true, Bool.not_eq_true', beq_eq_false_iff_ne] at h
  exact ⟨by simpa using h.1.1, by simpa using h.1.2, by simpa using h.2⟩
section
variable {Γ : G} {X : Cx} {B : Bx} {W : WX} {call : Str → List D → Cells → Rs D} {con : Str → Option D}
theorem Cg.gl (C : Cg Γ X B call con) {x : Str} (h : isGl Γ x = true) : Gl X x := by
  unfold isGl at h
  show X.env.kindOf x = _
  unfold Env.kindOf
  rw [C.sc]
  simpa using h
theorem Cg.vis (C : Cg Γ X B call con) {x : Str} (h : isVis Γ x = true) : Vis X.env.scope x := by
  unfold isVis at h
  rw [C.sc]
  unfold Vis
  split at h <;> simp_all
theorem Cg.loc (C : Cg Γ X B call con) {x : Str} (h : isLoc Γ x = true) : L2.Loc X.env.scope x := by
  unfold isLoc at h
  rw [C.sc]
  unfold L2.Loc
  split at h <;> simp_all
theorem Cg.fnn (C : Cg Γ X B call con) {x : Str} (h : isFn Γ x = true) : X.fn x = true ∨ X.env.scope.names.lookup x = some .local := by
  unfold isFn at h
  rw [Bool.or_eq_true] at h
  rcases h with h | h
  · right
    rw [C.sc]
    simpa using h
  · exact .inl (C.fn x h)
/-- in the block of a comprehension -/
theorem Cg.block (C : Cg Γ X B call con) (s : Scope) (sh : Shared) (H : Hp) (c : Addr) (cl : List (Str × Addr)) (fp : List Addr) (h0 : Addr → Prop) : Cg (Γ.inBlk s) (X.blk sh H s (compEnvC s cl c X.env) fp) ⟨B.K, B.mg, B.ps, h0⟩ call con := by
  refine ⟨⟨C.co.K, C.co.mg, C.co.calm, C.co.nd, C.co.hu⟩, C.N, ?_, fun x h => h, fun f ps e => ⟨(C.df f ps e).ex⟩, fun f ps k e => ⟨(C.dk f ps k e).ex⟩, C.con, C.fre, C.im, C.rm⟩
  show relabel s X.env = relS s Γ.sc
  rw [← C.sc]
  rfl
theorem pgT (C : Cg Γ X B call con) : ∀ {is : List Nat} {es : List Expr} {vs : List Nat}, chkTs Γ is es = true → (∀ i ∈ is, i ∈ vs) → ∃ t, PGsm X es is vs t
  | [], [], vs, _, _ => ⟨_, pgsm_nil⟩
  | [], _ :: _, vs, h, _ => by simp [chkTs] at h
  | _ :: _, [], vs, h, _ => by simp [chkTs] at h
  | i :: is, e :: es, vs, h, hv => by
    cases e <;> try simp only [chkTs, Bool.false_eq_true] at h
    simp only [Bool.and_eq_true] at h
    obtain ⟨t, p⟩ := pgT C (is := is) (es := es) (vs := vs) h.2 fun j m => hv j (List.mem_cons_of_mem _ m)
    refine ⟨_, pgsm_cons (pgm_name C.co.nd (by rw [C.N]; simpa using h.1.1.1) (C.loc h.1.1.2) (C.fnn h.1.2) (hv i (List.mem_cons_self ..))) p rfl⟩
/-- the store's reading, the same in every context -/
def gNames : List Nat → TGs
  | [] => gNil
  | i :: is => gCons (gName i) (gNames is)
def tgT (K : PySem.W.Frag) : MT → TG
  | .n i => gName i
  | .t is => fun v σ H Q => gTup K is.length (gNames is) v σ H Q ∨ gLst K is.length (gNames is) v σ H Q
theorem pgT' (C : Cg Γ X B call con) : ∀ {is : List Nat} {es : List Expr} {vs : List Nat}, chkTs Γ is es = true → (∀ i ∈ is, i ∈ vs) → PGsm X es is vs (gNames is) ∧ (assignEach es X.env).length = is.length ∧ (assignEach es X.env).findIdx? (·.1) = none
  | [], [], vs, _, _ => ⟨pgsm_nil, rfl, rfl⟩
  | [], _ :: _, vs, h, _ => by simp [chkTs] at h
  | _ :: _, [], vs, h, _ => by simp [chkTs] at h
  | i :: is, e :: es, vs, h, hv => by
    cases e <;> try simp only [chkTs, Bool.false_eq_true] at h
    simp only [Bool.and_eq_true] at h
    obtain ⟨p, h1, h2⟩ := pgT' C (is := is) (es := es) (vs := vs) h.2 fun j m => hv j (List.mem_cons_of_mem _ m)
    refine ⟨pgsm_cons (pgm_name C.co.nd (by rw [C.N]; simpa using h.1.1.1) (C.loc h.1.1.2) (C.fnn h.1.2) (hv i (List.mem_cons_self ..))) p rfl, ?_, ?_⟩
    · show (assignEach es X.env).length + 1 = _
      rw [h1]
      rfl
    · show List.findIdx? (·.1) ((false, _) :: assignEach es X.env) = none
      rw [List.findIdx?_cons]
      simp [h2]
theorem pgm_T (C : Cg Γ X B call con) {t : MT} {tg : Expr} {vs : List Nat} (h : chkT Γ t tg = true) (hv : ∀ i ∈ t.slots, i ∈ vs) : PGm X tg t.gs vs (tgT X.K t) := by
  cases t with
  | n i =>
    cases tg <;> try simp only [chkT, Bool.false_eq_true] at h
    simp only [Bool.and_eq_true] at h
    exact pgm_name C.co.nd (by rw [C.N]; simpa using h.1.1) (C.loc h.1.2) (C.fnn h.2) (hv i (List.mem_cons_self ..))
  | t is =>
    cases tg <;> try simp only [chkT, Bool.false_eq_true] at h
    obtain ⟨p, h1, h2⟩ := pgT' C h hv
    exact pgm_tup C.co.calm p h1 h2
theorem bf_ok (co : Co X B) (f : BF) (ht : f.isTy = false) : CallR X (.builtin f.name) (rA B f.fn) := by
  cases f <;> first | exact len_F co | exact abs_F co | exact max_F co | exact min_F co | exact sum_F co | exact sort_F co | exact all_F co | exact any_F co | exact isi_F co | exact dsort_F co | exact isx_F co | exact absurd ht (by decide)
theorem bf_okT (co : Co X B) (f : BF) (ht : f.isTy = true) : CallR X (.type f.name) (rA B f.fn) := by
  cases f <;> first | exact int_F co | exact tuple_F co | exact list_F co | exact absurd ht (by decide)
theorem bf_boot (f : BF) : bootBuiltins (Str.ofString f.name) = some (if f.isTy = true then .type f.name else .builtin f.name) := by
  cases f <;> decide +kernel
theorem ty_boot {n : String} (h : (n == "int" || n == "str" || n == "bool" || n == "list" || n == "tuple" || n == "ValueError" || n == "LookupError" || n == "ArithmeticError" || n == "Exception") = true) : bootBuiltins (Str.ofString n) = some (.type n) := by
  simp only [Bool.or_eq_true, beq_iff_eq] at h
  rcases h with (((((((h | h) | h) | h) | h) | h) | h) | h) | h <;> subst h <;> decide +kernel
theorem takesF {X : Cx} : Takes X WF := fun _ _ ⟨_, _, _, _, _, _, _, _, _, _, _, _, _, _, _, _, w⟩ => w.elim
theorem dbg_boot {x : Str} (h : okN x = true) : (x == ("__debug__" : Str)) = false := (okN_of h).1
theorem range_boot : Gl X "range" → True := fun _ => trivial
abbrev SE (call : Str → List D → Cells → Rs D) (con : Str → Option D) (m : ME) : Prop := ∀ (e : Expr) {Γ : G} {X : Cx} {B : Bx} {W : WX}, Cg Γ X B call con → Takes X W → chkE Γ m e = true → PM X B W e (evE call con m)
abbrev SA1 (call : Str → List D → Cells → Rs D) (con : Str → Option D) (l : MEs) : Prop := ∀ (es : List Expr) {Γ : G} {X : Cx} {B : Bx} {W : WX}, Cg Γ X B call con → Takes X W → chkA Γ l es = true → es.all noStar = true → PA X es (tA B W (evA call con l))
abbrev SB1 (call : Str → List D → Cells → Rs D) (con : Str → Option D) (l : MEs) : Prop := ∀ (es : List Expr) {Γ : G} {X : Cx} {B : Bx} {W : WX} {op : BoolOp} {pos : Pos}, Cg Γ X B call con → Takes X W → chkA Γ l es = true → es ≠ [] → PMb X B W op es pos (evB call con op l)
abbrev SK1 (call : Str → List D → Cells → Rs D) (con : Str → Option D) (l : MEs) : Prop := ∀ (ks : List Keyword) {Γ : G} {X : Cx} {B : Bx} {W : WX}, Cg Γ X B call con → Takes X W → chkK Γ l ks = true → PK X ks (tA B W (evA call con l))
structure SA (call : Str → List D → Cells → Rs D) (con : Str → Option D) (l : MEs) : Prop where
  a : SA1 call con l
  b : SB1 call con l
  k : SK1 call con l
abbrev SO1 (call : Str → List D → Cells → Rs D) (con : Str → Option D) (o : MO) : Prop := ∀ (eo : Option Expr) {Γ : G} {X : Cx} {B : Bx} {W : WX}, Cg Γ X B call con → Takes X W → chkO Γ o eo = true → PO X eo (tO B W (evO call con o))
abbrev SC1 (call : Str → List D → Cells → Rs D) (con : Str → Option D) (o : MO) : Prop := ∀ (es : List Expr) {Γ : G} {X : Cx} {B : Bx} {W : WX}, Cg Γ X B call con → Takes X W → chkC Γ o es = true → PTs X es (tT B W (evC call con o))
abbrev SO (call : Str → List D → Cells → Rs D) (con : Str → Option D) (o : MO) : Prop := SO1 call con o ∧ SC1 call con o
abbrev SI (call : Str → List D → Cells → Rs D) (con : Str → Option D) (m : MI) : Prop := ∀ (e : Expr) {tg : Expr} {Γ : G} {X : Cx} {B : Bx} {W : WX}, Cg Γ X B call con → Takes X W → chkI Γ m tg e = true → PIm X B W tg e (evI call con m)
section
variable {call : Str → List D → Cells → Rs D} {con : Str → Option D}

theorem sndE_var (i : Nat) : SE call con (.var i) := by
  intro e Γ X B W C tk h
  obtain ⟨x, p, rfl, h1, h2, h3⟩ := cVar_is h
  exact pm_var C.co i (by rw [C.N]; exact h1) (C.vis h2) (okN_of h3).1 (okN_of h3).2.1
theorem sndE_ci (i : Int) : SE call con (.ci i) := by
  intro e Γ X B W C tk h
  obtain ⟨c, k, p, rfl, h'⟩ := cCon_is h
  cases kInt_is h'
  exact pm_int C.co
theorem sndE_cb (i : Bool) : SE call con (.cb i) := by
  intro e Γ X B W C tk h
  obtain ⟨c, k, p, rfl, h'⟩ := cCon_is h
  cases kBool_is h'
  exact pm_bl C.co
theorem sndE_cn  : SE call con (.cn) := by
  intro e Γ X B W C tk h
  obtain ⟨c, k, p, rfl, h'⟩ := cCon_is h
  cases kNone_is h'
  exact pm_non C.co
theorem sndE_cs (x : Str) : SE call con (.cs x) := by
  intro e Γ X B W C tk h
  obtain ⟨c, k, p, rfl, h'⟩ := cCon_is h
  obtain ⟨rfl, h2⟩ := kStr_is h'
  exact pm_str C.co h2
theorem sndE_con (x : Str) : SE call con (.con x) := by
  intro e Γ X B W C tk h
  obtain ⟨y, p, rfl, g, o, h'⟩ := cGl_is h
  clear h
  have h := h'
  rw [Bool.and_eq_true] at h
  cases of_decide_eq_true h.1
  obtain ⟨d, u, v, h1, h2, h3, h4⟩ := C.con x h.2
  rw [show evE call con (.con x) = sRet d by simp only [evE, h1]]
  exact pm_glob C.co (C.gl g) h2 h3 (h4 _) (okN_of o).1
theorem sndE_ty (n : String) : SE call con (.ty n) := by
  intro e Γ X B W C tk h
  obtain ⟨y, p, rfl, g, o, h'⟩ := cGl_is h
  clear h
  have h := h'
  rw [Bool.and_eq_true, Bool.and_eq_true] at h
  cases of_decide_eq_true h.1.1
  exact pm_ty C.co (C.gl g) (C.fre _ (by simpa using h.1.2)) (ty_boot h.2) (okN_of o).2.2 (okN_of o).1
theorem sndE_bin (op : Operator) (a : ME) (iha : SE call con a) (b : ME) (ihb : SE call con b) : SE call con (.bin op a b) := by
  intro e Γ X B W C tk h
  obtain ⟨x, y, p, rfl, h1, h2⟩ := cBin_is h
  exact pm_bin C.co (iha _ C tk h1) (ihb _ C tk h2)
theorem sndE_cmp (op : CmpOp) (a : ME) (iha : SE call con a) (b : ME) (ihb : SE call con b) : SE call con (.cmp op a b) := by
  intro e Γ X B W C tk h
  obtain ⟨x, y, p, rfl, h1, h2, h3⟩ := cCmp_is h
  exact pm_cmp C.co (iha _ C tk h1) (ihb _ C tk h2) (marks_no h3)
theorem sndE_chain (o1 : CmpOp) (o2 : CmpOp) (a : ME) (iha : SE call con a) (b : ME) (ihb : SE call con b) (c : ME) (ihc : SE call con c) : SE call con (.chain o1 o2 a b c) := by
  intro e Γ X B W C tk h
  obtain ⟨x, y, z, p, rfl, h1, h2, h3, h4⟩ := cChain_is h
  exact pm_chain C.co (iha _ C tk h1) (ihb _ C tk h2) (ihc _ C tk h3) (by show behindInMarks _ z = false; exact marks_no h4)
theorem sndE_neg (a : ME) (iha : SE call con a) : SE call con (.neg a) := by
  intro e Γ X B W C tk h
  obtain ⟨x, p, rfl, h'⟩ := cUn_is h
  exact pm_neg C.co (iha _ C tk h')
theorem sndE_not (a : ME) (iha : SE call con a) : SE call con (.not a) := by
  intro e Γ X B W C tk h
  obtain ⟨x, p, rfl, h'⟩ := cUn_is h
  exact pm_not C.co (iha _ C tk h')
theorem sndE_bo (op : BoolOp) (l : MEs) (ihl : SA call con l) : SE call con (.bo op l) := by
  intro e Γ X B W C tk h
  obtain ⟨es, p, rfl, h1, h2⟩ := cBo_is h
  exact (ihl.b es C tk h1 h2).pm
theorem sndE_ite (c : ME) (ihc : SE call con c) (a : ME) (iha : SE call con a) (b : ME) (ihb : SE call con b) : SE call con (.ite c a b) := by
  intro e Γ X B W C tk h
  obtain ⟨x, y, z, p, rfl, h1, h2, h3⟩ := cIf_is h
  exact pm_if C.co (ihc _ C tk h1) (iha _ C tk h2) (ihb _ C tk h3)
theorem sndE_tup (l : MEs) (ihl : SA call con l) : SE call con (.tup l) := by
  intro e Γ X B W C tk h
  obtain ⟨es, k, p, rfl, h1, h2⟩ := cTup_is h
  exact pm_tup C.co (ihl.a _ C tk h1 h2)
theorem sndE_lst (l : MEs) (ihl : SA call con l) : SE call con (.lst l) := by
  intro e Γ X B W C tk h
  obtain ⟨es, p, rfl, h1, h2⟩ := cLst_is h
  exact pm_lst C.co (ihl.a _ C tk h1 h2)
theorem sndE_sub (a : ME) (iha : SE call con a) (b : ME) (ihb : SE call con b) : SE call con (.sub a b) := by
  intro e Γ X B W C tk h
  obtain ⟨x, y, p, rfl, h1, h2, h3⟩ := cSub_is h
  exact pm_sub C.co (iha _ C tk h1) (ihb _ C tk h2) (plain_ix h3)
theorem noSl_of {b : Expr} (h : notSlice b = true) : NoSl b := by
  intro o i
  cases b <;> first | rfl | (simp [notSlice] at h)
theorem sndE_dsub (a : ME) (iha : SE call con a) (b : ME) (ihb : SE call con b) : SE call con (.dsub a b) := by
  intro e Γ X B W C tk h
  obtain ⟨x, y, p, rfl, h1, h2, h3⟩ := cSub_is h
  exact pm_dsub C.co (iha _ C tk h1) (ihb _ C tk h2) (noSl_of h3)
theorem sndE_slice (a : ME) (iha : SE call con a) (lo : MO) (ihlo : SO call con lo) (hi : MO) (ihhi : SO call con hi) : SE call con (.slice a lo hi) := by
  intro e Γ X B W C tk h
  obtain ⟨x, l, u, p, q, rfl, h1, h2, h3⟩ := cSlice_is h
  exact pm_slice C.co (iha _ C tk h1) (ihlo.1 _ C tk h2) (ihhi.1 _ C tk h3)
theorem sndE_call (f : Str) (l : MEs) (ihl : SA call con l) : SE call con (.call f l) := by
  intro e Γ X B W C tk h
  have h0 : (cCall (cPos Γ (fun x => decide (f = x) && isGl Γ x && sigLen Γ f l.len) (chkA Γ l)) e || (isNil l && cCall (cNo fun x => decide (f = x) && isGl Γ x && sigLen Γ f 0) e)) = true := h
  clear h
  rw [Bool.or_eq_true] at h0
  rcases h0 with h1 | h1
  · obtain ⟨x, p, a, es, q, rfl, ho, hA, hs, h⟩ := cPos_is h1
    rw [Bool.and_eq_true, Bool.and_eq_true] at h
    cases of_decide_eq_true h.1.1
    obtain ⟨ps, hp, hl⟩ := sigLen_is h.2
    rw [show evE call con (.call f l) = sCall ps.length (call f) (evA call con l) by rw [hl]; simp only [evE]]
    have hs' := hs
    rw [List.all_cons, Bool.and_eq_true] at hs'
    exact pm_call C.co tk (C.df _ ps hp) (C.gl h.1.2) (ihl.a _ C tk hA hs) (okN_of ho).1 (star_cons hs'.1) (star_plain hs'.2)
  · rw [Bool.and_eq_true] at h1
    obtain ⟨hl, h2⟩ := h1
    cases isNil_is hl
    obtain ⟨x, p, q, rfl, ho, h⟩ := cNo_is h2
    rw [Bool.and_eq_true, Bool.and_eq_true] at h
    cases of_decide_eq_true h.1.1
    obtain ⟨ps, hp, hl⟩ := sigLen_is h.2
    cases List.eq_nil_of_length_eq_zero hl
    exact pm_call0 C.co tk (C.df _ [] hp) (C.gl h.1.2) (okN_of ho).1
theorem sndE_callv (i : Nat) (fs : List Str) (l : MEs) (ihl : SA call con l) : SE call con (.callv i fs l) := by
  intro e Γ X B W C tk h
  obtain ⟨x, p, a, es, q, rfl, ho, hA, hs, h'⟩ := cPos_is h
  clear h
  have h := h'
  rw [Bool.and_eq_true, Bool.and_eq_true] at h
  have hs' := hs
  rw [List.all_cons, Bool.and_eq_true] at hs'
  refine pm_callv C.co tk (fun f hf => ?_) (by rw [C.N]; simpa using h.1.1) (C.vis h.1.2) (ihl.a _ C tk hA hs) (okN_of ho).1 (okN_of ho).2.1 (star_cons hs'.1) (star_plain hs'.2)
  obtain ⟨ps, hp, hl⟩ := sigLen_is (List.all_eq_true.mp h.2 f hf)
  exact ⟨ps, C.df f ps hp, hl⟩
theorem sndE_callk (f : Str) (l : MEs) (ihl : SA call con l) : SE call con (.callk f l) := by
  intro e Γ X B W C tk h
  obtain ⟨x, p, a, es, q, rfl, ho, hA, h'⟩ := cKw_is h
  clear h
  have h := h'
  rw [Bool.and_eq_true, Bool.and_eq_true, Bool.and_eq_true] at h
  cases of_decide_eq_true h.1.1.1
  obtain ⟨ps, hp, hk, hl⟩ := sigKw_is h.2
  rw [show evE call con (.callk f l) = sCall ps.length (call f) (evA call con l) by rw [hl]; simp only [evE]]
  exact pm_callk C.co tk (C.dk _ ps h.1.2 hp) (C.gl h.1.1.2) (ihl.k _ C tk hA) (okN_of ho).1 hk
theorem sndE_imp (f : IM) (l : MEs) (ihl : SA call con l) : SE call con (.imp f l) := by
  intro e Γ X B W C tk h
  obtain ⟨x, p, a, es, q, rfl, ho, hA, hs, h'⟩ := cPos_is h
  clear h
  have h := h'
  rw [Bool.and_eq_true] at h
  have hs' := hs
  rw [List.all_cons, Bool.and_eq_true] at hs'
  exact pm_imp C.co f (C.gl h.2) (C.im _ f (of_decide_eq_true h.1)) (ihl.a _ C tk hA hs) (okN_of ho).1 (star_cons hs'.1) (star_plain hs'.2)
theorem sndE_bf (f : BF) (l : MEs) (ihl : SA call con l) : SE call con (.bf f l) := by
  intro e Γ X B W C tk h
  obtain ⟨x, p, a, es, q, rfl, h3, h4, h5, h'⟩ := cPos_is h
  clear h
  have h := h'
  rw [Bool.and_eq_true, Bool.and_eq_true] at h
  cases of_decide_eq_true h.1.1
  have h5' := h5
  rw [List.all_cons, Bool.and_eq_true] at h5'
  have hb := bf_boot f
  cases ht : f.isTy with
  | true =>
    rw [ht] at hb
    exact pm_callTy C.co (bf_okT C.co f ht) (C.gl h.1.2) (C.fre _ (by simpa using h.2)) hb (ihl.a _ C tk h4 h5) (okN_of h3).2.2 (okN_of h3).1 (star_cons h5'.1) (star_plain h5'.2)
  | false =>
    rw [ht] at hb
    exact pm_callB C.co (bf_ok C.co f ht) (C.gl h.1.2) (C.fre _ (by simpa using h.2)) hb (ihl.a _ C tk h4 h5) (okN_of h3).2.2 (okN_of h3).1 (star_cons h5'.1) (star_plain h5'.2)
theorem sndE_comp (kk : Nat) (t : MT) (it : MI) (ihit : SI call con it) (c : MO) (ihc : SO call con c) (m : ME) (ihm : SE call con m) : SE call con (.comp kk t it c m) := by
  intro e Γ X B W C tk h
  obtain ⟨x, gs, s, p, rfl, ha⟩ := cLC_is h
  clear h
  obtain ⟨tg, iter, ifs, rfl, h⟩ := cC1_is ha
  simp only [Bool.and_eq_true] at h
  obtain ⟨⟨⟨⟨⟨⟨h2, h3⟩, h4⟩, h5⟩, h6⟩, h7⟩, h8⟩ := h
  have h3 := of_decide_eq_true h3
  obtain ⟨wi, hwi, rd⟩ := (ihit iter (tg := tg) C tk h5).ex
  have ok : BlkOk X.N X.env.scope s (ownOf Γ t) := blkOk_by (by rw [C.N, C.sc]; exact h2)
  have tkF : ∀ (Y : Cx), Takes Y WF := fun _ => takesF
  refine PM.of C.co.K (PE.imp (pe_lc (g := tgT X.K t) (tt := tTx B (evC call con c)) (te := tEx B (evE call con m)) C.co.calm C.co.nd hwi ok
    (fun sh H cc cl fp => (pgm_T (C.block s sh H cc cl fp (fun _ => False)) h4 (vs := t.slots) fun i m => m).pg)
    (fun sh H cc cl fp => pts_ex fun h0 => ihc.2 ifs (C.block s sh H cc cl fp h0) (tkF _) h6)
    (fun sh H cc cl fp => pe_ex fun h0 => (ihm x (C.block s sh H cc cl fp h0) (tkF _) h7).pe) (folded_no h8)) fun σ H Q q => ?_) fun _ => rfl
  rw [h3]
  exact compRead (g := t.gs) (t := tgT X.K t) wi rd t.slots (fun B' hK' => (pgm_T (C.block s ({} : Shared) (fun _ => none) 0 [] [] fun _ => False) h4 (vs := t.slots) fun i m => m).rd B' (by rw [hK', ← C.co.K])) σ H Q q
theorem sndE_comp2 (t : MT) (it : MI) (ihit : SI call con it) (c : MO) (ihc : SO call con c) (t1 : MT) (it1 : MI) (ihit1 : SI call con it1) (c1 : MO) (ihc1 : SO call con c1) (m : ME) (ihm : SE call con m) : SE call con (.comp2 t it c t1 it1 c1 m) := by
  intro e Γ X B W C tk h
  obtain ⟨x, gs, s, p, rfl, ha⟩ := cLC_is h
  clear h
  obtain ⟨tg, iter, ifs, tg1, iter1, ifs1, rfl, h⟩ := cC2_is ha
  simp only [Bool.and_eq_true] at h
  obtain ⟨⟨⟨⟨⟨⟨⟨⟨⟨⟨h2, h3⟩, h4⟩, h5⟩, h6⟩, h4'⟩, h5'⟩, h6'⟩, h7⟩, h8⟩, h8'⟩ := h
  have h3 := of_decide_eq_true h3
  obtain ⟨wi, hwi, rd⟩ := (ihit iter (tg := tg) C tk h5).ex
  have ok : BlkOk X.N X.env.scope s (ownL Γ (t.slots ++ t1.slots)) := blkOk_by (by rw [C.N, C.sc]; exact h2)
  have tkF : ∀ (Y : Cx), Takes Y WF := fun _ => takesF
  refine PM.of C.co.K (PE.imp (pe_lc2 (g := tgT X.K t) (tt := tTx B (evC call con c)) (wi1 := tIx B (evI call con it1)) (g1 := tgT X.K t1) (tt1 := tTx B (evC call con c1)) (te := tEx B (evE call con m)) (vs1 := t1.slots) C.co.calm C.co.nd hwi ok
    (fun i hi => by rw [h3]; exact List.mem_append_right _ hi)
    (fun sh H cc cl fp => (pgm_T (C.block s sh H cc cl fp (fun _ => False)) h4 (vs := t.slots) fun i m => m).pg)
    (fun sh H cc cl fp => pts_ex fun h0 => ihc.2 ifs (C.block s sh H cc cl fp h0) (tkF _) h6)
    (fun sh H cc cl fp => pi_ex fun h0 => ihit1 iter1 (C.block s sh H cc cl fp h0) (tkF _) h5')
    (fun sh H cc cl fp => (pgm_T (C.block s sh H cc cl fp (fun _ => False)) h4' (vs := t1.slots) fun i m => m).pg)
    (fun sh H cc cl fp => pts_ex fun h0 => ihc1.2 ifs1 (C.block s sh H cc cl fp h0) (tkF _) h6')
    (fun sh H cc cl fp => pe_ex fun h0 => (ihm x (C.block s sh H cc cl fp h0) (tkF _) h7).pe) (folded_no h8) (fun env => folded_no h8')) fun σ H Q q => ?_) fun _ => rfl
  rw [h3]
  have rdT : ∀ (t : MT) (tg : Expr) (vs : List Nat), (∀ i ∈ t.slots, i ∈ vs) → chkT (Γ.inBlk s) t tg = true → ∀ (B' : Bx), B'.K = B.K → ∀ env env' cs fp (σ : L2.St) H d v (Q : L2.St → Hp → Prop), StR B' env cs fp σ H → B'.Rp H (hsOf B' fp) d v → t.gs d env = some env' →
    (∀ fp' σ', StR B' env' cs fp' σ' H → Off vs σ σ' → FpSub vs fp fp' → Q σ' H) → tgT X.K t v σ H Q := fun t tg vs hv hT B' hK' => (pgm_T (C.block s ({} : Shared) (fun _ => none) 0 [] [] fun _ => False) hT (vs := vs) hv).rd B' (by rw [hK', ← C.co.K])
  have inner : BodyR B (bLp (tIx B (evI call con it1)) (tgT X.K t1) (tTx B (evC call con c1)) (bEl (tEx B (evE call con m))) t1.slots) (sLp t1.slots t1.gs (evI call con it1) (evC call con c1) (sEl (evE call con m))) :=
    body_lp (fun h0 σ H R env cs fp S h => ⟨h0, env, cs, fp, S, h⟩) (rdT t1 tg1 t1.slots (fun i m => m) h4') body_el
  exact compN_read (vs := t.slots ++ t1.slots) rd (rdT t tg _ (fun i m => List.mem_append_left _ m) h4) inner σ H Q q
theorem sndE_comp3 (t : MT) (it : MI) (ihit : SI call con it) (c : MO) (ihc : SO call con c) (t1 : MT) (it1 : MI) (ihit1 : SI call con it1) (c1 : MO) (ihc1 : SO call con c1) (t2 : MT) (it2 : MI) (ihit2 : SI call con it2) (c2 : MO) (ihc2 : SO call con c2) (m : ME) (ihm : SE call con m) : SE call con (.comp3 t it c t1 it1 c1 t2 it2 c2 m) := by
  intro e Γ X B W C tk h
  obtain ⟨x, gs, s, p, rfl, ha⟩ := cLC_is h
  clear h
  obtain ⟨tg, iter, ifs, tg1, iter1, ifs1, tg2, iter2, ifs2, rfl, h⟩ := cC3_is ha
  simp only [Bool.and_eq_true] at h
  obtain ⟨⟨⟨⟨⟨⟨⟨⟨⟨⟨⟨⟨⟨⟨h2, h3⟩, h4⟩, h5⟩, h6⟩, h4'⟩, h5'⟩, h6'⟩, h4''⟩, h5''⟩, h6''⟩, h7⟩, h8⟩, h8'⟩, h8''⟩ := h
  have h3 := of_decide_eq_true h3
  obtain ⟨wi, hwi, rd⟩ := (ihit iter (tg := tg) C tk h5).ex
  have ok : BlkOk X.N X.env.scope s (ownL Γ (t.slots ++ (t1.slots ++ t2.slots))) := blkOk_by (by rw [C.N, C.sc]; exact h2)
  have tkF : ∀ (Y : Cx), Takes Y WF := fun _ => takesF
  refine PM.of C.co.K (PE.imp (pe_lc3 (g0 := tgT X.K t) (tt0 := tTx B (evC call con c)) (w1 := tIx B (evI call con it1)) (g1 := tgT X.K t1) (tt1 := tTx B (evC call con c1)) (w2 := tIx B (evI call con it2)) (g2 := tgT X.K t2) (tt2 := tTx B (evC call con c2)) (te := tEx B (evE call con m)) (vs1 := t1.slots ++ t2.slots) (vs2 := t2.slots) C.co.calm C.co.nd hwi ok
    (fun i hi => by rw [h3]; exact List.mem_append_right _ hi) (fun i hi => List.mem_append_right _ hi)
    (fun sh H cc cl fp => (pgm_T (C.block s sh H cc cl fp (fun _ => False)) h4 (vs := t.slots) fun i m => m).pg)
    (fun sh H cc cl fp => pts_ex fun h0 => ihc.2 ifs (C.block s sh H cc cl fp h0) (tkF _) h6)
    (fun sh H cc cl fp => pi_ex fun h0 => ihit1 iter1 (C.block s sh H cc cl fp h0) (tkF _) h5')
    (fun sh H cc cl fp => (pgm_T (C.block s sh H cc cl fp (fun _ => False)) h4' (vs := t1.slots) fun i m => m).pg)
    (fun sh H cc cl fp => pts_ex fun h0 => ihc1.2 ifs1 (C.block s sh H cc cl fp h0) (tkF _) h6')
    (fun sh H cc cl fp => pi_ex fun h0 => ihit2 iter2 (C.block s sh H cc cl fp h0) (tkF _) h5'')
    (fun sh H cc cl fp => (pgm_T (C.block s sh H cc cl fp (fun _ => False)) h4'' (vs := t2.slots) fun i m => m).pg)
    (fun sh H cc cl fp => pts_ex fun h0 => ihc2.2 ifs2 (C.block s sh H cc cl fp h0) (tkF _) h6'')
    (fun sh H cc cl fp => pe_ex fun h0 => (ihm x (C.block s sh H cc cl fp h0) (tkF _) h7).pe) (folded_no h8) (fun env => folded_no h8') (fun env => folded_no h8'')) fun σ H Q q => ?_) fun _ => rfl
  rw [h3]
  have rdT : ∀ (t : MT) (tg : Expr) (vs : List Nat), (∀ i ∈ t.slots, i ∈ vs) → chkT (Γ.inBlk s) t tg = true → ∀ (B' : Bx), B'.K = B.K → ∀ env env' cs fp (σ : L2.St) H d v (Q : L2.St → Hp → Prop), StR B' env cs fp σ H → B'.Rp H (hsOf B' fp) d v → t.gs d env = some env' →
    (∀ fp' σ', StR B' env' cs fp' σ' H → Off vs σ σ' → FpSub vs fp fp' → Q σ' H) → tgT X.K t v σ H Q := fun t tg vs hv hT B' hK' => (pgm_T (C.block s ({} : Shared) (fun _ => none) 0 [] [] fun _ => False) hT (vs := vs) hv).rd B' (by rw [hK', ← C.co.K])
  have in2 : BodyR B (bLp (tIx B (evI call con it2)) (tgT X.K t2) (tTx B (evC call con c2)) (bEl (tEx B (evE call con m))) t2.slots) (sLp t2.slots t2.gs (evI call con it2) (evC call con c2) (sEl (evE call con m))) :=
    body_lp (fun h0 σ H R env cs fp S h => ⟨h0, env, cs, fp, S, h⟩) (rdT t2 tg2 t2.slots (fun i m => m) h4'') body_el
  have in1 := body_lp (B := B) (vs := t1.slots ++ t2.slots) (wi := tIx B (evI call con it1)) (mi := evI call con it1) (mc := evC call con c1) (fun h0 σ H R env cs fp S h => ⟨h0, env, cs, fp, S, h⟩) (rdT t1 tg1 (t1.slots ++ t2.slots) (fun i m => List.mem_append_left _ m) h4') in2
  exact compN_read (vs := t.slots ++ (t1.slots ++ t2.slots)) rd (rdT t tg _ (fun i m => List.mem_append_left _ m) h4) in1 σ H Q q
theorem sndE_op2 (f : O2) (a : ME) (iha : SE call con a) (b : ME) (ihb : SE call con b) : SE call con (.op2 f a b) := by
  intro e Γ X B W C tk h
  cases f with
  | din =>
    obtain ⟨x, y, p, rfl, h1, h2, h3⟩ := cCmp_is h
    exact pm_dinop C.co (iha _ C tk h1) (ihb _ C tk h2) (marks_no h3)
  | dnin =>
    obtain ⟨x, y, p, rfl, h1, h2, h3⟩ := cCmp_is h
    exact pm_dninop C.co (iha _ C tk h1) (ihb _ C tk h2) (marks_no h3)
  | fdiv =>
    obtain ⟨x, y, p, rfl, h1, h2⟩ := cBin_is h
    exact pm_fdiv C.co (iha _ C tk h1) (ihb _ C tk h2)
  | rep =>
    obtain ⟨x, y, p, rfl, h1, h2⟩ := cBin_is h
    exact pm_rep C.co (iha _ C tk h1) (ihb _ C tk h2)
theorem cls_at {Γ : G} {X : Cx} {B : Bx} (C : Cg Γ X B call con) {x : Str} (h : (Γ.con x).isSome = true) : ∃ d, con x = some d ∧ ClsAt B x d := by
  obtain ⟨d, u, v, h1, h2, h3, h4⟩ := C.con x h
  exact ⟨d, h1, u, v, h2, h3, h4⟩
theorem sndE_new (k : NK) (x : Str) (l : MEs) (ihl : SA call con l) : SE call con (.new k x l) := by
  intro e Γ X B W C tk h
  have h0 : cNew Γ k x l (chkA Γ l) (chkK Γ l) e = true := h
  clear h
  obtain ⟨rk, hr⟩ := C.rm
  show PM X B W e (sNw k (con x) (evA call con l))
  cases k with
  | pos =>
    obtain ⟨y, p, a, es, q, rfl, ho, hA, hs, h⟩ := cPos_is h0
    rw [Bool.and_eq_true, Bool.and_eq_true] at h
    cases of_decide_eq_true h.1.1
    obtain ⟨d, ed, at_⟩ := cls_at C h.2
    have hs' := hs
    rw [List.all_cons, Bool.and_eq_true] at hs'
    rw [ed]
    exact pm_new C.co hr at_ (C.gl h.1.2) (okN_of ho).1 (ihl.a _ C tk hA hs) (star_cons hs'.1) (star_plain hs'.2)
  | kw g =>
    obtain ⟨y, p, a, es, q, rfl, ho, hA, h⟩ := cKw_is h0
    rw [Bool.and_eq_true, Bool.and_eq_true, Bool.and_eq_true] at h
    cases of_decide_eq_true h.1.1.1
    obtain ⟨d, ed, at_⟩ := cls_at C h.1.2
    rw [ed]
    exact pm_newK C.co hr at_ (C.gl h.1.1.2) (okN_of ho).1 (ihl.k _ C tk hA) (of_decide_eq_true h.2)
  | no =>
    obtain ⟨y, p, q, rfl, ho, h⟩ := cNo_is h0
    rw [Bool.and_eq_true, Bool.and_eq_true] at h
    cases of_decide_eq_true h.1.1
    obtain ⟨d, ed, at_⟩ := cls_at C h.2
    rw [ed]
    exact pm_new0 C.co hr at_ (C.gl h.1.2) (okN_of ho).1
theorem sndE_un1 (f : U1) (a : ME) (iha : SE call con a) : SE call con (.un1 f a) := by
  intro e Γ X B W C tk h
  cases f with
  | attr f =>
    obtain ⟨x, p, q, rfl, h'⟩ := cU1_is h
    exact pm_attr C.co (iha _ C tk h') rfl
theorem sndE_dcomp (k : DK) (t : MT) (it : MI) (ihit : SI call con it) (c : MO) (ihc : SO call con c) (a : ME) (iha : SE call con a) (b : ME) (ihb : SE call con b) : SE call con (.dcomp k t it c a b) := by
  intro e Γ X B W C tk h
  obtain ⟨kx, vx, tg, iter, ifs, s, p, rfl, ha⟩ := cDC_is h
  clear h
  simp only [Bool.and_eq_true] at ha
  obtain ⟨⟨⟨⟨⟨⟨⟨h2, h3⟩, h4⟩, h5⟩, h6⟩, h7⟩, h7'⟩, h8⟩ := ha
  have h3 := of_decide_eq_true h3
  obtain ⟨wi, hwi, rd⟩ := (ihit iter (tg := tg) C tk h5).ex
  have ok : BlkOk X.N X.env.scope s (ownOf Γ t) := blkOk_by (by rw [C.N, C.sc]; exact h2)
  have tkF : ∀ (Y : Cx), Takes Y WF := fun _ => takesF
  refine PM.of C.co.K (PE.imp (pe_dk (g := tgT X.K t) (tt := tTx B (evC call con c)) (tk := tEx B (evE call con a)) (tv := tEx B (evE call con b)) (kd_ok (Nat.lt_of_le_of_lt (Nat.le_add_right _ _) C.co.hu) k) C.co.calm C.co.nd hwi ok
    (fun sh H cc cl fp => (pgm_T (C.block s sh H cc cl fp (fun _ => False)) h4 (vs := t.slots) fun i m => m).pg)
    (fun sh H cc cl fp => pts_ex fun h0 => ihc.2 ifs (C.block s sh H cc cl fp h0) (tkF _) h6)
    (fun sh H cc cl fp => pe_ex fun h0 => (iha kx (C.block s sh H cc cl fp h0) (tkF _) h7).pe)
    (fun sh H cc cl fp => pe_ex fun h0 => (ihb vx (C.block s sh H cc cl fp h0) (tkF _) h7').pe) (folded_no h8)) fun σ H Q q => ?_) fun _ => rfl
  rw [h3]
  exact dcRead (g := t.gs) (t := tgT X.K t) wi rd t.slots (fun B' hK' => (pgm_T (C.block s ({} : Shared) (fun _ => none) 0 [] [] fun _ => False) h4 (vs := t.slots) fun i m => m).rd B' (by rw [hK', ← C.co.K])) σ H Q q
theorem sndA_nil  : SA1 call con (.nil) := by
  intro es Γ X B W C tk h hs
  cases emp_is h
  exact pa_n C.co
theorem sndA_cons (a : ME) (iha : SE call con a) (l : MEs) (ihl : SA call con l) : SA1 call con (.cons a l) := by
  intro es Γ X B W C tk h hs
  obtain ⟨e, es, rfl, h1, h2⟩ := cCons_is h
  rw [List.all_cons, Bool.and_eq_true] at hs
  exact pa_c C.co (iha _ C tk h1) (ihl.a _ C tk h2 hs.2) (star_cons hs.1)
theorem sndB_nil  : SB1 call con (.nil) := by
  intro es Γ X B W op pos C tk h hn
  exact absurd (emp_is h) hn
theorem sndB_cons1 (a : ME) (iha : SE call con a) : SB1 call con (.cons a .nil) := by
  intro es Γ X B W op pos C tk h hn
  obtain ⟨e, es, rfl, h1, h2⟩ := cCons_is h
  cases emp_is h2
  cases op with
  | And => exact pb_one_and (iha _ C tk h1)
  | Or => exact pb_one_or (iha _ C tk h1)
theorem sndB_cons2 (a : ME) (iha : SE call con a) (b : ME) (l : MEs) (ihl : SA call con (.cons b l)) : SB1 call con (.cons a (.cons b l)) := by
  intro es Γ X B W op pos C tk h hn
  obtain ⟨e, es, rfl, h1, h2⟩ := cCons_is h
  obtain ⟨e2, es, rfl, h3, h4⟩ := cCons_is h2
  have r := ihl.b (e2 :: es) (op := op) (pos := pos) C tk h2 (by simp)
  cases op with
  | And => exact pb_and C.co (iha _ C tk h1) r
  | Or => exact pb_or C.co (iha _ C tk h1) r
theorem sndO_none  : SO1 call con (.none) := by
  intro eo Γ X B W C tk h
  exact match eo, h with
  | none, _ => po_n C.co
theorem sndO_some (a : ME) (iha : SE call con a) : SO1 call con (.some a) := by
  intro eo Γ X B W C tk h
  exact match eo, h with
  | some _, h => po_s C.co (iha _ C tk h)
theorem sndC_none  : SC1 call con (.none) := by
  intro es Γ X B W C tk h
  cases emp_is h
  exact ptm_nil
theorem sndC_some (a : ME) (iha : SE call con a) : SC1 call con (.some a) := by
  intro es Γ X B W C tk h
  obtain ⟨e, rfl, h'⟩ := lE_is h
  exact ptm_one (iha e C tk h')
theorem sndI_seq (a : ME) (iha : SE call con a) : SI call con (.seq a) := by
  intro e tg Γ X B W C tk h
  exact pi_seq C.co (iha e C tk h)
theorem sndI_rng (l : MEs) (ihl : SA call con l) : SI call con (.rng l) := by
  intro e tg Γ X B W C tk h
  obtain ⟨p, a, q, rfl, h1, h2, h3, h4⟩ := cRng_is h
  exact pi_rng1 C.co (C.gl h1) (C.fre _ (by simpa using h2)) (ihl.a _ C tk h3 (by simp [h4])) (star_cons h4)
theorem sndI_rng2 (l : MEs) (ihl : SA call con l) : SI call con (.rng2 l) := by
  intro e tg Γ X B W C tk h
  obtain ⟨p, a, b, q, rfl, h1, h2, h3, h4, h5⟩ := cRng2_is h
  exact pi_rng2 C.co (C.gl h1) (C.fre _ (by simpa using h2)) (ihl.a _ C tk h3 (by simp [h4, h5])) (by rw [star_cons h4, star_cons h5]; rfl) (star_cons h5)
theorem sndI_zip (l : MEs) (ihl : SA call con l) : SI call con (.zip l) := by
  intro e tg Γ X B W C tk h
  have h : (isTupT tg && cCall (cRng2 Γ "zip" (chkA Γ l)) e) = true := h
  rw [Bool.and_eq_true] at h
  obtain ⟨es, k, p, rfl⟩ := isTupT_is h.1
  obtain ⟨p, a, b, q, rfl, h1, h2, h3, h4, h5⟩ := cRng2_is h.2
  exact pi_zipD C.co (C.gl h1) (C.fre _ (by simpa using h2)) (ihl.a _ C tk h3 (by simp [h4, h5])) (star_cons h4) (star_plain (by simp [h5]))
theorem sndI_keys (a : ME) (iha : SE call con a) : SI call con (.keys a) := by
  intro e tg Γ X B W C tk h
  exact pi_keysD C.co (iha e C tk h)
theorem sndI_zipS (a : ME) (iha : SE call con a) : SI call con (.zipS a) := by
  intro e tg Γ X B W C tk h
  have h : (isName tg && cZipS Γ (chkE Γ a) e) = true := h
  rw [Bool.and_eq_true] at h
  obtain ⟨x, p, rfl⟩ := isName_is h.1
  obtain ⟨p1, b, sp, q, rfl, h1, h2, h3⟩ := cZipS_is h.2
  exact pi_zipRD C.co (C.gl h1) (C.fre _ (by simpa using h2)) (iha _ C tk h3)
theorem sndK_nil : SK1 call con .nil := by
  intro ks Γ X B W C tk h
  cases emp_is h
  exact pk_n C.co
theorem sndK_cons (a : ME) (iha : SE call con a) (l : MEs) (ihl : SA call con l) : SK1 call con (.cons a l) := by
  intro ks Γ X B W C tk h
  obtain ⟨k, ks, rfl, h1, h2⟩ := cCons_is h
  obtain ⟨nm, e, kp⟩ := k
  exact pk_c C.co (iha e C tk h1) (ihl.k ks C tk h2)
theorem sndAll : (∀ m, SE call con m) ∧ (∀ l, SA call con l) ∧ (∀ o, SO call con o) ∧ (∀ i, SI call con i) := by
  have hA : ∀ a l, SE call con a → SA call con l → SA call con (.cons a l) := by
    intro a l ha hl
    refine ⟨sndA_cons a ha l hl, ?_, sndK_cons a ha l hl⟩
    cases l with
    | nil => exact sndB_cons1 a ha
    | cons b l => exact sndB_cons2 a ha b l hl
  have hE := @ME.rec (motive_1 := SE call con) (motive_2 := SA call con) (motive_3 := SO call con) (motive_4 := SI call con)
    sndE_var sndE_ci sndE_cb sndE_cn sndE_cs sndE_con sndE_ty (fun op a b ha hb => sndE_bin op a ha b hb) (fun op a b ha hb => sndE_cmp op a ha b hb)
    (fun o p a b c ha hb hc => sndE_chain o p a ha b hb c hc) (fun a ha => sndE_neg a ha) (fun a ha => sndE_not a ha) (fun op l hl => sndE_bo op l hl)
    (fun c a b hc ha hb => sndE_ite c hc a ha b hb) (fun l hl => sndE_tup l hl) (fun l hl => sndE_lst l hl) (fun a b ha hb => sndE_sub a ha b hb) (fun a b ha hb => sndE_dsub a ha b hb)
    (fun a lo hi ha hl hh => sndE_slice a ha lo hl hi hh) (fun f l hl => sndE_call f l hl) (fun i fs l hl => sndE_callv i fs l hl) (fun f l hl => sndE_callk f l hl) (fun f l hl => sndE_imp f l hl) (fun f l hl => sndE_bf f l hl)
    (fun kk t it c e hi hc he => sndE_comp kk t it hi c hc e he) (fun t it c t1 it1 c1 e hi hc hi1 hc1 he => sndE_comp2 t it hi c hc t1 it1 hi1 c1 hc1 e he) (fun t it c t1 it1 c1 t2 it2 c2 e hi hc hi1 hc1 hi2 hc2 he => sndE_comp3 t it hi c hc t1 it1 hi1 c1 hc1 t2 it2 hi2 c2 hc2 e he)
    (fun k t it c a b hi hc ha hb => sndE_dcomp k t it hi c hc a ha b hb) (fun f a b ha hb => sndE_op2 f a ha b hb) (fun k x l hl => sndE_new k x l hl) (fun f a ha => sndE_un1 f a ha) ⟨sndA_nil, sndB_nil, sndK_nil⟩ hA ⟨sndO_none, sndC_none⟩ (fun a ha => ⟨sndO_some a ha, sndC_some a ha⟩)
    (fun a ha => sndI_seq a ha) (fun l hl => sndI_rng l hl) (fun l hl => sndI_rng2 l hl) (fun l hl => sndI_zip l hl) (fun a ha => sndI_keys a ha) (fun a ha => sndI_zipS a ha)
  have hL : ∀ l, SA call con l := fun l => MEs.recOn (motive_1 := SE call con) (motive_2 := SA call con) (motive_3 := fun _ => True) (motive_4 := fun _ => True) l
    (fun _ => hE _) (fun _ => hE _) (fun _ => hE _) (hE _) (fun _ => hE _) (fun _ => hE _) (fun _ => hE _) (fun _ _ _ _ _ => hE _) (fun _ _ _ _ _ => hE _)
    (fun _ _ _ _ _ _ _ _ => hE _) (fun _ _ => hE _) (fun _ _ => hE _) (fun _ _ _ => hE _) (fun _ _ _ _ _ _ => hE _) (fun _ _ => hE _) (fun _ _ => hE _) (fun _ _ _ _ => hE _) (fun _ _ _ _ => hE _) (fun _ _ _ _ _ _ => hE _) (fun _ _ _ => hE _) (fun _ _ _ _ => hE _) (fun _ _ _ => hE _) (fun _ _ _ => hE _) (fun _ _ _ => hE _)
    (fun _ _ _ _ _ _ _ _ => hE _) (fun _ _ _ _ _ _ _ _ _ _ _ _ => hE _) (fun _ _ _ _ _ _ _ _ _ _ _ _ _ _ _ _ _ => hE _) (fun _ _ _ _ _ _ _ _ _ _ => hE _) (fun _ _ _ _ _ => hE _) (fun _ _ _ _ => hE _) (fun _ _ _ => hE _) ⟨sndA_nil, sndB_nil, sndK_nil⟩ hA trivial (fun _ _ => trivial) (fun _ _ => trivial) (fun _ _ => trivial) (fun _ _ => trivial) (fun _ _ => trivial) (fun _ _ => trivial) (fun _ _ => trivial)
  refine ⟨hE, hL, fun o => ?_, fun i => ?_⟩
  · cases o with
    | none => exact ⟨sndO_none, sndC_none⟩
    | some a => exact ⟨sndO_some a (hE a), sndC_some a (hE a)⟩
  · cases i with
    | seq a => exact sndI_seq a (hE a)
    | rng l => exact sndI_rng l (hL l)
    | rng2 l => exact sndI_rng2 l (hL l)
    | zip l => exact sndI_zip l (hL l)
    | keys a => exact sndI_keys a (hE a)
    | zipS a => exact sndI_zipS a (hE a)
theorem sndE (m : ME) : SE call con m := sndAll.1 m
theorem sndA (l : MEs) : SA1 call con l := (sndAll.2.1 l).a
theorem sndO (o : MO) : SO1 call con o := (sndAll.2.2.1 o).1
theorem sndC (o : MO) : SC1 call con o := (sndAll.2.2.1 o).2
theorem sndI (i : MI) : SI call con i := sndAll.2.2.2 i
end
end
end Pc

set_option Elab.async false
set_option maxRecDepth 100000
set_option maxHeartbeats 4000000
namespace Pc
open PySem PySem.Spec PyProof.Rows L2 PySem.PcX
section
variable {X : Cx} {B : Bx} {W : WX} {C F fI : Addr} {xn ff : Str} {qual : String}
/-- the making of an error -/
def tMkX (ff : Str) (C : Addr) (ta : TA) : L2.St → Hp → XK → Prop := fun σ H Q => ta σ H fun vs H1 => ∃ v, vs = [v] ∧ ∀ d, H1 d = none → Q (.ref C) (some d) (upd H1 d (.xd [(ff, v)]))
theorem pmk_bad {e : Expr} {es : List Expr} {ta : TA} {p pos : Pos} {k : Nat} (T : BadT X.K X.mg xn ff qual C F fI) (hr : Room k X.A) (ha : PA X (e :: es) ta) (hg : Gl X xn) (hdb : (xn == ("__debug__" : Str)) = false)
    (he : starEach (e :: es) X.env = (false, eval e X.env) :: starEach es X.env) (hpl : (backTo pos (starEach es X.env)).any (·.1) = false) : PMk X (.Call (.Name xn p) (e :: es) [] pos) (tMkX ff C ta) := by
  intro pins s σ H Q I h
  refine wpAny_Call_Name_kw (ld_glob I hg T.gC ?_ hdb)
  refine PySem.W.callWith_K (h₀ := X.base) I.ok.mod.kin T.kC (thn (ha.run pos pins s σ H _ I h) fun us s1 hh => ?_) he hpl
  obtain ⟨vs, H1, I1, r1, v, rfl, q1⟩ := hh
  refine ⟨I1.kIn, ?_⟩
  cases r1 with
  | cons rv rn =>
    rename_i v' us'
    cases rn
    show wpAny _ _ (call (.ref C) [v']) _ _ _
    have G : s1.heap.Ns mainGlobals X.mg := I1.ok.mod.glob.keeps I1.bk
    have hlim := I1.nolimit
    obtain ⟨hp, g, dr, tk, os⟩ := s1
    refine wpAny_call (bad_made T (.inl ⟨rfl, rfl⟩) I1.kIn G hlim (by have := hr.dp; omega) fun h' tk' e d M => ?_)
    show MkP X pins σ Q (.ref e) ⟨h', g, dr, tk', os⟩
    obtain ⟨oe, fv, hoe, hc, hd, hdat, h1⟩ := M.obj
    have hns := M.ns
    obtain ⟨G', g1, g2⟩ := restrict h' fun b => decide (b ≠ e)
    have gk : ∀ b, b ≠ e → G'.get? b = h'.get? b := fun b hb => g1 b (decide_eq_true hb)
    have ge : G'.get? e = none := g2 e (by simp)
    have old : ∀ b o, hp.get? b = some o → G'.get? b = some o := fun b o q => (gk b (Nat.ne_of_lt (Nat.lt_of_lt_of_le (Heap.lt_size q) M.new))).trans (M.keep b o q)
    have ob : ObjOk X.prog X.w (upd H1 d (.xd [(ff, v)])) G' d (.xd [(ff, v)]) := ⟨_, hns.at (fun o q => (gk d M.dne).trans q), fun f => relO_one rv ff f⟩
    have J : Inv X pins σ (upd H1 d (.xd [(ff, v)])) ⟨G', g, dr, tk', os⟩ := I1.laid (t' := tk') old M.dbig ob
    refine ⟨e, oe, fv, ⟨G', g, dr, tk', os⟩, _, .ref C, some d, rfl, J, fun b o q => ?_, ge, hoe, ⟨hc, hd⟩, hdat, h1, ?_, rfl, I1.bare, raises_own T.exC T.tyC, q1 d (I1.hok.fresh M.dbig)⟩
    · by_cases hb : b = e
      · have q' : G'.get? b = some o := q
        rw [hb, ge] at q'; cases q'
      · exact (gk b hb).symm.trans q
    · rw [upd_ne (Ne.symm M.dne)]
      exact I1.hok.fresh M.new
end
/-- an error with one field -/
def sRais (x f : Str) (ms : AS) : SS := fun env cs => match ms env cs with
  | .ok [y] c => if y.1.plain = true then .exc x [(f, y.2)] env c else .bad
  | .ok _ _ => .bad
  | .exc z fs c => .exc z fs env c
  | .bad => .bad
/-- the classes of the table are errors of the text -/
def Bts (K : PySem.W.Frag) (mg : Str → Option Value) (rf : Str → Option Str) : Prop := ∀ x f, rf x = some f → (x == ("__debug__" : Str)) = false ∧ ∃ qual C F fI, BadT K mg x f qual C F fI
theorem s_rais {X : Cx} {B : Bx} {W : WX} {rf : Str → Option Str} (bt : Bts X.K X.mg rf) (co : Co X B) (rm : ∃ k, Room k X.A) (tk : Takes X W) {x f : Str} (hf : rf x = some f) (hg : Gl X x) {ms : AS} {e : Expr} {es : List Expr} {p p1 p2 : Pos} (hs : (e :: es).all noStar = true) (ha : PA X (e :: es) (tA B W ms)) :
    PSm X B W (.Raise (some (.Call (.Name x p) (e :: es) [] p1)) none p2) (sRais x f ms) := by
  intro H0 bs
  obtain ⟨k, hr⟩ := rm
  obtain ⟨hdb, qual, C, F, fI, T⟩ := bt x f hf
  rw [List.all_cons, Bool.and_eq_true] at hs
  refine PS.imp (ps_raise co.calm tk (pmk_bad T hr ha hg hdb (star_cons hs.1) (star_plain hs.2))) fun E σ H ⟨env, cs, fp, S, q⟩ => ?_
  refine ⟨env, cs, fp, S.st, ?_⟩
  unfold sRais at q
  cases e : ms env cs with
  | bad => rw [e] at q; exact q.elim
  | exc z fs c => rw [e] at q; exact fun cls dd H' sb cc ex => q cls dd fp σ H' (S.next sb cc) ex
  | ok xs c =>
    rw [e] at q
    intro vs H1 sb cc pl
    have S1 := S.next sb cc
    match xs, q with
    | [], q => exact q.elim
    | _ :: _ :: _, q => exact q.elim
    | [y], q =>
      simp only at q
      split at q
      · rename_i hp
        obtain ⟨v, rfl, pv⟩ := pl.one
        refine ⟨v, rfl, fun d hd => ?_⟩
        have nd : ¬ hsOf B fp d := fun z => by
          obtain ⟨o, e⟩ := S1.st.there z
          rw [hd] at e; cases e
        have le : Le (hid H1 (hsOf B fp)) (hid (upd H1 d (.xd [(f, v)])) (hsOf B fp)) := hid_le (fun _ h => h) fun a o _ e => upd_le hd a o e
        refine q _ _ fp σ _ (S1.next (SB.upd hd) (S1.st.cells.next S1.st.ps (upd_le hd))) ⟨C, rfl, by rw [← co.mg]; exact T.gC, .inr ⟨d, _, rfl, upd_same, fun g u hu => ?_⟩⟩
        by_cases hg : g = f
        · subst hg
          have e1 : u = y.2 := by simpa [List.lookup] using hu.symm
          subst e1
          exact ⟨v, by simp [List.lookup], Rp.mono le _ _ (pv.rp hp)⟩
        · have hb2 : (g == f) = false := by simpa using hg
          simp [List.lookup, hb2] at hu
      · exact q.elim
/-! try: body, except x as n: return .. -/
def excK (x f : Str) (i : Nat) (tag : Option Str) : Rt → Rt
  | .exc y fs env c => if y = x ∧ i < env.length then (match fs.lookup f with
    | some d => .ret (match tag with
      | some t => .tup [.str t, d]
      | none => d) c
    | none => .bad) else .bad
  | r => r
def sTry (x f : Str) (i : Nat) (tag : Option Str) (mb : SS) : SS := fun env cs => excK x f i tag (mb env cs)
theorem s_try {X : Cx} {B : Bx} {W : WX} {rf : Str → Option Str} (bt : Bts X.K X.mg rf) (co : Co X B) (tk : Takes X W) (sk : X.stack = X.env :: X.outer) (fr : X.env.frame = some X.env.locals) {x f n : Str} (hf : rf x = some f) (hg : Gl X x) {i : Nat} (hi : X.N[i]? = some n) (hn : X.env.kindOf n = some .local)
    (hd : (n == ("__debug__" : Str)) = false) (hcd : (n == ("__classdict__" : Str)) = false) {body : List Stmt} {mb : SS} {tag : Option Str} {sx : Expr} {np pos pos' p2 : Pos}
    (hx : match tag with | none => ∃ p3 p4, sx = .Attribute (.Name n p3) f p4 | some t => t.length ≤ 100000 ∧ ∃ j p1 p3 p4 k p5, sx = .Tuple [.Constant (.str t) j p1, .Attribute (.Name n p3) f p4] k p5)
    (hb : ∀ (W' : WX) (pn : List (Addr × Obj)) (xe : Value → Shared → Prop), Takes (X.tr pn xe) W' → PassesOwn (model X.prog X.w) X.A X.env xe → PSsm (X.tr pn xe) B W' body mb) :
    PSm X B W (.Try body [.ExceptHandler (some (.Name x np)) (some n) [.Return (some sx) p2] pos'] [] [] pos) (sTry x f i tag mb) := by
  intro H0 bs
  obtain ⟨hdb, qual, C, F, fI, T⟩ := bt x f hf
  have ve : Vis X.env.scope n := .inl hn
  have xf : ∀ (a : Addr) (oe : Obj) (cls : Value) (d : Option Addr) (pn : List (Addr × Obj)), Zc cls d oe → (∃ vs, oe.data = .fields vs) → ∀ p3 p4, PE (X.suite a ((a, oe) :: pn)) (.Attribute (.Name n p3) f p4) (tXf a cls d C f (tVar i)) := fun a oe cls d pn hz hdat p3 p4 =>
    pe_xf (X := X) ⟨T.ga, T.gg, T.exC, T.hdC⟩ T.noN hz hdat (pe_var (X := X.suite a ((a, oe) :: pn)) hi ve hd hcd)
  let rd : Addr → Value → Option Addr → TE := fun a cls d => match tag with
    | none => tXf a cls d C f (tVar i)
    | some t => tTup (tCons (tC (.str t)) (tCons (tXf a cls d C f (tVar i)) tNil))
  refine PS.imp (ps_try_as (c := .ref C) (i := i) (tb := fun W' => tS B H0 bs W' mb) (ts := fun a cls d => tSeq (tRet (rd a cls d)) tNext) (Wout := W) sk fr co.nd hi hn ⟨hg, hdb, .inl T.gC⟩ tk (fun W' pn xe tk' hp => hb W' pn xe tk' hp H0 bs) fun a oe cls d pn hz hdat => pss_cons (ps_ret ?_) pss_nil) fun E σ H ⟨env, cs, fp, S, q⟩ => ?_
  · cases tag with
    | none =>
      obtain ⟨p3, p4, rfl⟩ := hx
      exact xf a oe cls d pn hz hdat p3 p4
    | some t =>
      obtain ⟨_, j, p1, p3, p4, k, p5, rfl⟩ := hx
      exact pe_tup (pa_cons pe_str (pa_cons (xf a oe cls d pn hz hdat p3 p4) pa_nil rfl) rfl)
  · refine ⟨env, cs, fp, S, ?_⟩
    unfold sTry at q
    cases em : mb env cs with
    | nx env2 c => rw [em] at q; exact q
    | brk env2 c => rw [em] at q; exact q
    | cnt env2 c => rw [em] at q; exact q
    | ret d c => rw [em] at q; exact q
    | bad => rw [em] at q; exact q.elim
    | exc y fs env2 c =>
      rw [em] at q
      unfold excK at q
      simp only at q
      split at q
      case isFalse => exact q.elim
      rename_i hy
      obtain ⟨hy, hlen⟩ := hy
      subst hy
      cases el : fs.lookup f with
      | none => rw [el] at q; exact q.elim
      | some d =>
        rw [el] at q
        simp only at q
        intro cls dd fp2 σ2 H2 S2 ex
        obtain ⟨C', rfl, hC', hfs⟩ := ex
        have eC : C' = C := by
          rw [← co.mg, T.gC] at hC'
          cases hC'
          rfl
        subst eC
        rcases hfs with ⟨rfl, _⟩ | ⟨dx, fv, rfl, hdx, hl⟩
        · simp at el
        obtain ⟨v, ev, rv⟩ := hl _ _ el
        have hlt : i < σ2.length := by rw [← S2.st.len]; exact hlen
        refine ⟨true, T.te, fun _ a na => ?_, fun z => by cases z⟩
        have var : ∀ (Q : VK), Q v H2 → tXf a (.ref C') (some dx) C' f (tVar i) (σ2.set i (some (.ref a))) H2 Q := fun Q hQ => ⟨.ref a, by rw [List.getElem?_set_self hlt], rfl, rfl, dx, fv, v, rfl, hdx, ev, hQ⟩
        have cl : CsR B B.h0 H2 c := S2.st.cells.less fun a h => .inl h
        have rv0 : B.Rp H2 B.h0 d v := Rp.mono S2.h0le _ _ rv
        cases tag with
        | none => exact var _ (q v H2 S2.same cl rv0)
        | some t =>
          have ht : t.length ≤ 100000 := hx.1
          refine var _ ⟨by show 2 ≤ sizeLine; decide, fun p hp => ?_⟩
          have np : ¬ B.h0 p := fun z => by
            obtain ⟨o, e, _⟩ := S2.st.th0 p z
            rw [hp] at e; cases e
          have le : Le (hid H2 B.h0) (hid (upd H2 p (.tup [.str t, v])) B.h0) := hid_le (fun _ h => h) fun a o _ e => upd_le hp a o e
          refine q (.ref p) _ (S2.same.trans (SB.upd hp)) (cl.next S2.st.ps0 (upd_le hp)) (Rp.tup (xs := [.str t, v]) ((hid_some.mpr ⟨np, upd_same⟩)) (RpL.cons (Rp.str ht) (RpL.cons (Rp.mono le _ _ rv0) RpL.nil)))
/-! raise of an error without a field -/
def sRais0 (x : Str) (cl : Option D) : SS := fun env cs => match cl with
  | some (.cls _ _ _ []) => .exc x [] env cs
  | _ => .bad
theorem pmk_no {X : Cx} {xn : Str} {qual : String} {C F fI : Addr} {p pos : Pos} {k : Nat} (T : NoT X.K X.mg xn qual C F fI) (hr : Room k X.A) {x : Str} (hm : X.mg x = some (.ref C)) (hg : Gl X x) (hdb : (x == ("__debug__" : Str)) = false) : PMk X (.Call (.Name x p) [] [] pos) (fun σ H Q => Q (.ref C) none H) := by
  intro pins s σ H Q I h
  refine wpAny_Call_Name_kw (ld_glob I hg hm ?_ hdb)
  refine PySem.W.callWith_K0 I.kIn T.kC ?_
  refine wpAny_call (no_made T I.kIn (I.ok.mod.glob.keeps I.bk) I.nolimit (by have := hr.dp; omega) fun h' tk' e t1 kk big he => ?_)
  have ne : s.heap.get? e = none := by
    cases z : s.heap.get? e with
    | none => rfl
    | some o => exact absurd (Nat.lt_of_lt_of_le (Heap.lt_size z) big) (Nat.lt_irrefl _)
  exact ⟨e, _, _, s, H, .ref C, none, rfl, I, kk, ne, he, ⟨rfl, rfl⟩, rfl, rfl, I.hok.fresh big, rfl, I.bare, raises_own T.exC T.tyC, h⟩
theorem s_rais0 {X : Cx} {B : Bx} {W : WX} (co : Co X B) (rm : ∃ k, Room k X.A) (tk : Takes X W) {x : Str} {cl : D} (hcl : ClsAt B x cl) (hg : Gl X x) (hdb : (x == ("__debug__" : Str)) = false) {p p1 p2 : Pos} :
    PSm X B W (.Raise (some (.Call (.Name x p) [] [] p1)) none p2) (sRais0 x (some cl)) := by
  intro H0 bs
  obtain ⟨k, hr⟩ := rm
  by_cases hc : ∃ c m b, cl = .cls c m b []
  · obtain ⟨c, m, b, rfl⟩ := hc
    obtain ⟨C, gC, hm, kk⟩ := hcl.get
    obtain ⟨qual, F, fI, T⟩ := kk.made
    rw [← co.K, ← co.mg] at T
    rw [← co.mg] at gC
    refine PS.imp (ps_raise co.calm tk (pmk_no T hr gC hg hdb)) fun E σ H ⟨env, cs, fp, S, q⟩ => ?_
    exact q (.ref C) none fp σ H S ⟨C, rfl, by rw [← co.mg]; exact gC, .inl ⟨rfl, rfl⟩⟩
  · refine ⟨fun pins s σ H D I h => ?_⟩
    obtain ⟨env, cs, fp, S, q⟩ := h
    have e : sRais0 x (some cl) env cs = .bad := by
      unfold sRais0
      split
      · rename_i c m b hx
        cases hx
        exact absurd ⟨_, _, _, rfl⟩ hc
      · rfl
    rw [e] at q
    exact q.elim
/-! try: body, except x as n: return isinstance(n, y) -/
def excI (con : Str → Option D) (x y : Str) (zs : List Str) (i : Nat) : Rt → Rt
  | .exc z _ env c => if zs.contains z = true ∧ i < env.length then (match con z with
    | some (.cls _ m _ _) => if m.lookup x = some true then (match m.lookup y with
      | some b => .ret (.bl b) c
      | none => .bad) else .bad
    | _ => .bad) else .bad
  | r => r
def isFnD : Option D → Bool
  | some (.fn _) => true
  | _ => false
def isClsD : Option D → Bool
  | some (.cls _ _ _ _) => true
  | _ => false
theorem isFnD_is {d : D} (h : isFnD (some d) = true) : ∃ x, d = .fn x := by
  unfold isFnD at h
  split at h
  · rename_i z e
    cases e
    exact ⟨_, rfl⟩
  · cases h
theorem isClsD_is {d : D} (h : isClsD (some d) = true) : ∃ c m b ks, d = .cls c m b ks := by
  unfold isClsD at h
  split at h
  · rename_i e
    cases e
    exact ⟨_, _, _, _, rfl⟩
  · cases h
def sTryI (con : Str → Option D) (x y : Str) (zs : List Str) (i : Nat) (mb : SS) : SS := fun env cs => if isFnD (con x) = true ∧ isClsD (con y) = true then excI con x y zs i (mb env cs) else .bad
/-- isinstance(e, c), e the caught one, whatever it keeps -/
def rIsC (K : PySem.W.Frag) (a : Addr) (cls : Value) (d : Option Addr) : List V → Hp → VK → Prop := fun xs H Q => ∃ (c : V) (cv : Value) (b : Bool) (C : Addr), xs = [.ref a, c] ∧ (∀ u, RelV c u → u = cv) ∧ cls = .ref C ∧ ExcC K C ∧ (d = none ∨ ∃ dd fs, d = some dd ∧ H dd = some (.xd fs)) ∧ PySem.W.kitOne K (.ref C) cv = some b ∧ Q (.bl b) H
theorem call_isC {X : Cx} {a : Addr} {cls : Value} {d : Option Addr} {oe : Obj} {pn : List (Addr × Obj)} (hz : Zc cls d oe) (hf : ∃ vs, oe.data = .fields vs) : CallR (X.suite a ((a, oe) :: pn)) (.builtin "isinstance") (rIsC X.K a cls d) := by
  intro pins s σ H xs us Q I r h
  obtain ⟨c, cv, b, C, rfl, hcv, rfl, ec, hd, hk, q⟩ := h
  obtain ⟨u1, u2, rfl, r1, r2⟩ := vals2 r
  cases r1
  cases hcv _ r2
  obtain ⟨hget, _⟩ := I.pin (a, oe) (List.mem_append_left _ List.mem_cons_self)
  obtain ⟨vs, hv⟩ := hf
  have hn : PySem.W.notCls oe = true := by unfold PySem.W.notCls; rw [hv] <;> rfl
  have hc : (PySem.W.clsIn X.K C).isSome = true := by
    obtain ⟨cd, z, _⟩ := PySem.W.any_some ec.hd
    rw [z]
    rfl
  have J : ∃ od, PySem.W.InstAt s.heap a oe C od := by
    rcases hd with rfl | ⟨dd, fs, rfl, hx⟩
    · exact ⟨none, hget, hz.1, hn, by rw [hz.2]; trivial⟩
    · obtain ⟨mA, hns, hr⟩ := (show ObjOk X.prog X.w H s.heap dd (.xd fs) from I.hok dd _ hx)
      obtain ⟨od, ho, _⟩ := lookIn_ns hns
      exact ⟨some od, hget, hz.1, hn, by rw [hz.2]; exact ho⟩
  obtain ⟨od, J⟩ := J
  exact PySem.W.kia_one (K := X.K) (PySem.W.kitx_exc (C := C) (ox := oe) (od := od) hc ec.hg ec.hk ec.hs ec.ha ec.hn ec.ht ec.hm) I.kIn J hk (fun z => nomatch z) fun tk => ⟨.bl b, H, I.tok tk, rfl, q⟩
theorem s_tryI {X : Cx} {B : Bx} {W : WX} {con : Str → Option D} {x y n : Str} {zs : List Str} {i : Nat} {dx dy : D} (co : Co X B) (tk : Takes X W) (sk : X.stack = X.env :: X.outer) (fr : X.env.frame = some X.env.locals)
    (hzs : ∀ z ∈ zs, ∃ d, con z = some d ∧ ClsAt B z d) (ex : con x = some dx) (ey : con y = some dy) (cx : ClsAt B x dx) (cy : ClsAt B y dy)
    (hg : Gl X x) (hgy : Gl X y) (hdx : (x == ("__debug__" : Str)) = false) (hdy : (y == ("__debug__" : Str)) = false) (hgi : Gl X "isinstance") (hmi : B.mg "isinstance" = none) (hi : X.N[i]? = some n) (hn : X.env.kindOf n = some .local)
    (hd : (n == ("__debug__" : Str)) = false) (hcd : (n == ("__classdict__" : Str)) = false) {body : List Stmt} {mb : SS} {np pos pos' p2 p3 p4 p5 p6 : Pos}
    (hb : ∀ (W' : WX) (pn : List (Addr × Obj)) (xe : Value → Shared → Prop), Takes (X.tr pn xe) W' → PassesOwn (model X.prog X.w) X.A X.env xe → PSsm (X.tr pn xe) B W' body mb) :
    PSm X B W (.Try body [.ExceptHandler (some (.Name x np)) (some n) [.Return (some (.Call (.Name "isinstance" p3) [.Name n p4, .Name y p5] [] p6)) p2] pos'] [] [] pos) (sTryI con x y zs i mb) := by
  intro H0 bs
  by_cases hx : isFnD (some dx) = true ∧ isClsD (some dy) = true
  case neg =>
    refine ⟨fun pins s σ H D I h => ?_⟩
    obtain ⟨env, cs, fp, S, q⟩ := h
    have e : sTryI con x y zs i mb env cs = .bad := by
      unfold sTryI
      rw [ex, ey, if_neg hx]
    rw [e] at q
    exact q.elim
  have hx0 := hx
  obtain ⟨x', rfl⟩ := isFnD_is hx.1
  obtain ⟨c', m', b', ks', rfl⟩ := isClsD_is hx.2
  obtain ⟨ux, vx, hmx, rx, px⟩ := cx
  obtain ⟨F, rfl, _⟩ := Rp.fn_of (px [] fun _ => none)
  obtain rfl : ux = Value.ref F := rx
  obtain ⟨Y, gY, _, kY⟩ := cy.get
  have ve : Vis X.env.scope n := .inl hn
  let rd : Addr → Value → Option Addr → TE := fun a cls d => tCB (rIsC X.K a cls d) (tCons (tVar i) (tCons (tC (.ref Y)) tNil))
  have pr : ∀ (a : Addr) (oe : Obj) (cls : Value) (d : Option Addr) (pn : List (Addr × Obj)), Zc cls d oe → (∃ vs, oe.data = .fields vs) → PE (X.suite a ((a, oe) :: pn)) (.Call (.Name "isinstance" p3) [.Name n p4, .Name y p5] [] p6) (rd a cls d) := fun a oe cls d pn hz hdat =>
    pe_callB (X := X.suite a ((a, oe) :: pn)) (call_isC hz hdat) hgi (by show X.mg _ = none; rw [co.mg]; exact hmi) (by decide +kernel) (pa_cons (pe_var (X := X.suite a ((a, oe) :: pn)) hi ve hd hcd) (pa_cons (pe_glob (X := X.suite a ((a, oe) :: pn)) (u := .ref Y) (v := .ref Y) hgy (by show X.mg _ = _; rw [co.mg]; exact gY) rfl hdy) pa_nil rfl) rfl) (by decide) (by decide) rfl rfl
  refine PS.imp (ps_try_as (c := .ref F) (i := i) (tb := fun W' => tS B H0 bs W' mb) (ts := fun a cls d => tSeq (tRet (rd a cls d)) tNext) (Wout := W) sk fr co.nd hi hn ⟨hg, hdx, .inl (by rw [co.mg]; exact hmx)⟩ tk (fun W' pn xe tk' hp => hb W' pn xe tk' hp H0 bs) fun a oe cls d pn hz hdat => pss_cons (ps_ret (pr a oe cls d pn hz hdat)) pss_nil) fun E σ H ⟨env, cs, fp, S, q⟩ => ?_
  refine ⟨env, cs, fp, S, ?_⟩
  unfold sTryI at q
  rw [ex, ey, if_pos hx0] at q
  cases em : mb env cs with
  | nx env2 c => rw [em] at q; exact q
  | brk env2 c => rw [em] at q; exact q
  | cnt env2 c => rw [em] at q; exact q
  | ret d c => rw [em] at q; exact q
  | bad => rw [em] at q; exact q.elim
  | exc z fs env2 c =>
    rw [em] at q
    unfold excI at q
    simp only at q
    split at q
    case isFalse => exact q.elim
    rename_i hz
    obtain ⟨hz, hlen⟩ := hz
    split at q
    case h_2 => exact q.elim
    rename_i cz mz bz kz hcz
    split at q
    case isFalse => exact q.elim
    rename_i hyes
    split at q
    case h_2 => exact q.elim
    rename_i r hr
    intro cls dd fp2 σ2 H2 S2 ex2
    obtain ⟨C', rfl, hC', hfs⟩ := ex2
    obtain ⟨dz, ez, atz⟩ := hzs z (by simpa using hz)
    rw [hcz] at ez
    cases ez
    obtain ⟨C, gC, _, kz⟩ := atz.get
    rw [hC'] at gC
    cases gC
    obtain ⟨F2, hF2, _, hex⟩ := kz.is.own x true hyes
    rw [hmx] at hF2
    cases hF2
    obtain ⟨Y2, hY2, hkit, _⟩ := kz.is.own y r hr
    rw [gY] at hY2
    cases hY2
    have hlt : i < σ2.length := by rw [← S2.st.len]; exact hlen
    have cl : CsR B B.h0 H2 c := S2.st.cells.less fun a h => .inl h
    refine ⟨true, by rw [co.K]; exact hex, fun _ a na => ?_, fun z => by cases z⟩
    refine ⟨.ref a, by rw [List.getElem?_set_self hlt], .ref Y, .ref Y, r, C', rfl, fun u hu => hu, rfl, by rw [co.K]; exact kz.is.ec, ?_, by rw [co.K]; exact hkit, q (.bl r) H2 S2.same cl Rp.bl⟩
    rcases hfs with ⟨_, rfl⟩ | ⟨dx, fv, rfl, hdx, _⟩
    · exact .inl rfl
    · exact .inr ⟨dx, fv, rfl, hdx⟩
end Pc

set_option Elab.async false
set_option maxRecDepth 100000
set_option maxHeartbeats 4000000
namespace Pc
open PySem PySem.Spec PyProof.Rows L2

/-! ### statements, as data -/
mutual
inductive MS where
  | ret (m : ME) | retN | set (i : Nat) (m : ME) | own (i : Nat) (m : ME) | pat (t : MT) (m : ME) | par (i j : Nat) (l : MEs) | app (i : Nat) (m : ME) | sto (i : Nat) (mi m : ME) | sto2 (i : Nat) (mi mj m : ME)
  | drop (m : ME) | pass | brk | cnt | ite (c : ME) (a b : MSs) | loop (t : MT) (it : MI) (b : MSs) | frz (i : Nat) (s : MS) | rais (x : Str) (l : MEs) | tryx (b : MSs) (x : Str) (i : Nat) (tag : Option Str) | pop (i : Nat) | dnew (i : Nat) (t : Bool) | dsto (i : Nat) (mi m : ME)
  | rais0 (x : Str) | tryi (b : MSs) (x y : Str) (zs : List Str) (i : Nat)
inductive MSs where
  | nil | cons (s : MS) (l : MSs) | cell (i : Nat) (m : ME) (l : MSs)
end
section
variable (call : Str → List D → Cells → Rs D) (con : Str → Option D) (rf : Str → Option Str)
mutual
def evS : MS → SS
  | .ret m => sRetS (evE call con m)
  | .retN => sRetN
  | .set i m => sSet i (evE call con m)
  | .own i m => sOwn i (evE call con m)
  | .pat t m => sPat t.gs (evE call con m)
  | .par i j l => sPar i j (evA call con l)
  | .app i m => sApp i (evE call con m)
  | .sto i mi m => sSto i (evE call con mi) (evE call con m)
  | .sto2 i mi mj m => sSto2 i (evE call con mi) (evE call con mj) (evE call con m)
  | .drop m => sDrop (evE call con m)
  | .pass => sNil
  | .brk => sBrk
  | .cnt => sCnt
  | .ite c a b => sIfS (evE call con c) (evSs a) (evSs b)
  | .loop t it b => sFor t.gs (evI call con it) (evSs b)
  | .frz i s => sFrz i (evS s)
  | .rais x l => (match rf x with
    | some f => sRais x f (evA call con l)
    | none => fun _ _ => .bad)
  | .tryx b x i tag => (match rf x with
    | some f => sTry x f i tag (evSs b)
    | none => fun _ _ => .bad)
  | .pop i => sPop i
  | .dnew i t => sDnew i t
  | .dsto i mi m => sDsto i (evE call con mi) (evE call con m)
  | .rais0 x => sRais0 x (con x)
  | .tryi b x y zs i => sTryI con x y zs i (evSs b)
def evSs : MSs → SS
  | .nil => sNil
  | .cons s l => sSeq (evS s) (evSs l)
  | .cell i m l => sCell i (evE call con m) (evSs l)
end
end
def isComp1 : ME → Bool
  | .comp .. => true
  | _ => false
/-- the value of name = e -/
def chkV (Γ : G) (x : Str) (py : Pos) (m : ME) (e : Expr) : Bool := match e with
  | .ListComp elt gs s p => chkE Γ m (.ListComp elt gs s p) && decide (Γ.sc.kind = .function) && (if (Γ.sc.names.lookup x == some .local) = true then (py.line == p.line) && !(s.names.any fun (n, k) => n == x && (k == .local || k == .cell)) && isComp1 m else true)
  | e => chkE Γ m e && notComp e
/-- what the suite of an except returns -/
def cAttr (n f : Str) : Expr → Bool
  | .Attribute (.Name y _) g _ => decide (y = n) && decide (g = f)
  | _ => false
theorem cAttr_is {n f : Str} {e : Expr} (h : cAttr n f e = true) : ∃ p q, e = .Attribute (.Name n p) f q := by
  unfold cAttr at h
  split at h
  · simp only [Bool.and_eq_true] at h
    cases of_decide_eq_true h.1
    cases of_decide_eq_true h.2
    exact ⟨_, _, rfl⟩
  · cases h
def cTag (t : Str) (f : Expr → Bool) : List Expr → Bool
  | [a, b] => cCon (kStr t) a && f b
  | _ => false
def chkX (n f : Str) (tag : Option Str) (e : Expr) : Bool := match tag with
  | none => cAttr n f e
  | some t => cTup (cTag t (cAttr n f)) e
def notTup : Expr → Bool
  | .Tuple .. => false
  | _ => true
def cRet (f : Expr → Bool) : Stmt → Bool
  | .Return (some e) _ => f e
  | _ => false
theorem cRet_is {f : Expr → Bool} {st : Stmt} (h : cRet f st = true) : ∃ e p, st = .Return (some e) p ∧ f e = true := by
  unfold cRet at h
  split at h
  · exact ⟨_, _, rfl, h⟩
  · cases h
def cRetN : Stmt → Bool
  | .Return none _ => true
  | _ => false
theorem cRetN_is {st : Stmt} (h : cRetN st = true) : ∃ p, st = .Return none p := by
  unfold cRetN at h
  split at h
  · exact ⟨_, rfl⟩
  · cases h
def cAs (f : Expr → Expr → Bool) : Stmt → Bool
  | .Assign [t] e _ => f t e
  | _ => false
theorem cAs_is {f : Expr → Expr → Bool} {st : Stmt} (h : cAs f st = true) : ∃ t e p, st = .Assign [t] e p ∧ f t e = true := by
  unfold cAs at h
  split at h
  · exact ⟨_, _, _, rfl, h⟩
  · cases h
/-- a name of the slot i, stored to -/
def cNm (Γ : G) (i : Nat) (f : Str → Pos → Bool) : Expr → Bool
  | .Name x py => (Γ.N[i]? == some x) && isLoc Γ x && isFn Γ x && f x py
  | _ => false
theorem cNm_is {Γ : G} {i : Nat} {f : Str → Pos → Bool} {e : Expr} (h : cNm Γ i f e = true) : ∃ x py, e = .Name x py ∧ Γ.N[i]? = some x ∧ isLoc Γ x = true ∧ isFn Γ x = true ∧ f x py = true := by
  unfold cNm at h
  split at h
  · simp only [Bool.and_eq_true, beq_iff_eq] at h
    exact ⟨_, _, rfl, h.1.1.1, h.1.1.2, h.1.2, h.2⟩
  · cases h
def cSet (Γ : G) (i : Nat) (m : ME) : Stmt → Bool := cAs fun t e => cNm Γ i (fun x py => chkV Γ x py m e) t
theorem cSet_is {Γ : G} {i : Nat} {m : ME} {st : Stmt} (h : cSet Γ i m st = true) : ∃ x py e p, st = .Assign [.Name x py] e p ∧ Γ.N[i]? = some x ∧ isLoc Γ x = true ∧ isFn Γ x = true ∧ chkV Γ x py m e = true := by
  obtain ⟨t, e, p, rfl, h1⟩ := cAs_is h
  obtain ⟨x, py, rfl, h2, h3, h4, h5⟩ := cNm_is h1
  exact ⟨x, py, e, p, rfl, h2, h3, h4, h5⟩
def cPat (f g : Expr → Bool) : Stmt → Bool := cAs fun t e => f t && !notTup t && g e && notTup e
def cTwo (f : Str → Pos → Str → Pos → Bool) : Expr → Bool
  | .Tuple [.Name x px, .Name y py] _ _ => f x px y py
  | _ => false
theorem cTwo_is {f : Str → Pos → Str → Pos → Bool} {e : Expr} (h : cTwo f e = true) : ∃ x px y py k p, e = .Tuple [.Name x px, .Name y py] k p ∧ f x px y py = true := by
  unfold cTwo at h
  split at h
  · exact ⟨_, _, _, _, _, _, rfl, h⟩
  · cases h
def cTwoE (f : Expr → Expr → Bool) : Expr → Bool
  | .Tuple [a, b] _ _ => f a b
  | _ => false
theorem cTwoE_is {f : Expr → Expr → Bool} {e : Expr} (h : cTwoE f e = true) : ∃ a b k p, e = .Tuple [a, b] k p ∧ f a b = true := by
  unfold cTwoE at h
  split at h
  · exact ⟨_, _, _, _, rfl, h⟩
  · cases h
def cPar (Γ : G) (i j : Nat) (f : List Expr → Bool) : Stmt → Bool := cAs fun t e => cTwo (fun x px y py => cTwoE (fun e1 e2 => (Γ.N[i]? == some x) && (Γ.N[j]? == some y) && decide (i ≠ j) && decide (x ≠ y) && (Γ.sc.names.lookup x == some .local) && (Γ.sc.names.lookup y == some .local) && f [e1, e2] && noStar e1 && noStar e2 &&
      decide (Γ.sc.kind = .function) && (py.line == px.line) && !([e1, e2].all (foldedForSure 8)) && !([e1, e2].all (constantsAlone 8))) e) t
def cExp (f : Expr → Bool) : Stmt → Bool
  | .Expr e _ => f e
  | _ => false
theorem cExp_is {f : Expr → Bool} {st : Stmt} (h : cExp f st = true) : ∃ e p, st = .Expr e p ∧ f e = true := by
  unfold cExp at h
  split at h
  · exact ⟨_, _, rfl, h⟩
  · cases h
/-- a method of a name, called with es -/
def cMeth (f : Str → Str → Pos → Pos → List Expr → Bool) : Expr → Bool
  | .Call (.Attribute (.Name x _) a ap) es [] cp => f x a ap cp es
  | _ => false
theorem cMeth_is {f : Str → Str → Pos → Pos → List Expr → Bool} {e : Expr} (h : cMeth f e = true) : ∃ x p a ap es cp, e = .Call (.Attribute (.Name x p) a ap) es [] cp ∧ f x a ap cp es = true := by
  unfold cMeth at h
  split at h
  · exact ⟨_, _, _, _, _, _, rfl, h⟩
  · cases h
def cM1 (Γ : G) (i : Nat) (b : Str) (g : Expr → Bool) (x a : Str) (ap cp : Pos) : List Expr → Bool
  | [e] => decide (a = b) && (Γ.N[i]? == some x) && isVis Γ x && okN x && g e && noStar e && (ap.endLine == cp.line)
  | _ => false
def cM0 (Γ : G) (i : Nat) (b : Str) (x a : Str) (ap cp : Pos) : List Expr → Bool
  | [] => decide (a = b) && (Γ.N[i]? == some x) && isVis Γ x && okN x && (ap.endLine == cp.line)
  | _ => false
def cIx (f : Expr → Expr → Bool) : Expr → Bool
  | .Subscript a o _ => f a o
  | _ => false
theorem cIx_is {f : Expr → Expr → Bool} {e : Expr} (h : cIx f e = true) : ∃ a o p, e = .Subscript a o p ∧ f a o = true := by
  unfold cIx at h
  split at h
  · exact ⟨_, _, _, rfl, h⟩
  · cases h
def cSto (Γ : G) (i : Nat) (f g : Expr → Bool) : Stmt → Bool := cAs fun t e => cIx (fun a o => cVar Γ i a && f o && g e && notComp e && notSlice o) t
def cSto2 (Γ : G) (i : Nat) (f f2 g : Expr → Bool) : Stmt → Bool := cAs fun t e => cIx (fun b q => cIx (fun a o => cVar Γ i a && f o && f2 q && g e && notComp e && notSlice o && notSlice q) b) t
def cPass : Stmt → Bool
  | .Pass _ => true
  | .Expr (.Constant (.str _) _ _) _ => true
  | _ => false
theorem cPass_is {st : Stmt} (h : cPass st = true) : (∃ p, st = .Pass p) ∨ ∃ x k p q, st = .Expr (.Constant (.str x) k p) q := by
  unfold cPass at h
  split at h
  · exact .inl ⟨_, rfl⟩
  · exact .inr ⟨_, _, _, _, rfl⟩
  · cases h
def cBrk : Stmt → Bool
  | .Break _ => true
  | _ => false
theorem cBrk_is {st : Stmt} (h : cBrk st = true) : ∃ p, st = .Break p := by
  unfold cBrk at h
  split at h
  · exact ⟨_, rfl⟩
  · cases h
def cCnt : Stmt → Bool
  | .Continue _ => true
  | _ => false
theorem cCnt_is {st : Stmt} (h : cCnt st = true) : ∃ p, st = .Continue p := by
  unfold cCnt at h
  split at h
  · exact ⟨_, rfl⟩
  · cases h
def cIfS (f : Expr → Bool) (g k : List Stmt → Bool) : Stmt → Bool
  | .If e a b _ => f e && g a && k b
  | _ => false
theorem cIfS_is {f : Expr → Bool} {g k : List Stmt → Bool} {st : Stmt} (h : cIfS f g k st = true) : ∃ e a b p, st = .If e a b p ∧ f e = true ∧ g a = true ∧ k b = true := by
  unfold cIfS at h
  split at h
  · simp only [Bool.and_eq_true] at h
    exact ⟨_, _, _, _, rfl, h.1.1, h.1.2, h.2⟩
  · cases h
def cFor (f : Expr → Bool) (g : Expr → Expr → Bool) (k : List Stmt → Bool) : Stmt → Bool
  | .For tg it body [] _ => f tg && g tg it && k body && notSet it
  | _ => false
theorem cFor_is {f : Expr → Bool} {g : Expr → Expr → Bool} {k : List Stmt → Bool} {st : Stmt} (h : cFor f g k st = true) : ∃ tg it body p, st = .For tg it body [] p ∧ f tg = true ∧ g tg it = true ∧ k body = true ∧ notSet it = true := by
  unfold cFor at h
  split at h
  · simp only [Bool.and_eq_true] at h
    exact ⟨_, _, _, _, rfl, h.1.1.1, h.1.1.2, h.1.2, h.2⟩
  · cases h
def cRais (f : Expr → Bool) : Stmt → Bool
  | .Raise (some e) none _ => f e
  | _ => false
theorem cRais_is {f : Expr → Bool} {st : Stmt} (h : cRais f st = true) : ∃ e p, st = .Raise (some e) none p ∧ f e = true := by
  unfold cRais at h
  split at h
  · exact ⟨_, _, rfl, h⟩
  · cases h
def cHan (f : Str → Str → Expr → Bool) : ExceptHandler → Bool
  | .ExceptHandler (some (.Name y _)) (some n) [.Return (some sx) _] _ => f y n sx
  | _ => false
theorem cHan_is {f : Str → Str → Expr → Bool} {x : ExceptHandler} (h : cHan f x = true) : ∃ y p n sx q r, x = .ExceptHandler (some (.Name y p)) (some n) [.Return (some sx) q] r ∧ f y n sx = true := by
  unfold cHan at h
  split at h
  · exact ⟨_, _, _, _, _, _, rfl, h⟩
  · cases h
/-- except x as n: return isinstance(n, y) -/
def cIsi (f : Str → Str → Bool) : Expr → Bool
  | .Call (.Name g _) [.Name n _, .Name y _] [] _ => decide (g = "isinstance") && f n y
  | _ => false
theorem cIsi_is {f : Str → Str → Bool} {e : Expr} (h : cIsi f e = true) : ∃ p3 n p4 y p5 p6, e = .Call (.Name "isinstance" p3) [.Name n p4, .Name y p5] [] p6 ∧ f n y = true := by
  unfold cIsi at h
  split at h
  · rw [Bool.and_eq_true] at h
    cases of_decide_eq_true h.1
    exact ⟨_, _, _, _, _, _, rfl, h.2⟩
  · cases h
def cTry (f : List Stmt → Bool) (g : ExceptHandler → Bool) : Stmt → Bool
  | .Try body [x] [] [] _ => f body && g x
  | _ => false
theorem cTry_is {f : List Stmt → Bool} {g : ExceptHandler → Bool} {st : Stmt} (h : cTry f g st = true) : ∃ body x p, st = .Try body [x] [] [] p ∧ f body = true ∧ g x = true := by
  unfold cTry at h
  split at h
  · simp only [Bool.and_eq_true] at h
    exact ⟨_, _, _, rfl, h.1, h.2⟩
  · cases h
def cDict0 : Expr → Bool
  | .Dict [] [] _ => true
  | _ => false
theorem cDict0_is {e : Expr} (h : cDict0 e = true) : ∃ p, e = .Dict [] [] p := by
  unfold cDict0 at h
  split at h
  · exact ⟨_, rfl⟩
  · cases h
mutual
def chkS (Γ : G) (rf : Str → Option Str) : MS → Stmt → Bool
  | .ret m => cRet (chkE Γ m)
  | .retN => cRetN
  | .set i m => cSet Γ i m
  | .own i m => cSet Γ i m
  | .pat t m => cPat (chkT Γ t) (chkE Γ m)
  | .par i j l => cPar Γ i j (chkA Γ l)
  | .app i m => cExp (cMeth (cM1 Γ i "append" (chkE Γ m)))
  | .sto i mi m => cSto Γ i (chkE Γ mi) (chkE Γ m)
  | .sto2 i mi mj m => cSto2 Γ i (chkE Γ mi) (chkE Γ mj) (chkE Γ m)
  | .drop m => cExp fun e => chkE Γ m e && notComp e
  | .pass => cPass
  | .brk => cBrk
  | .cnt => cCnt
  | .ite c a b => cIfS (chkE Γ c) (chkSs Γ rf a) (chkSs Γ rf b)
  | .loop t it b => cFor (chkT Γ t) (chkI Γ it) (chkSs Γ rf b)
  | .frz _ s => chkS Γ rf s
  | .rais x l => cRais (cCall (cPos Γ (fun y => decide (x = y) && isGl Γ y && (rf x).isSome) (chkA Γ l)))
  | .tryx b x i tag => cTry (chkSs Γ rf b) (cHan fun y n sx => decide (x = y) && isGl Γ y && (Γ.N[i]? == some n) && (Γ.sc.names.lookup n == some .local) && okN n && (match rf x with
    | some f => chkX n f tag sx
    | none => false))
  | .dnew i _ => cAs fun t e => cNm Γ i (fun _ _ => true) t && cDict0 e
  | .dsto i mi m => cSto Γ i (chkE Γ mi) (chkE Γ m)
  | .rais0 x => cRais (cCall (cNo fun y => decide (x = y) && isGl Γ y && (Γ.con y).isSome))
  | .tryi b x y zs i => cTry (chkSs Γ rf b) (cHan fun x' n sx => decide (x = x') && isGl Γ x' && (Γ.con x').isSome && okN x' && (Γ.N[i]? == some n) && (Γ.sc.names.lookup n == some .local) && okN n && zs.all (fun z => (Γ.con z).isSome) && isGl Γ "isinstance" && Γ.fre.contains "isinstance" && cIsi (fun n' y' => decide (n' = n) && decide (y' = y) && isGl Γ y' && okN y' && (Γ.con y').isSome) sx)
  | .pop i => cExp (cMeth (cM0 Γ i "pop"))
def chkSs (Γ : G) (rf : Str → Option Str) : MSs → List Stmt → Bool
  | .nil => List.isEmpty
  | .cons s l => cCons (chkS Γ rf s) (chkSs Γ rf l)
  | .cell i m l => cCons (cSet Γ i m) (chkSs Γ rf l)
end
/-- what a def's body is about -/
structure Cs (Γ : G) (X : Cx) (B : Bx) (call : Str → List D → Cells → Rs D) (con : Str → Option D) (rf : Str → Option Str) (W : WX) : Prop where
  cg : Cg Γ X B call con
  tk : Takes X W
  hp : PassesOwn (model X.prog X.w) X.A X.env X.xe
  bt : Bts X.K X.mg rf
  rm : ∃ k, Room k X.A
  sk : X.stack = X.env :: X.outer
  fr : X.env.frame = some X.env.locals
section
variable {Γ : G} {X : Cx} {B : Bx} {W : WX} {call : Str → List D → Cells → Rs D} {con : Str → Option D} {rf : Str → Option Str}
theorem asg_of (C : Cs Γ X B call con rf W) {i : Nat} {x : Str} {py pos : Pos} {m : ME} {e : Expr} (hi : Γ.N[i]? = some x) (hl : isLoc Γ x = true) (hf : isFn Γ x = true) (h : chkV Γ x py m e = true) : Asg X B W (.Assign [.Name x py] e pos) i (evE call con m) := by
  have Cg := C.cg
  have plain : chkE Γ m e = true → notComp e = true → Asg X B W (.Assign [.Name x py] e pos) i (evE call con m) := fun h1 h2 =>
    asg_plain Cg.co (by rw [Cg.N]; exact hi) (Cg.loc hl) (sndE m e Cg C.tk h1) (swaps_no h2) (Cg.fnn hf)
  unfold chkV at h
  split at h
  case h_1 elt gs s p =>
    simp only [Bool.and_eq_true] at h
    obtain ⟨⟨h1, h2⟩, h5⟩ := h
    have h2 := of_decide_eq_true h2
    by_cases h3 : (Γ.sc.names.lookup x == some NameKind.local) = true
    case neg =>
      refine asg_plain Cg.co (by rw [Cg.N]; exact hi) (Cg.loc hl) (sndE m _ Cg C.tk h1) ?_ (Cg.fnn hf)
      have kx : (X.env.kindOf x == some NameKind.local) = false := by
        show (X.env.scope.names.lookup x == some NameKind.local) = false
        rw [Cg.sc]
        simpa using h3
      unfold swapsWith
      simp only [kx, Bool.and_false, Bool.false_and]
    rw [if_pos h3] at h5
    have h3 : Γ.sc.names.lookup x = some .local := by simpa using h3
    simp only [Bool.and_eq_true, Bool.not_eq_true', beq_iff_eq] at h5
    obtain ⟨⟨h4, h5⟩, h5c⟩ := h5
    cases m <;> try (simp [isComp1] at h5c; done)
    rename_i kk t it c el
    obtain ⟨x', gs', s', p', ee, ha⟩ := cLC_is h1
    cases ee
    obtain ⟨tg, iter, ifs, rfl, h⟩ := cC1_is ha
    · simp only [Bool.and_eq_true] at h
      obtain ⟨⟨⟨⟨⟨⟨h12, h13⟩, h14⟩, h15⟩, h16⟩, h17⟩, h18⟩ := h
      have h13 := of_decide_eq_true h13
      obtain ⟨wi, hwi, rd⟩ := (sndI (call := call) (con := con) it iter (tg := tg) Cg C.tk h15).ex
      have ok : BlkOk X.N X.env.scope s (ownOf Γ t) := blkOk_by (by rw [Cg.N, Cg.sc]; exact h12)
      have tkF : ∀ (Y : Cx), Takes Y WF := fun _ => takesF
      refine PS.imp (ps_setLc (i := i) (g := tgT X.K t) (tt := tTx B (evC call con c)) (te := tEx B (evE call con el)) Cg.co.calm Cg.co.nd (by rw [Cg.N]; exact hi) (by rw [Cg.sc]; exact h3)
        (sw_true (by rw [Cg.sc]; exact h2) (by rw [Cg.sc]; exact h3) (by simpa using h4) h5) hwi ok
        (fun sh H cc cl fp => (pgm_T (Cg.block s sh H cc cl fp (fun _ => False)) h14 (vs := t.slots) fun i m => m).pg)
        (fun sh H cc cl fp => pts_ex fun h0 => sndC c ifs (Cg.block s sh H cc cl fp h0) (tkF _) h16)
        (fun sh H cc cl fp => pe_ex fun h0 => (sndE el elt (Cg.block s sh H cc cl fp h0) (tkF _) h17).pe) (folded_no h18)) fun E σ H q => ?_
      rw [h13]
      exact compRead (g := t.gs) (t := tgT X.K t) wi rd t.slots (fun B' hK' => (pgm_T (Cg.block s ({} : Shared) (fun _ => none) 0 [] [] fun _ => False) h14 (vs := t.slots) fun i m => m).rd B' (by rw [hK', ← Cg.co.K])) σ H _ q
  case h_2 =>
    rw [Bool.and_eq_true] at h
    exact plain h.1 h.2
theorem sole_no {t e : Expr} {l : Nat} {env : Env} (h : notComp e = true) : swapsWithSole [t] e l env = pure false := by
  cases e <;> first | rfl | (simp [notComp] at h)
theorem sole_tup {ts : List Expr} {k : Nat} {p : Pos} {e : Expr} {l : Nat} {env : Env} : swapsWithSole [.Tuple ts k p] e l env = pure false := by
  cases e <;> rfl
theorem asg_sub {a o : Expr} {p : Pos} {env : Env} (h : notSlice o = true) (v : Value) : assign (.Subscript a o p) env v = (do
      let ov ← holding [v] (eval a env)
      let iv ← holding [v, ov] (eval o env)
      standAt p
      holding [v, ov, iv] (setItem ov iv v)
      release [v, ov, iv] []) := by
  cases o <;> first | rfl | (simp [notSlice] at h; done)
theorem swapped_sub {a o : Expr} {p : Pos} {e : Expr} {env : Env} : swappedStores [.Subscript a o p] e env = pure none := by
  cases e <;> rfl
theorem swapped_none {tg e : Expr} {env : Env} (h : notTup e = true) : swappedStores [tg] e env = pure none := by
  unfold swappedStores
  cases e <;> first | (simp [notTup] at h; done) | (cases tg <;> rfl)
theorem swapped_two {x y : Str} {px py pt pt2 : Pos} {kt k2 : Nat} {e1 e2 : Expr} {env : Env} (hk : env.scope.kind = .function) (hx : env.scope.names.lookup x = some .local) (hy : env.scope.names.lookup y = some .local) (hn : x ≠ y) (hl : (py.line == px.line) = true)
    (s1 : noStar e1 = true) (s2 : noStar e2 = true) (h1 : [e1, e2].all (foldedForSure 8) = false) (h2 : [e1, e2].all (constantsAlone 8) = false) :
    swappedStores [.Tuple [.Name x px, .Name y py] kt pt] (.Tuple [e1, e2] k2 pt2) env = pure (some [x, y]) := by
  have hb : env.blockKind = .function := by unfold Env.blockKind; rw [hk]; rfl
  have kx : env.kindOf x = some .local := hx
  have ky : env.kindOf y = some .local := hy
  have n1 : (match e1 with | .Starred .. => true | _ => false) = false := by cases e1 <;> first | rfl | (simp [noStar] at s1)
  have n2 : (match e2 with | .Starred .. => true | _ => false) = false := by cases e2 <;> first | rfl | (simp [noStar] at s2)
  have hl' : py.line = px.line := by simpa using hl
  have hyx : (y == x) = false := by simpa using fun e => hn e.symm
  have hxy : (x == y) = false := by simpa using hn
  unfold swappedStores
  simp only [List.length_cons, List.length_nil, hb, kx, ky, List.any_cons, List.any_nil, n1, n2, List.filterMap_cons, List.filterMap_nil, List.head?_cons, Option.map_some, Option.getD_some, Expr.pos, hl', h1, h2]
  simp [List.eraseDups_cons, hyx, hxy, hn, Ne.symm hn]
  rintro (q | q)
  · cases e1 <;> simp [noStar] at s1 q
  · cases e2 <;> simp [noStar] at s2 q
end
section
variable {call : Str → List D → Cells → Rs D} {con : Str → Option D} {rf : Str → Option Str}
abbrev SS1 (call : Str → List D → Cells → Rs D) (con : Str → Option D) (rf : Str → Option Str) (m : MS) : Prop := ∀ (st : Stmt) {Γ : G} {X : Cx} {B : Bx} {W : WX}, Cs Γ X B call con rf W → chkS Γ rf m st = true → PSm X B W st (evS call con rf m)
abbrev SSs (call : Str → List D → Cells → Rs D) (con : Str → Option D) (rf : Str → Option Str) (m : MSs) : Prop := ∀ (st : List Stmt) {Γ : G} {X : Cx} {B : Bx} {W : WX}, Cs Γ X B call con rf W → chkSs Γ rf m st = true → PSsm X B W st (evSs call con rf m)
theorem sndS_ret (m : ME) : SS1 call con rf (.ret m) := by
  intro st Γ X B W C h
  obtain ⟨e, p, rfl, h'⟩ := cRet_is h
  exact s_ret (sndE m _ C.cg C.tk h')
theorem sndS_retN : SS1 call con rf .retN := by
  intro st Γ X B W C h
  obtain ⟨p, rfl⟩ := cRetN_is h
  exact s_retN
theorem sndS_set (i : Nat) (m : ME) : SS1 call con rf (.set i m) := by
  intro st Γ X B W C h
  obtain ⟨x, py, e, p, rfl, h1, h2, h3, h4⟩ := cSet_is h
  exact s_set (asg_of C h1 h2 h3 h4)
theorem sndS_own (i : Nat) (m : ME) : SS1 call con rf (.own i m) := by
  intro st Γ X B W C h
  obtain ⟨x, py, e, p, rfl, h1, h2, h3, h4⟩ := cSet_is h
  exact s_own (asg_of C h1 h2 h3 h4)
theorem sndS_pat (t : MT) (m : ME) : SS1 call con rf (.pat t m) := by
  intro st Γ X B W C h
  obtain ⟨tg, e, p, rfl, h'⟩ := cAs_is h
  simp only [Bool.and_eq_true, Bool.not_eq_true'] at h'
  obtain ⟨⟨⟨h1, h2⟩, h3⟩, h5⟩ := h'
  unfold notTup at h2
  split at h2
  · exact s_pat C.cg.co (sndE m _ C.cg C.tk h3) (pgm_T C.cg h1 (vs := t.slots) fun i m => m) sole_tup (swapped_none h5) rfl
  · cases h2
theorem sndS_par (i j : Nat) (l : MEs) : SS1 call con rf (.par i j l) := by
  intro st Γ X B W C h
  obtain ⟨tg, e, p, rfl, h'⟩ := cAs_is h
  obtain ⟨x, px, y, py, k, p1, rfl, h2'⟩ := cTwo_is h'
  obtain ⟨e1, e2, k2, p2, rfl, h3'⟩ := cTwoE_is h2'
  clear h h' h2'
  simp only [Bool.and_eq_true, beq_iff_eq, Bool.not_eq_true'] at h3'
  obtain ⟨⟨⟨⟨⟨⟨⟨⟨⟨⟨⟨⟨h1, h2⟩, h3⟩, h4⟩, h5⟩, h6⟩, h7⟩, h8⟩, h9⟩, h10⟩, h11⟩, h12⟩, h13⟩ := h3'
  have Cg := C.cg
  have h10 := of_decide_eq_true h10
  exact s_par Cg.co (by rw [Cg.N]; exact h1) (by rw [Cg.N]; exact h2) (of_decide_eq_true h3) (by rw [Cg.sc]; exact h5) (by rw [Cg.sc]; exact h6) (sndA l _ Cg C.tk h7 (by simp [h8, h9]))
    (swapped_two (by rw [Cg.sc]; exact h10) (by rw [Cg.sc]; exact h5) (by rw [Cg.sc]; exact h6) (of_decide_eq_true h4) (by simpa using h11) h8 h9 h12 h13) (sole_no rfl)
theorem sndS_app (i : Nat) (m : ME) : SS1 call con rf (.app i m) := by
  intro st Γ X B W C h
  obtain ⟨e, p, rfl, h'⟩ := cExp_is h
  obtain ⟨x, px, a, ap, es, cp, rfl, h2'⟩ := cMeth_is h'
  clear h h'
  unfold cM1 at h2'
  split at h2'
  · rename_i e
    simp only [Bool.and_eq_true, beq_iff_eq] at h2'
    obtain ⟨⟨⟨⟨⟨⟨h1, h2⟩, h3⟩, h4⟩, h5⟩, h6⟩, h7⟩ := h2'
    cases of_decide_eq_true h1
    have Cg := C.cg
    exact s_app Cg.co (by rw [Cg.N]; exact h2) (Cg.vis h3) (okN_of h4).1 (okN_of h4).2.1 (sndE m _ Cg C.tk h5) rfl (star_cons h6) (by simpa using h7)
  · cases h2'
theorem sndS_sto (i : Nat) (mi m : ME) : SS1 call con rf (.sto i mi m) := by
  intro st Γ X B W C h
  obtain ⟨tg, e, p, rfl, h'⟩ := cAs_is h
  obtain ⟨a, o, p1, rfl, h2'⟩ := cIx_is h'
  clear h h'
  simp only [Bool.and_eq_true] at h2'
  obtain ⟨⟨⟨⟨h1', h4⟩, h5⟩, h6⟩, h7⟩ := h2'
  obtain ⟨x, p2, rfl, h1, h2, h3⟩ := cVar_is h1'
  have Cg := C.cg
  exact s_sto Cg.co (by rw [Cg.N]; exact h1) (Cg.vis h2) (okN_of h3).1 (okN_of h3).2.1 (sndE m _ Cg C.tk h5) (sndE mi _ Cg C.tk h4) (sole_no h6) swapped_sub (asg_sub h7)
theorem sndS_sto2 (i : Nat) (mi mj m : ME) : SS1 call con rf (.sto2 i mi mj m) := by
  intro st Γ X B W C h
  obtain ⟨tg, e, p, rfl, h'⟩ := cAs_is h
  obtain ⟨b, q, p1, rfl, h2'⟩ := cIx_is h'
  obtain ⟨a, o, p2, rfl, h3'⟩ := cIx_is h2'
  clear h h' h2'
  simp only [Bool.and_eq_true] at h3'
  obtain ⟨⟨⟨⟨⟨⟨h1', h4⟩, h5⟩, h6⟩, h7⟩, h8⟩, h9⟩ := h3'
  obtain ⟨x, p3, rfl, h1, h2, h3⟩ := cVar_is h1'
  have Cg := C.cg
  exact s_sto2 Cg.co (by rw [Cg.N]; exact h1) (Cg.vis h2) (okN_of h3).1 (okN_of h3).2.1 (sndE m _ Cg C.tk h6) (sndE mi _ Cg C.tk h4) (sndE mj _ Cg C.tk h5) (plain_ix h8) (sole_no h7) swapped_sub (asg_sub h9)
theorem sndS_drop (m : ME) : SS1 call con rf (.drop m) := by
  intro st Γ X B W C h
  obtain ⟨e, p, rfl, h'⟩ := cExp_is h
  rw [Bool.and_eq_true] at h'
  exact s_drop (sndE m _ C.cg C.tk h'.1) (swaps_no h'.2)
theorem sndS_pass : SS1 call con rf .pass := by
  intro st Γ X B W C h
  rcases cPass_is h with ⟨p, rfl⟩ | ⟨x, k, p, q, rfl⟩
  · exact s_pass
  · exact s_doc
theorem sndS_brk : SS1 call con rf .brk := by
  intro st Γ X B W C h
  obtain ⟨p, rfl⟩ := cBrk_is h
  exact s_brk
theorem sndS_cnt : SS1 call con rf .cnt := by
  intro st Γ X B W C h
  obtain ⟨p, rfl⟩ := cCnt_is h
  exact s_cnt
theorem sndS_ite (c : ME) (a b : MSs) (ha : SSs call con rf a) (hb : SSs call con rf b) : SS1 call con rf (.ite c a b) := by
  intro st Γ X B W C h
  obtain ⟨e, s1, s2, p, rfl, h1, h2, h3⟩ := cIfS_is h
  exact s_if (sndE c _ C.cg C.tk h1) (ha _ C h2) (hb _ C h3)
theorem sndS_loop (t : MT) (it : MI) (b : MSs) (hb : SSs call con rf b) : SS1 call con rf (.loop t it b) := by
  intro st Γ X B W C h
  obtain ⟨tg, iter, body, p, rfl, h1, h2, h3, h4⟩ := cFor_is h
  exact s_for C.cg.co C.hp (sndI it _ C.cg C.tk h2) (pgm_T C.cg h1 (vs := t.slots) fun i m => m) (hb _ C h3) (folded_no h4)
theorem sndS_frz (i : Nat) (s : MS) (hs : SS1 call con rf s) : SS1 call con rf (.frz i s) := by
  intro st Γ X B W C h
  exact s_frz (hs st C h)
theorem sndS_rais (x : Str) (l : MEs) : SS1 call con rf (.rais x l) := by
  intro st Γ X B W C h
  obtain ⟨e, p, rfl, h'⟩ := cRais_is h
  obtain ⟨y, p1, a, es, q, rfl, h3, h4, h5, h2'⟩ := cPos_is h'
  clear h h'
  rw [Bool.and_eq_true, Bool.and_eq_true] at h2'
  cases of_decide_eq_true h2'.1.1
  cases e : rf x with
  | none => rw [e] at h2'; cases h2'.2
  | some f =>
    rw [show evS call con rf (.rais x l) = sRais x f (evA call con l) by simp only [evS, e]]
    exact s_rais C.bt C.cg.co C.rm C.tk e (C.cg.gl h2'.1.2) h5 (sndA l _ C.cg C.tk h4 h5)
/-- in the body of a try -/
theorem Cs.tr {Γ : G} {X : Cx} {B : Bx} {W W' : WX} (C : Cs Γ X B call con rf W) {pn : List (Addr × Obj)} {xe : Value → Shared → Prop} (tk : Takes (X.tr pn xe) W') (hp : PassesOwn (model X.prog X.w) X.A X.env xe) : Cs Γ (X.tr pn xe) B call con rf W' :=
  ⟨⟨⟨C.cg.co.K, C.cg.co.mg, C.cg.co.calm, C.cg.co.nd, C.cg.co.hu⟩, C.cg.N, C.cg.sc, C.cg.fn, fun f ps e => ⟨(C.cg.df f ps e).ex⟩, fun f ps k e => ⟨(C.cg.dk f ps k e).ex⟩, C.cg.con, C.cg.fre, C.cg.im, C.cg.rm⟩, tk, hp, C.bt, C.rm, C.sk, C.fr⟩
theorem chkX_none {n f : Str} {sx : Expr} (h : chkX n f none sx = true) : ∃ p3 p4, sx = .Attribute (.Name n p3) f p4 := cAttr_is h
theorem chkX_some {n f t : Str} {sx : Expr} (h : chkX n f (some t) sx = true) : t.length ≤ 100000 ∧ ∃ j p1 p3 p4 k p5, sx = .Tuple [.Constant (.str t) j p1, .Attribute (.Name n p3) f p4] k p5 := by
  obtain ⟨es, k, p, rfl, h1, _⟩ := cTup_is h
  unfold cTag at h1
  split at h1
  · rw [Bool.and_eq_true] at h1
    obtain ⟨c, j, p1, rfl, h2⟩ := cCon_is h1.1
    obtain ⟨rfl, h3⟩ := kStr_is h2
    obtain ⟨p3, p4, rfl⟩ := cAttr_is h1.2
    exact ⟨h3, _, _, _, _, _, _, rfl⟩
  · cases h1
theorem sndS_tryx (b : MSs) (x : Str) (i : Nat) (tag : Option Str) (hb : SSs call con rf b) : SS1 call con rf (.tryx b x i tag) := by
  intro st Γ X B W C h
  obtain ⟨body, hx, p, rfl, h6, h'⟩ := cTry_is h
  obtain ⟨y, p1, n, sx, q, r, rfl, h2'⟩ := cHan_is h'
  clear h h'
  simp only [Bool.and_eq_true, beq_iff_eq] at h2'
  obtain ⟨⟨⟨⟨⟨h1, h2⟩, h3⟩, h4⟩, h5⟩, h7⟩ := h2'
  cases of_decide_eq_true h1
  cases e : rf x with
  | none => rw [e] at h7; cases h7
  | some f =>
    rw [e] at h7
    rw [show evS call con rf (.tryx b x i tag) = sTry x f i tag (evSs call con rf b) by simp only [evS, e]]
    refine s_try C.bt C.cg.co C.tk C.sk C.fr e (C.cg.gl h2) (by rw [C.cg.N]; exact h3) (by show X.env.scope.names.lookup _ = _; rw [C.cg.sc]; exact h4) (okN_of h5).1 (okN_of h5).2.1 ?_ fun W' pn xe tk hp => hb _ (C.tr tk hp) h6
    cases tag with
    | none => exact chkX_none h7
    | some t => exact chkX_some h7
theorem sndS_pop (i : Nat) : SS1 call con rf (.pop i) := by
  intro st Γ X B W C h
  obtain ⟨e, p, rfl, h'⟩ := cExp_is h
  obtain ⟨x, px, a, ap, es, cp, rfl, h2'⟩ := cMeth_is h'
  clear h h'
  unfold cM0 at h2'
  split at h2'
  · simp only [Bool.and_eq_true, beq_iff_eq] at h2'
    obtain ⟨⟨⟨⟨h1, h2⟩, h3⟩, h4⟩, h7⟩ := h2'
    cases of_decide_eq_true h1
    have Cg := C.cg
    exact s_pop Cg.co (by rw [Cg.N]; exact h2) (Cg.vis h3) (okN_of h4).1 (okN_of h4).2.1 (by simpa using h7)
  · cases h2'
theorem sndS_dnew (i : Nat) (t : Bool) : SS1 call con rf (.dnew i t) := by
  intro st Γ X B W C h
  obtain ⟨tg, e, p, rfl, h'⟩ := cAs_is h
  rw [Bool.and_eq_true] at h'
  obtain ⟨x, py, rfl, h1, h2, h3, _⟩ := cNm_is h'.1
  obtain ⟨p2, rfl⟩ := cDict0_is h'.2
  have Cg := C.cg
  cases t with
  | false => exact s_dnewK (ps_set Cg.co.nd (by rw [Cg.N]; exact h1) (Cg.loc h2) pe_dnewK rfl (Cg.fnn h3))
  | true => exact s_dnewT (ps_set Cg.co.nd (by rw [Cg.N]; exact h1) (Cg.loc h2) pe_dnewT rfl (Cg.fnn h3))
theorem sndS_dsto (i : Nat) (mi m : ME) : SS1 call con rf (.dsto i mi m) := by
  intro st Γ X B W C h
  obtain ⟨tg, e, p, rfl, h'⟩ := cAs_is h
  obtain ⟨a, o, p1, rfl, h2'⟩ := cIx_is h'
  clear h h'
  simp only [Bool.and_eq_true] at h2'
  obtain ⟨⟨⟨⟨h1', h4⟩, h5⟩, h6⟩, h7⟩ := h2'
  obtain ⟨x, p2, rfl, h1, h2, h3⟩ := cVar_is h1'
  have Cg := C.cg
  exact s_dsto Cg.co (by rw [Cg.N]; exact h1) (Cg.vis h2) (okN_of h3).1 (okN_of h3).2.1 (sndE m _ Cg C.tk h5) (sndE mi _ Cg C.tk h4) (swaps_no h6)
theorem sndS_rais0 (x : Str) : SS1 call con rf (.rais0 x) := by
  intro st Γ X B W C h
  obtain ⟨e, p, rfl, h'⟩ := cRais_is h
  obtain ⟨y, p1, q, rfl, ho, h2⟩ := cNo_is h'
  clear h h'
  rw [Bool.and_eq_true, Bool.and_eq_true] at h2
  cases of_decide_eq_true h2.1.1
  obtain ⟨d, ed, at_⟩ := cls_at C.cg h2.2
  rw [show evS call con rf (.rais0 x) = sRais0 x (some d) by simp only [evS, ed]]
  exact s_rais0 C.cg.co C.rm C.tk at_ (C.cg.gl h2.1.2) (okN_of ho).1
theorem sndS_tryi (b : MSs) (x y : Str) (zs : List Str) (i : Nat) (hb : SSs call con rf b) : SS1 call con rf (.tryi b x y zs i) := by
  intro st Γ X B W C h
  obtain ⟨body, hx, p, rfl, h6, h'⟩ := cTry_is h
  obtain ⟨x', p1, n, sx, q, r, rfl, h2'⟩ := cHan_is h'
  clear h h'
  simp only [Bool.and_eq_true, beq_iff_eq] at h2'
  obtain ⟨⟨⟨⟨⟨⟨⟨⟨⟨⟨h1, h2⟩, h3⟩, h4⟩, h5⟩, h7⟩, h8⟩, h9⟩, h10⟩, h11⟩, h12⟩ := h2'
  cases of_decide_eq_true h1
  obtain ⟨p3, n', p4, y', p5, p7, rfl, h13⟩ := cIsi_is h12
  clear h12
  simp only [Bool.and_eq_true] at h13
  obtain ⟨⟨⟨⟨h14, h15⟩, h16⟩, h17⟩, h18⟩ := h13
  cases of_decide_eq_true h14
  cases of_decide_eq_true h15
  obtain ⟨dx, ex, ax⟩ := cls_at C.cg h3
  obtain ⟨dy, ey, ay⟩ := cls_at C.cg h18
  refine s_tryI C.cg.co C.tk C.sk C.fr (fun z hz => cls_at C.cg (List.all_eq_true.mp h9 z hz)) ex ey ax ay (C.cg.gl h2) (C.cg.gl h16) (okN_of h4).1 (okN_of h17).1 (C.cg.gl h10) (C.cg.fre _ (by simpa using h11)) (by rw [C.cg.N]; exact h5) (by show X.env.scope.names.lookup _ = _; rw [C.cg.sc]; exact h7) (okN_of h8).1 (okN_of h8).2.1 fun W' pn xe tk hp => hb _ (C.tr tk hp) h6
theorem sndSs_nil : SSs call con rf .nil := by
  intro st Γ X B W C h
  cases emp_is h
  exact ss_nil
theorem sndSs_cons (s : MS) (l : MSs) (hs : SS1 call con rf s) (hl : SSs call con rf l) : SSs call con rf (.cons s l) := by
  intro st Γ X B W C h
  obtain ⟨a, b, rfl, h1, h2⟩ := cCons_is h
  exact ss_cons (hs a C h1) (hl b C h2)
theorem Cs.re {Γ : G} {X : Cx} {B B' : Bx} {W : WX} (C : Cs Γ X B call con rf W) (hK : B'.K = B.K) (hm : B'.mg = B.mg) : Cs Γ X B' call con rf W :=
  ⟨⟨⟨C.cg.co.K.trans hK.symm, C.cg.co.mg.trans hm.symm, C.cg.co.calm, C.cg.co.nd, C.cg.co.hu⟩, C.cg.N, C.cg.sc, C.cg.fn, fun f ps e => ⟨(C.cg.df f ps e).ex⟩, fun f ps k e => ⟨(C.cg.dk f ps k e).ex⟩, fun x h => by
      obtain ⟨d, u, v, h1, h2, h3, h4⟩ := C.cg.con x h
      exact ⟨d, u, v, h1, by rw [hm]; exact h2, h3, fun ps H => by rw [hK, hm]; exact h4 ps H⟩, fun x h => by rw [hm]; exact C.cg.fre x h, fun x f h => by rw [hm]; exact C.cg.im x f h, C.cg.rm⟩, C.tk, C.hp, C.bt, C.rm, C.sk, C.fr⟩
theorem sndSs_cell (i : Nat) (m : ME) (l : MSs) (hl : SSs call con rf l) : SSs call con rf (.cell i m l) := by
  intro st Γ X B W C h
  obtain ⟨a, b, rfl, h1, h2⟩ := cCons_is h
  obtain ⟨x, py, e, p, rfl, h3, h4, h5, h6⟩ := cSet_is h1
  exact ss_cell (asg_of C h3 h4 h5 h6) fun B' e1 e2 => hl _ (C.re e1 e2) h2
theorem sndS (m : MS) : SS1 call con rf m :=
  MS.rec (motive_1 := SS1 call con rf) (motive_2 := SSs call con rf) sndS_ret sndS_retN sndS_set sndS_own sndS_pat sndS_par sndS_app sndS_sto sndS_sto2 sndS_drop sndS_pass sndS_brk sndS_cnt sndS_ite sndS_loop sndS_frz sndS_rais sndS_tryx sndS_pop sndS_dnew sndS_dsto sndS_rais0 sndS_tryi sndSs_nil sndSs_cons sndSs_cell m
theorem sndSs : ∀ l : MSs, SSs call con rf l
  | .nil => sndSs_nil
  | .cons s l => sndSs_cons s l (sndS s) (sndSs l)
  | .cell i m l => sndSs_cell i m l (sndSs l)
end
end Pc

set_option Elab.async false
set_option maxRecDepth 100000
set_option maxHeartbeats 4000000
namespace Pc
open PySem PySem.Spec PyProof.Rows L2

/-! ### defs -/
structure Def where
  ps : List Str
  N : List Str
  body : MSs
abbrev Tab := Str → Option Def
def startE (N : List Str) (ds : List D) : List Slot := ds.map .sh ++ List.replicate (N.length - ds.length) .emp
def runB (b : SS) (N : List Str) (ds : List D) (cs : Cells) : Rs D := match b (startE N ds) cs with
  | .nx _ c => .ok .non c
  | .ret d c => .ok d c
  | .exc x fs _ c => .exc x fs c
  | _ => .bad
/-- a call, the depth of calls bounded -/
def callK (T : Tab) (con : Str → Option D) (rf : Str → Option Str) : Nat → Str → List D → Cells → Rs D
  | 0, _, _, _ => .bad
  | k + 1, f, ds, cs => match T f with
    | some d => runB (evSs (callK T con rf k) con rf d.body) d.N ds cs
    | none => .bad
section
variable {K : PySem.W.Frag} {mg : Str → Option Value} {ps : List Addr} {h0 : Addr → Prop} {H : Hp} {cs : Cells}
theorem start_get {N : List Str} {vs : List V} {i : Nat} : (L2.start N vs)[i]? = if i < vs.length then (vs[i]?.map some) else if i < vs.length + (N.length - vs.length) then some none else none := by
  unfold L2.start
  by_cases h : i < vs.length
  · rw [if_pos h, List.getElem?_append_left (by simpa using h), List.getElem?_map]
  · rw [if_neg h, List.getElem?_append_right (by simpa using h), List.getElem?_replicate]
    simp only [List.length_map]
    by_cases h2 : i < vs.length + (N.length - vs.length)
    · rw [if_pos (by omega), if_pos h2]
    · rw [if_neg (by omega), if_neg h2]
theorem hsOf_nil {B : Bx} {a : Addr} : hsOf B (fun _ => []) a ↔ B.h0 a := ⟨fun h => h.elim id fun ⟨_, m⟩ => (by cases m), .inl⟩
theorem hsOf_nil' {B : Bx} : hsOf B (fun _ => []) = B.h0 := funext fun _ => propext hsOf_nil
/-- at the entry of a body -/
theorem StS.start {N : List Str} {ds : List D} {vs : List V} (hl : ds.length ≤ N.length) (hp : ∀ a, a ∈ ps → h0 a) (hth : ∀ a, h0 a → ∃ o, H a = some o ∧ HO.nt o = true) (hc : CsR ⟨K, mg, ps, h0⟩ h0 H cs) (r : Pc.RpL K mg ps (hid H h0) ds vs) :
    StS ⟨K, mg, ps, h0⟩ H [] (startE N ds) cs (fun _ => []) (L2.start N vs) H := by
  have hlen : vs.length = ds.length := (RpL.length r).symm
  refine ⟨⟨?_, fun i s e => ?_, fun _ _ => rfl, ?_, hp, hth, fun i a m => (by cases m), fun i j a m => (by cases m), fun i => .nil⟩, .refl, fun i a m => (by cases m), (fun a z => let ⟨o, e, _⟩ := hth a z; ⟨o, e⟩), fun b m => (by cases m)⟩
  · unfold startE L2.start
    simp [hlen]
  · unfold startE at e
    rw [start_get]
    by_cases h : i < ds.length
    · rw [List.getElem?_append_left (by simpa using h), List.getElem?_map] at e
      rw [if_pos (by omega)]
      cases ed : ds[i]? with
      | none => rw [ed] at e; cases e
      | some d =>
        rw [ed] at e
        cases e
        obtain ⟨v, ev, rv⟩ := RpL.get r ed
        refine ⟨rfl, v, by rw [ev]; rfl, ?_⟩
        show Pc.Rp K mg ps (hid H (hsOf ⟨K, mg, ps, h0⟩ fun _ => [])) d v
        rw [hsOf_nil']
        exact rv
    · rw [List.getElem?_append_right (by simpa using h), List.getElem?_replicate] at e
      split at e
      · cases e; rfl
      · cases e
  · rw [hsOf_nil']
    exact hc
end
theorem ExR.less {B : Bx} {hs hs' : Addr → Prop} {H : Hp} {x : Str} {fs : List (Str × D)} {cls : Value} {dd : Option Addr} (h : ∀ a, hs' a → hs a) (e : ExR B hs H x fs cls dd) : ExR B hs' H x fs cls dd := by
  obtain ⟨C, h1, h2, h3⟩ := e
  refine ⟨C, h1, h2, h3.elim .inl fun ⟨d, fv, e1, e2, e3⟩ => .inr ⟨d, fv, e1, e2, fun f u hu => ?_⟩⟩
  obtain ⟨v, ev, r⟩ := e3 f u hu
  exact ⟨v, ev, Rp.mono (hid_le h fun _ _ _ e => e) _ _ r⟩

/-! ### the text's defs keep what their words say -/
/-- the text: each def of the table stands in the written part and is what its words say -/
structure Txt (K : PySem.W.Frag) (mg : Str → Option Value) (T : Tab) (con : Str → Option D) (conS : Str → Option Unit) (rf : Str → Option Str) (fre : List Str) (kwf : Str → Bool) (imp : Str → Option IM) : Prop where
  def_ : ∀ f d, T f = some d → ∃ (qual : Str) (st : Stmt) (fa : Addr) (fd : FuncData), Fun K f qual st fa fd ∧ mg f = some (.ref fa) ∧ PySem.W.keepIn K (.ref fa) = true ∧ (∀ us : List Value, us.length = d.ps.length → bindArgs fd ⟨us, []⟩ = pure (d.ps.zip us)) ∧ FnScope d.N d.ps (defScope st) ∧
    d.ps.length ≤ d.N.length ∧ chkSs ⟨d.N, defScope st, none, fun g => (T g).map (·.ps), conS, fre, kwf, imp⟩ rf d.body (defBody st) = true ∧
    (kwf f = true → ∀ (s : Shared) (ws : List Value), K.In s.heap → ws.length = d.ps.length → BindsTo s fd ⟨[], d.ps.zip ws⟩ (d.ps.zip ws))
  con_ : ∀ x, (conS x).isSome = true → ∃ d u v, con x = some d ∧ mg x = some u ∧ RelV v u ∧ ∀ ps H, Rp K mg ps H d v
  fre_ : ∀ x ∈ fre, mg x = none
  imp_ : ∀ x f, imp x = some f → mg x = some (.builtin f.id)
section
variable {P : Program} {w : World} {K : PySem.W.Frag} {mg : Str → Option Value} {base : Heap} {T : Tab} {con : Str → Option D} {conS : Str → Option Unit} {rf : Str → Option Str} {fre : List Str} {kwf : Str → Bool} {imp : Str → Option IM}
theorem def_ok (tx : Txt K mg T con conS rf fre kwf imp) (hr : Bts K mg rf) : ∀ (k : Nat) (f : Str) (d : Def), T f = some d → ∃ (fa : Addr) (fd : FuncData), (∀ base : Heap, FnOk P w K mg base (L2.CX P w) k fa fd d.ps (spOf K mg d.ps.length (callK T con rf k f))) ∧ mg f = some (.ref fa) ∧ PySem.W.keepIn K (.ref fa) = true ∧ (∀ us : List Value, us.length = d.ps.length → bindArgs fd ⟨us, []⟩ = pure (d.ps.zip us)) ∧
    (kwf f = true → ∀ (s : Shared) (ws : List Value), K.In s.heap → ws.length = d.ps.length → BindsTo s fd ⟨[], d.ps.zip ws⟩ (d.ps.zip ws)) := by
  have len : ∀ {n : Nat} {g : List D → Cells → Rs D} (vs : List V) (H : Hp) (Q : VK) (E : XK), spOf K mg n g vs H Q E → vs.length = n := fun vs H Q E ⟨ps, h0, cs, ds, e, _, _, _, r, _⟩ => by rw [← RpL.length r]; exact e
  intro k
  induction k with
  | zero =>
    intro f d hd
    obtain ⟨qual, st, fa, fd, F, hm, hk, hb, S, hl, hc, hkw⟩ := tx.def_ f d hd
    refine ⟨fa, fd, fun base => ⟨fun vs H Q E h => len vs H Q E h, fun A outer s H args us vs Q E hr he hbi hv h => ?_⟩, hm, hk, hb, hkw⟩
    obtain ⟨_, _, _, _, _, _, _, _, _, z⟩ := h
    exact z.elim
  | succ k ih =>
    intro f d hd
    obtain ⟨qual, st, fa, fd, F, hm, hk, hb, S, hl, hc, hkw⟩ := tx.def_ f d hd
    refine ⟨fa, fd, fun base => Fun.okX F S (fun vs H Q E h => len vs H Q E h) (fun cdv A outer s H vs Q E hroom hsp => ?_), hm, hk, hb, hkw⟩
    obtain ⟨ps, h0, cs, ds, hn, hp, hth, hcs, r, hg⟩ := hsp
    let X := cxOf (L2.CX P w) P w K mg base d.N qual (defScope st) fa cdv A outer s H E
    have co : Co X ⟨K, mg, ps, h0⟩ := ⟨rfl, rfl, rfl, S.nd, by have := hroom.un; show (A.deeper _).units + 65 < cLine; omega⟩
    have tk : Takes X (fun cls d _ H => E cls d H) := takes_of rfl rfl rfl rfl
    have C : Cs ⟨d.N, defScope st, none, fun g => (T g).map (·.ps), conS, fre, kwf, imp⟩ X ⟨K, mg, ps, h0⟩ (callK T con rf k) con rf (fun cls d _ H => E cls d H) :=
      ⟨⟨co, rfl, rfl, fun _ _ => rfl, fun g gps e => by
          have e : (T g).map (·.ps) = some gps := e
          cases eg : T g with
          | none => rw [eg] at e; cases e
          | some d' =>
            rw [eg] at e
            cases e
            obtain ⟨ga, gd, G, gm, gk, gb, _⟩ := ih g d' eg
            exact ⟨ga, gd, k, G base, hroom, gm, gk, .all gb⟩, fun g gps kw e => by
          have e : (T g).map (·.ps) = some gps := e
          cases eg : T g with
          | none => rw [eg] at e; cases e
          | some d' =>
            rw [eg] at e
            cases e
            obtain ⟨ga, gd, G, gm, gk, _, gb⟩ := ih g d' eg
            exact ⟨ga, gd, k, G base, hroom, gm, gk, gb kw⟩, tx.con_, tx.fre_, tx.imp_, ⟨k, hroom⟩⟩, tk, passes_of rfl,
        hr, ⟨k, hroom⟩, rfl, rfl⟩
    refine ⟨_, sndSs d.body (defBody st) C hc H [], startE d.N ds, cs, fun _ => [], StS.start (by rw [hn]; exact hl) hp hth hcs r, ?_⟩
    have cl : ∀ {fp : Nat → List Addr} {H' : Hp} {c : Cells}, CsR ⟨K, mg, ps, h0⟩ (hsOf ⟨K, mg, ps, h0⟩ fp) H' c → CsR ⟨K, mg, ps, h0⟩ h0 H' c := fun cc => cc.less fun a h => .inl h
    unfold callK runB at hg
    rw [hd] at hg
    simp only at hg
    cases e : evSs (callK T con rf k) con rf d.body (startE d.N ds) cs with
    | nx env c => rw [e] at hg; exact fun fp σ H' S' => hg .non H' S'.same (cl S'.st.cells) Rp.non
    | brk env c => rw [e] at hg; exact hg.elim
    | cnt env c => rw [e] at hg; exact hg.elim
    | ret x c => rw [e] at hg; exact fun v H' sb cc rv => hg v H' sb cc rv
    | exc x fs env c => rw [e] at hg; exact fun cls dd fp σ H' S' ex => hg cls dd H' S'.same (cl S'.st.cells) (ex.less fun a h => .inl h)
    | bad => rw [e] at hg; exact hg.elim
end
/-! ### the end -/
/-- the def st stands in the written part under the name f -/
structure DefAt (K : PySem.W.Frag) (f : Str) (st : Stmt) : Prop where
  ex : ∃ (fa : Addr) (od an : Option Addr) (sl : Array (Option Value)) (oc kV dc pm cd ct : Value), PySem.W.nsIn K mainGlobals f = some (some (.ref fa)) ∧
    K.lookup fa = some ⟨oc, od, .func (PySem.W.fnOf f f (defArgs st) (defBody st) (defScope st) .none kV dc pm an cd ct), sl⟩ ∧ PySem.W.codeIn K cd f = true ∧ PySem.W.keepIn K (.ref fa) = true
theorem def_at {K : PySem.W.Frag} {f : Str} {st : Stmt} {fa : Addr} {od an : Option Addr} {sl : Array (Option Value)} {oc kV dc pm cd ct : Value} (a : PySem.W.nsIn K mainGlobals f = some (some (.ref fa)))
    (l : K.lookup fa = some ⟨oc, od, .func (PySem.W.fnOf f f (defArgs st) (defBody st) (defScope st) .none kV dc pm an cd ct), sl⟩) (c : PySem.W.codeIn K cd f = true) (k : PySem.W.keepIn K (.ref fa) = true) : DefAt K f st := ⟨⟨fa, od, an, sl, oc, kV, dc, pm, cd, ct, a, l, c, k⟩⟩
/-- what is said of a def of the table, the written part aside -/
structure Said (T : Tab) (conS : Str → Option Unit) (rf : Str → Option Str) (fre : List Str) (kwf : Str → Bool) (imp : Str → Option IM) (f : Str) (d : Def) (st : Stmt) : Prop where
  sc : FnScope d.N d.ps (defScope st)
  le : d.ps.length ≤ d.N.length
  ck : chkSs ⟨d.N, defScope st, none, fun g => (T g).map (·.ps), conS, fre, kwf, imp⟩ rf d.body (defBody st) = true
  bd : ∀ (kV dc pm : Value) (an : Option Addr) (cd ct : Value) (us : List Value), us.length = d.ps.length → bindArgs (PySem.W.fnOf f f (defArgs st) (defBody st) (defScope st) .none kV dc pm an cd ct) ⟨us, []⟩ = pure (d.ps.zip us)
  kw : kwf f = true → ∀ (kV dc pm : Value) (an : Option Addr) (cd ct : Value) (us : List Value), us.length = d.ps.length → bindArgs (PySem.W.fnOf f f (defArgs st) (defBody st) (defScope st) .none kV dc pm an cd ct) ⟨[], d.ps.zip us⟩ = pure (d.ps.zip us)
theorem txt_of {K : PySem.W.Frag} {mg : Str → Option Value} {h : Heap} (X : K.In h) (G : h.Ns mainGlobals mg) {T : Tab} {con : Str → Option D} {conS : Str → Option Unit} {rf : Str → Option Str} {fre : List Str} {kwf : Str → Bool} {imp : Str → Option IM} {top : Str → Stmt}
    (sd : ∀ f d, T f = some d → Said T conS rf fre kwf imp f d (top f)) (at_ : ∀ f d, T f = some d → DefAt K f (top f))
    (con_ : ∀ x, (conS x).isSome = true → ∃ d u v, con x = some d ∧ mg x = some u ∧ RelV v u ∧ ∀ ps H, Rp K mg ps H d v) (fre_ : ∀ x ∈ fre, PySem.W.nsIn K mainGlobals x = some none) (imp_ : ∀ x f, imp x = some f → PySem.W.nsIn K mainGlobals x = some (some (.builtin f.id))) : Txt K mg T con conS rf fre kwf imp := by
  refine ⟨fun f d e => ?_, con_, fun x hx => PySem.W.mg_none_of X G (fre_ x hx), fun x f e => PySem.W.mg_of X G (imp_ x f e)⟩
  obtain ⟨fa, od, an, sl, oc, kV, dc, pm, cd, ct, a, l, c, k⟩ := (at_ f d e).ex
  have S := sd f d e
  exact ⟨f, top f, fa, _, fun_mk l c k, PySem.W.mg_of X G a, k, S.bd kV dc pm an cd ct, S.sc, S.le, S.ck, fun q s ws _ hl => .of_eq (S.kw q kV dc pm an cd ct ws hl)⟩
/-- what is asked of law -/
def spEnd (K : PySem.W.Frag) : Sp := fun vs H Q _ => ∃ (a : Addr) (ns : List Int), vs = [.ref a] ∧ ns.length ≤ 63 ∧ (∀ z ∈ ns, Builtin.Int.intBits z ≤ 1048576) ∧ SqL K H a (ns.map V.int) ∧ ∀ H', Q (.bl true) H'
theorem rpl_ints {K : PySem.W.Frag} {mg : Str → Option Value} {ps : List Addr} {H : Hp} : ∀ ns : List Int, Pc.RpL K mg ps H (ns.map D.int) (ns.map V.int)
  | [] => RpL.nil
  | n :: ns => RpL.cons Rp.int (rpl_ints ns)
theorem law_walk {l : PySem.W.OpenLaw} {q : Program} {loose : List Str} {XP : (Str → Option Value) → Heap → Prop} {YP : World → Heap → Prop} {d : DefRec} {K : Params → PySem.W.Frag} {T : Tab} {con : Str → Option D} {conS : Str → Option Unit} {rf : Str → Option Str} {fre : List Str} {kwf : Str → Bool} {imp : Str → Option IM} (k : Nat) {dl : Def}
    (hn : l.most = some 63) (hdf : d.params.defaults = []) (hr : Room k callerA) (hY : ∀ (w : World) (h : Heap), YP w h → (K w.params).In h) (hd : d.name = "law") (hl : T "law" = some dl) (hps : dl.ps = [("script" : Str)])
    (tx : ∀ (w : World) (mg : Str → Option Value) (h : Heap), (K w.params).In h → h.Ns mainGlobals mg → Txt (K w.params) mg T con conS rf fre kwf imp ∧ Bts (K w.params) mg rf)
    (math : ∀ ns : List Int, ns.length ≤ 63 → (∀ z ∈ ns, Builtin.Int.intBits z ≤ 1048576) → callK T con rf k "law" [.frz (ns.map .int)] [] = .ok (.bl true) []) :
    PySem.W.WalkO q loose XP YP l.row.toRowW d [] (fun f vs => PySem.call f vs) := by
  refine L2.walk_ofB (n := 63) (k := k) (x := "script") (CX := fun w => L2.CX l.prog w) (sp := fun w => spEnd (K w.params)) hn (by decide) hdf hr hY ?_ (fun w H a ns h1 h2 _ h3 => ⟨a, ns, rfl, h1, h2, h3, fun _ => rfl⟩) fun w H s e s' z => ?_
  · intro w mg fa h X G hfa
    obtain ⟨t, b⟩ := tx w mg h X G
    rw [hd] at hfa
    obtain ⟨ga, fd, F, m, _, bd, _⟩ := def_ok (P := l.prog) (w := w) t b k "law" dl hl
    rw [m] at hfa
    cases hfa
    refine ⟨fd, fun s u => ?_, fun base _ _ => ?_⟩
    · have := bd [u] (by rw [hps]; rfl)
      rw [hps] at this
      exact .of_eq this
    · have F := F base
      rw [hps] at F
      refine F.imp fun vs H Q E h => ?_
      obtain ⟨a, ns, rfl, h1, h2, h3, hQ⟩ := h
      refine ⟨[], fun _ => False, [], [.frz (ns.map .int)], rfl, fun _ z => (by cases z), fun _ z => z.elim, ⟨rfl, .nil, fun i es a e => by simp at e⟩, ?_, ?_⟩
      · refine RpL.cons ?_ RpL.nil
        unfold Pc.Rp
        exact ⟨a, ns.map V.int, rfl, sqL_le (fun a o e => hid_some.mpr ⟨fun z => z, e⟩) h3, rpl_ints ns⟩
      · rw [math ns h1 h2]
        exact fun v H' _ _ r => by
          rw [Rp.bl_of r]
          exact hQ H'
  · obtain ⟨_, _, _, _, _, _, _, _, _, _, _, _, z⟩ := z
    exact z.elim
end Pc

set_option Elab.async false
set_option maxRecDepth 100000
set_option maxHeartbeats 4000000
namespace Pc
open PySem PySem.Spec PyProof.Rows L2

/-! ### a table as a list -/
def AllL {α : Type} (P : α → Prop) : List α → Prop
  | [] => True
  | a :: l => P a ∧ AllL P l
theorem AllL.mem {α : Type} {P : α → Prop} : ∀ {l : List α} {a : α}, AllL P l → a ∈ l → P a
  | _ :: _, _, h, .head _ => h.1
  | _ :: _, _, h, .tail _ m => AllL.mem h.2 m
theorem mem_look {α β : Type} [BEq α] [LawfulBEq α] : ∀ {l : List (α × β)} {a : α} {b : β}, List.lookup a l = some b → (a, b) ∈ l
  | (x, y) :: l, a, b, h => by
    rw [List.lookup_cons] at h
    cases e : a == x with
    | true =>
      rw [e] at h
      cases h
      rw [eq_of_beq e]
      exact .head _
    | false =>
      rw [e] at h
      exact .tail _ (mem_look h)
abbrev Row := Str × Def × Stmt
def tabL (L : List Row) : Tab := fun f => (List.lookup f L).map (·.1)
def topL (L : List Row) : Str → Stmt := fun f => ((List.lookup f L).map (·.2)).getD (.Pass ⟨0, 0, 0, 0⟩)
/-- a constant of the module -/
def ConAt (K : PySem.W.Frag) (x : Str) (d : D) : Prop := ∀ (mg : Str → Option Value) (h : Heap), K.In h → h.Ns mainGlobals mg → ∃ u v, mg x = some u ∧ RelV v u ∧ ∀ ps H, Rp K mg ps H d v
theorem con_int {K : PySem.W.Frag} {x : Str} {i : Int} {t : Tok} (a : PySem.W.nsIn K mainGlobals x = some (some (.int i t))) : ConAt K x (.int i) := fun mg h X G => ⟨_, .int i, PySem.W.mg_of X G a, ⟨_, rfl⟩, fun ps H => Rp.int⟩
theorem con_fn {K : PySem.W.Frag} {x : Str} {f : Addr} (a : PySem.W.nsIn K mainGlobals x = some (some (.ref f))) : ConAt K x (.fn x) := fun mg h X G => ⟨_, .ref f, PySem.W.mg_of X G a, rfl, fun ps H => by
  unfold Pc.Rp
  exact ⟨f, rfl, PySem.W.mg_of X G a⟩⟩
def strsAre : List Str → List Value → Prop
  | [], [] => True
  | x :: xs, .str y _ :: ys => x = y ∧ x.length ≤ 100000 ∧ strsAre xs ys
  | _, _ => False
theorem strs_vals {K : PySem.W.Frag} {mg : Str → Option Value} {ps : List Addr} {H : Hp} : ∀ {xs : List Str} {us : List Value}, strsAre xs us → Vals (xs.map V.str) us ∧ Pc.RpL K mg ps H (xs.map D.str) (xs.map V.str)
  | [], [], _ => ⟨.nil, RpL.nil⟩
  | x :: xs, .str y t :: ys, h => by
    obtain ⟨rfl, hl, h⟩ := h
    obtain ⟨a, b⟩ := strs_vals (K := K) (mg := mg) (ps := ps) (H := H) h
    exact ⟨.cons ⟨_, rfl⟩ a, RpL.cons (Rp.str hl) b⟩
theorem con_strs {K : PySem.W.Frag} {x : Str} {xs : List Str} {a : Addr} {o : Obj} {its : Array Value} {n : Nat} (e : PySem.W.nsIn K mainGlobals x = some (some (.ref a))) (l : K.lookup a = some o) (c : o.cls = .type "tuple") (d : o.data = .seq its n) (s : its.size ≤ sizeLine) (r : strsAre xs its.toList) : ConAt K x (.tpc (xs.map D.str)) := fun mg h X G =>
  ⟨_, .ref a, PySem.W.mg_of X G e, rfl, fun ps H => Rp.tpc ⟨o, its, n, l, c, d, s, (strs_vals (K := K) (mg := mg) (ps := ps) (H := H) r).1⟩ (strs_vals r).2⟩
def conL (C : List (Str × D)) : Str → Option D := fun x => List.lookup x C
def conU (C : List (Str × D)) : Str → Option Unit := fun x => (List.lookup x C).map fun _ => ()
def impL (I : List (Str × IM)) : Str → Option IM := fun x => List.lookup x I
theorem txt_list {K : PySem.W.Frag} {mg : Str → Option Value} {h : Heap} (X : K.In h) (G : h.Ns mainGlobals mg) {L : List Row} {C : List (Str × D)} {rf : Str → Option Str} {fre : List Str} {kwf : Str → Bool} {I : List (Str × IM)} (sd : AllL (fun p : Row => Said (tabL L) (conU C) rf fre kwf (impL I) p.1 p.2.1 p.2.2) L) (at_ : AllL (fun p : Row => DefAt K p.1 p.2.2) L)
    (cn : AllL (fun p : Str × D => ConAt K p.1 p.2) C) (fr : AllL (fun x : Str => PySem.W.nsIn K mainGlobals x = some none) fre) (im : AllL (fun p : Str × IM => PySem.W.nsIn K mainGlobals p.1 = some (some (.builtin p.2.id))) I) : Txt K mg (tabL L) (conL C) (conU C) rf fre kwf (impL I) := by
  have key : ∀ f d, tabL L f = some d → (f, d, topL L f) ∈ L := fun f d e => by
    unfold tabL at e
    cases el : List.lookup f L with
    | none => rw [el] at e; cases e
    | some p =>
      rw [el] at e
      cases e
      have : topL L f = p.2 := by unfold topL; rw [el]; rfl
      rw [this]
      exact mem_look el
  refine txt_of X G (top := topL L) (fun f d e => sd.mem (key f d e)) (fun f d e => at_.mem (key f d e)) (fun x hx => ?_) (fun x hx => fr.mem hx) fun x f e => im.mem (mem_look e)
  unfold conU at hx
  cases el : List.lookup x C with
  | none => rw [el] at hx; cases hx
  | some d =>
    obtain ⟨u, v, h1, h2, h3⟩ := cn.mem (mem_look el) mg h X G
    exact ⟨d, u, v, el, h1, h2, h3⟩
end Pc
namespace Pc
open PySem PySem.Spec PyProof.Rows L2 PySem.PcX
/-- an error's class catches its own -/
theorem catches {K : PySem.W.Frag} {C : Addr} (h1 : PySem.W.subIn K (.ref C) (.type "BaseException") = some true) (h2 : PySem.W.isClsIn K C = true) (h3 : PySem.W.typeIn K (.ref C) = some (.type "type")) (h4 : PySem.W.subIn K (.ref C) (.ref C) = some true) : PySem.W.exmOne K (.ref C) (.ref C) = some true := by
  have h2' : (PySem.W.clsIn K C).isSome = true := h2
  have a : (PySem.W.subIn K (.ref C) (.type "BaseException") == some true) = true := by rw [h1] <;> rfl
  have b : ((PySem.W.clsIn K C).isSome && PySem.W.typeIn K (.ref C) == some (.type "type")) = true := by rw [h2', h3] <;> rfl
  show (if (PySem.W.subIn K (.ref C) (.type "BaseException") == some true) = true then (if ((PySem.W.clsIn K C).isSome && PySem.W.typeIn K (.ref C) == some (.type "type")) = true then PySem.W.subIn K (.ref C) (.ref C) else none) else none) = some true
  rw [if_pos a, if_pos b, h4]
section
variable {K : PySem.W.Frag} {mg : Str → Option Value} {h : Heap} {x f : Str} {qual : String} {C F fI : Addr} {nm q : Str} {N : Addr} {bs : List Value} {sn : List Str} {sub : List Value} {ab : Bool} {col : Option Bool} {dd : Option Addr} {k0 k1 k2 k3 k5 : Option Value}
    {oc : Value} {od : Option Addr} {doc pm : Value} {an : Option Addr} {cdv ct : Value} {osl : Array (Option Value)} {msg : Str} {p1 p2 q1 q2 q3 q4 q5 q6 q7 q8 q9 q10 : Pos}
theorem bad_of (X : K.In h) (G : h.Ns mainGlobals mg) (ff : f = "at" ∨ f = "name") (aC : PySem.W.nsIn K mainGlobals x = some (some (.ref C))) (aF : PySem.W.nsIn K mainGlobals "FormError" = some (some (.ref F)))
    (cl : K.lookup C = some (excClassObj nm q C N bs (mroX F) true sn sub ab col dd k0 k1 k2 k3 k5 "Exception.__new__")) (sa : PySem.W.findIn K (.ref C) "__setattr__" = some (some (.builtin "object.__setattr__"))) (ga : PySem.W.findIn K (.ref C) "__getattribute__" = some (some (.builtin "BaseException.__getattribute__")))
    (gg : PySem.W.findIn K (.ref C) "__getattr__" = some none) (nN : PySem.W.findIn K (.ref C) f = some none) (iC : PySem.W.findIn K (.ref C) "__init__" = some (some (.ref fI))) (tC : PySem.W.typeIn K (.ref fI) = some (.type "function")) (kC : PySem.W.keepIn K (.ref C) = true) (exC : PySem.W.subIn K (.ref C) (.type "BaseException") = some true)
    (tyC : PySem.W.typeIn K (.ref C) = some (.type "type")) (hdC : PySem.W.hasDictIn K C = true) (isC : PySem.W.isClsIn K C = true) (sC : PySem.W.subIn K (.ref C) (.ref C) = some true) (rF : PySem.W.readsIn K F (.type "type") = true) (sF : PySem.W.specialIn K (.ref F) "__getattribute__" = some (some (.builtin "type.__getattribute__")))
    (cF : PySem.W.findCls K (.ref F) (.type "type") "__init__" = some (.val (.builtin "Exception.__init__"))) (fn : K.lookup fI = some ⟨oc, od, .func (PySem.W.fnOf "__init__" qual (argX f p1 p2) (bodX f msg q1 q2 q3 q4 q5 q6 q7 q8 q9 q10) (scoX f) .none .none doc pm an cdv ct), osl⟩) (cd : PySem.W.codeIn K cdv qual = true) (hl : (q2.endLine == q5.line) = true) :
    BadT K mg x f qual C F fI :=
  ⟨ff, PySem.W.mg_of X G aC, PySem.W.mg_of X G aF, ⟨nm, q, N, bs, sn, sub, ab, col, dd, k0, k1, k2, k3, k5, cl⟩, sa, ga, gg, nN, iC, tC, kC, exC, tyC, hdC, catches exC isC tyC sC, rF, sF, cF, ⟨oc, od, doc, pm, an, cdv, ct, osl, msg, p1, p2, q1, q2, q3, q4, q5, q6, q7, q8, q9, q10, fn, cd, hl⟩⟩
theorem no_of (X : K.In h) (G : h.Ns mainGlobals mg) (aC : PySem.W.nsIn K mainGlobals x = some (some (.ref C))) (aF : PySem.W.nsIn K mainGlobals "FormError" = some (some (.ref F)))
    (cl : K.lookup C = some (excClassObj nm q C N bs (mroX F) true sn sub ab col dd k0 k1 k2 k3 k5 "Exception.__new__")) (iC : PySem.W.findIn K (.ref C) "__init__" = some (some (.ref fI))) (tC : PySem.W.typeIn K (.ref fI) = some (.type "function")) (kC : PySem.W.keepIn K (.ref C) = true) (exC : PySem.W.subIn K (.ref C) (.type "BaseException") = some true)
    (tyC : PySem.W.typeIn K (.ref C) = some (.type "type")) (rF : PySem.W.readsIn K F (.type "type") = true) (sF : PySem.W.specialIn K (.ref F) "__getattribute__" = some (some (.builtin "type.__getattribute__")))
    (cF : PySem.W.findCls K (.ref F) (.type "type") "__init__" = some (.val (.builtin "Exception.__init__"))) (fn : K.lookup fI = some ⟨oc, od, .func (PySem.W.fnOf "__init__" qual (argN p1) (bodN q1 q2 q3 q5 q6) scoN .none .none doc pm an cdv ct), osl⟩) (cd : PySem.W.codeIn K cdv qual = true) (hl : (q2.endLine == q5.line) = true) :
    NoT K mg x qual C F fI :=
  ⟨PySem.W.mg_of X G aC, PySem.W.mg_of X G aF, ⟨nm, q, N, bs, sn, sub, ab, col, dd, k0, k1, k2, k3, k5, cl⟩, iC, tC, kC, exC, tyC, rF, sF, cF, ⟨oc, od, doc, pm, an, cdv, ct, osl, p1, q1, q2, q3, q5, q6, fn, cd, hl⟩⟩
end
/-- the own class of the name y, asked of the instances of the class at C -/
def OwnAt (K : PySem.W.Frag) (C : Addr) (p : Str × Bool) : Prop := ∃ Y, PySem.W.nsIn K mainGlobals p.1 = some (some (.ref Y)) ∧ PySem.W.kitOne K (.ref C) (.ref Y) = some p.2 ∧ PySem.W.subIn K (.ref Y) (.type "BaseException") = some true ∧ PySem.W.hasDictIn K Y = true ∧ PySem.W.typeIn K (.ref Y) = some (.type "type") ∧ PySem.W.subIn K (.ref C) (.ref Y) = some p.2
/-- what is said of such a class -/
structure ClsK (K : PySem.W.Frag) (x : Str) (C : Addr) (ms : List (Str × Bool)) (bs : List (String × Bool)) (ks : List Str) : Prop where
  ec : ExcC K C
  own : AllL (OwnAt K C) ms
  blt : AllL (fun p : String × Bool => PySem.W.kitOne K (.ref C) (.type p.1) = some p.2) bs
  gC : PySem.W.nsIn K mainGlobals x = some (some (.ref C))
  made : ∀ (mg : Str → Option Value) (h : Heap), K.In h → h.Ns mainGlobals mg → MkC K mg x C ks
theorem con_cls {K : PySem.W.Frag} {x : Str} {C : Addr} {ms : List (Str × Bool)} {bs : List (String × Bool)} {ks : List Str} (k : ClsK K x C ms bs ks) : ConAt K x (.cls x ms bs ks) := fun mg h X G =>
  ⟨.ref C, .ref C, PySem.W.mg_of X G k.gC, rfl, fun ps H => Rp.cls (PySem.W.mg_of X G k.gC) ⟨⟨k.ec, fun y b e => by
    obtain ⟨Y, a1, a2, a3, a4, a5, a6⟩ := k.own.mem (mem_look e)
    exact ⟨Y, PySem.W.mg_of X G a1, a2, PySem.W.exm_ref a3 a4 a5 a6⟩, fun n b e => k.blt.mem (mem_look e)⟩, k.made mg h X G⟩⟩
/-- the errors as a list -/
theorem bts_of {K : PySem.W.Frag} {mg : Str → Option Value} {l : List (Str × Str)} (h : AllL (fun p : Str × Str => (p.1 == ("__debug__" : Str)) = false ∧ ∃ qual C F fI, BadT K mg p.1 p.2 qual C F fI) l) : Bts K mg (fun x => List.lookup x l) := fun x f e => h.mem (mem_look e)
end Pc

set_option Elab.async false
set_option maxRecDepth 100000
set_option maxHeartbeats 4000000
/-! Pc20: the words' ends, forward: what a run of the words leads to. -/
namespace Pc
open PySem PySem.Spec PyProof.Rows L2

abbrev EK := Str → List (Str × D) → Cells → Prop
def noE : EK := fun _ _ _ => False
/-- r ends with Q, or with an error and E -/
def Rs.W {α : Type} (r : Rs α) (Q : α → Cells → Prop) (E : EK) : Prop := match r with
  | .ok a c => Q a c
  | .exc x fs c => E x fs c
  | .bad => False
def Rt.W (r : Rt) (N B C : List Slot → Cells → Prop) (R : D → Cells → Prop) (E : Str → List (Str × D) → List Slot → Cells → Prop) : Prop := match r with
  | .nx e c => N e c
  | .brk e c => B e c
  | .cnt e c => C e c
  | .ret d c => R d c
  | .exc x fs e c => E x fs e c
  | .bad => False
def optW {α : Type} (o : Option α) (P : α → Prop) : Prop := match o with
  | some r => P r
  | none => False
theorem W_congr {α : Type} {r r' : Rs α} {Q : α → Cells → Prop} {E : EK} (h : r = r') : r.W Q E = r'.W Q E := by rw [h]
theorem Wt_congr {r r' : Rt} {N B C R E} (h : r = r') : r.W N B C R E = r'.W N B C R E := by rw [h]
theorem optW_congr {α : Type} {r r' : Option α} {P : α → Prop} (h : r = r') : optW r P = optW r' P := by rw [h]
section
variable {α : Type} {Q Q' : α → Cells → Prop} {E E' : EK} {r : Rs α}
theorem Rs.W.mono (h : r.W Q E) (q : ∀ a c, Q a c → Q' a c) (e : ∀ x fs c, E x fs c → E' x fs c) : r.W Q' E' := by
  cases r with
  | ok a c => exact q _ _ h
  | exc x fs c => exact e _ _ _ h
  | bad => exact h
theorem Rs.W.to (h : r.W Q noE) (q : ∀ a c, Q a c → Q' a c) : r.W Q' E' := h.mono q fun _ _ _ z => z.elim
theorem Rs.W.eq {a : α} {c : Cells} (h : r.W (fun x y => x = a ∧ y = c) noE) : r = .ok a c := by
  cases r with
  | ok x y => obtain ⟨rfl, rfl⟩ := h; rfl
  | exc => exact h.elim
  | bad => exact h.elim
@[simp] theorem W_ok {a : α} {c : Cells} : (Rs.ok a c).W Q E ↔ Q a c := Iff.rfl
@[simp] theorem W_exc {x : Str} {fs : List (Str × D)} {c : Cells} : (Rs.exc x fs c : Rs α).W Q E ↔ E x fs c := Iff.rfl
theorem W_of {a : α} {c : Cells} (h : r = .ok a c) (q : Q a c) : r.W Q E := by rw [h]; exact q
end
@[simp] theorem optW_some {α : Type} {a : α} {P : α → Prop} : optW (some a) P ↔ P a := Iff.rfl
@[simp] theorem optW_none {α : Type} {P : α → Prop} : optW (none : Option α) P ↔ False := Iff.rfl
@[simp] theorem optW_ite {α : Type} {c : Prop} [Decidable c] {a : α} {P : α → Prop} : optW (if c then some a else none) P ↔ c ∧ P a := by
  by_cases h : c <;> simp [h, optW]
@[simp] theorem optW_map {α β : Type} {o : Option α} {f : α → β} {P : β → Prop} : optW (o.map f) P ↔ optW o fun a => P (f a) := by
  cases o <;> rfl
@[simp] theorem optW_bind {α β : Type} {o : Option α} {f : α → Option β} {P : β → Prop} : optW (o.bind f) P ↔ optW o fun a => optW (f a) P := by
  cases o <;> rfl
theorem optW_of {α : Type} {o : Option α} {a : α} {P : α → Prop} (h : o = some a) (p : P a) : optW o P := by rw [h]; exact p
section
variable {Q : Vl → Cells → Prop} {E : EK} {env : List Slot} {cs : Cells} {m a b : ES}
theorem w_bnd {k : Vl → ES} : (bnd m k env cs).W Q E ↔ (m env cs).W (fun x c => (k x env c).W Q E) E := by
  unfold bnd
  cases m env cs <;> rfl
@[simp] theorem w_lift {o : Option Vl} : (lift o env cs).W Q E ↔ optW o fun r => Q r cs := by
  unfold lift
  cases o <;> rfl
@[simp] theorem w_ret {d : D} : (sRet d env cs).W Q E ↔ Q (.st, d) cs := Iff.rfl
def varW (s : Option Slot) (P : Vl → Prop) : Prop := match s with
  | some (.sh d) => P (.st, d)
  | some (.ow k d) => P (.tr k, d)
  | _ => False
theorem varW_congr {s s' : Option Slot} {P : Vl → Prop} (h : s = s') : varW s P = varW s' P := by rw [h]
@[simp] theorem varW_sh {d : D} {P : Vl → Prop} : varW (some (.sh d)) P ↔ P (.st, d) := Iff.rfl
@[simp] theorem varW_ow {k : Nat} {d : D} {P : Vl → Prop} : varW (some (.ow k d)) P ↔ P (.tr k, d) := Iff.rfl
@[simp] theorem w_var {i : Nat} : (sVar i env cs).W Q E ↔ varW env[i]? fun v => Q v cs := by
  unfold sVar
  cases env[i]? with
  | none => rfl
  | some s => cases s <;> rfl
@[simp] theorem w_op {g : Vl → Vl → Option Vl} : (sOp g a b env cs).W Q E ↔ (a env cs).W (fun x c => (b env c).W (fun y c' => optW (g x y) fun r => Q r c') E) E := by
  unfold sOp
  rw [w_bnd]
  refine iff_of_eq (congrArg (fun q => (a env cs).W q E) ?_)
  funext x c
  exact propext (w_bnd.trans (iff_of_eq (congrArg (fun q => (b env c).W q E) (funext fun y => funext fun c' => propext w_lift))))
@[simp] theorem w_un {g : Vl → Option Vl} : (sUn g m env cs).W Q E ↔ (m env cs).W (fun x c => optW (g x) fun r => Q r c) E := by
  unfold sUn
  rw [w_bnd]
  exact iff_of_eq (congrArg (fun q => (m env cs).W q E) (funext fun x => funext fun c => propext w_lift))
/-- what a test says -/
def tstW (o : Option Bool) (T F : Prop) : Prop := match o with
  | some true => T
  | some false => F
  | none => False
theorem tstW_congr {o o' : Option Bool} {T F : Prop} (h : o = o') : tstW o T F = tstW o' T F := by rw [h]
@[simp] theorem tstW_t {T F : Prop} : tstW (some true) T F ↔ T := Iff.rfl
@[simp] theorem tstW_f {T F : Prop} : tstW (some false) T F ↔ F := Iff.rfl
@[simp] theorem tstW_b {b : Bool} {T F : Prop} : tstW (some b) T F ↔ (b = true → T) ∧ (b = false → F) := by
  cases b <;> simp [tstW]
theorem w_tst {x : Vl} : (tst a b x env cs).W Q E ↔ tstW (truthD x.2) ((a env cs).W Q E) ((b env cs).W Q E) := by
  unfold tst
  cases truthD x.2 with
  | none => rfl
  | some v => cases v <;> rfl
@[simp] theorem w_if {c : ES} : (sIf c a b env cs).W Q E ↔ (c env cs).W (fun x c' => tstW (truthD x.2) ((a env c').W Q E) ((b env c').W Q E)) E := by
  unfold sIf
  rw [w_bnd]
  exact iff_of_eq (congrArg (fun q => (c env cs).W q E) (funext fun x => funext fun c => propext w_tst))
@[simp] theorem w_and : (sAnd a b env cs).W Q E ↔ (a env cs).W (fun x c' => tstW (truthD x.2) ((b env c').W Q E) (Q x c')) E := by
  unfold sAnd
  rw [w_bnd]
  refine iff_of_eq (congrArg (fun q => (a env cs).W q E) (funext fun x => funext fun c => propext (w_tst.trans ?_)))
  rw [show (lift (some x) env c).W Q E = Q x c from rfl]
@[simp] theorem w_or : (sOr a b env cs).W Q E ↔ (a env cs).W (fun x c' => tstW (truthD x.2) (Q x c') ((b env c').W Q E)) E := by
  unfold sOr
  rw [w_bnd]
  refine iff_of_eq (congrArg (fun q => (a env cs).W q E) (funext fun x => funext fun c => propext (w_tst.trans ?_)))
  rw [show (lift (some x) env c).W Q E = Q x c from rfl]
def blW (d : D) (T F : Prop) : Prop := match d with
  | .bl b => tstW (some b) T F
  | _ => False
@[simp] theorem blW_b {b : Bool} {T F : Prop} : blW (.bl b) T F ↔ tstW (some b) T F := Iff.rfl
@[simp] theorem w_chain {g g' : Vl → Vl → Option Vl} {c : ES} : (sChain g g' a b c env cs).W Q E ↔ (a env cs).W (fun x c1 => (b env c1).W (fun y c2 => optW (g x y) fun k => blW k.2 ((c env c2).W (fun z c3 => optW (g' y z) fun r => Q r c3) E) (Q (.st, .bl false) c2)) E) E := by
  unfold sChain
  rw [w_bnd]
  refine iff_of_eq (congrArg (fun q => (a env cs).W q E) (funext fun x => funext fun c1 => propext (w_bnd.trans ?_)))
  refine iff_of_eq (congrArg (fun q => (b env c1).W q E) (funext fun y => funext fun c2 => propext (w_bnd.trans (w_lift.trans ?_))))
  refine iff_of_eq (congrArg (fun q => optW (g x y) q) (funext fun k => propext ?_))
  cases k.2 with
  | bl v =>
    cases v with
    | false => exact Iff.rfl
    | true => exact w_bnd.trans (iff_of_eq (congrArg (fun q => (c env c2).W q E) (funext fun z => funext fun c3 => propext w_lift)))
  | _ => exact Iff.rfl
@[simp] theorem w_sub : (sSub a b env cs).W Q E ↔ (a env cs).W (fun x c => (b env c).W (fun y c' => optW (subF c' x y) fun r => Q r c') E) E := by
  unfold sSub
  rw [w_bnd]
  refine iff_of_eq (congrArg (fun q => (a env cs).W q E) (funext fun x => funext fun c => propext (w_bnd.trans ?_)))
  exact iff_of_eq (congrArg (fun q => (b env c).W q E) (funext fun y => funext fun c' => propext w_lift))
@[simp] theorem w_oN {Q : Option Int → Cells → Prop} : (oNone env cs).W Q E ↔ Q none cs := Iff.rfl
def intW (d : D) (P : Int → Prop) : Prop := match d with
  | .int i => P i
  | _ => False
@[simp] theorem intW_i {i : Int} {P : Int → Prop} : intW (.int i) P ↔ P i := Iff.rfl
@[simp] theorem w_oS {Q : Option Int → Cells → Prop} : (oSome m env cs).W Q E ↔ (m env cs).W (fun x c => intW x.2 fun i => Q (some i) c) E := by
  unfold oSome
  cases m env cs with
  | ok x c => obtain ⟨t, d⟩ := x; cases d <;> rfl
  | exc => rfl
  | bad => rfl
@[simp] theorem w_slice {lo hi : OS} : (sSlice m lo hi env cs).W Q E ↔ (m env cs).W (fun x c => (lo env c).W (fun l c1 => (hi env c1).W (fun h c2 => optW (slF l h x) fun r => Q r c2) E) E) E := by
  unfold sSlice
  rw [w_bnd]
  refine iff_of_eq (congrArg (fun q => (m env cs).W q E) (funext fun x => funext fun c => propext ?_))
  unfold bndO
  cases lo env c with
  | ok l c1 =>
    show Rs.W (match hi env c1 with | .ok x c => _ | .exc x fs c => _ | .bad => _) Q E ↔ Rs.W (hi env c1) _ E
    cases hi env c1 with
    | ok h c2 => exact w_lift
    | exc => rfl
    | bad => rfl
  | exc => rfl
  | bad => rfl
@[simp] theorem w_aN {Q : List Vl → Cells → Prop} : (aNil env cs).W Q E ↔ Q [] cs := Iff.rfl
@[simp] theorem w_aC {Q : List Vl → Cells → Prop} {ms : AS} : (aCons m ms env cs).W Q E ↔ (m env cs).W (fun x c => (ms env c).W (fun xs c' => Q (x :: xs) c') E) E := by
  unfold aCons
  cases m env cs with
  | ok x c => show Rs.W (match ms env c with | .ok xs c' => _ | .exc x fs c' => _ | .bad => _) Q E ↔ Rs.W (ms env c) _ E; cases ms env c <;> rfl
  | exc => rfl
  | bad => rfl
@[simp] theorem w_app {ms : AS} {f : List Vl → Option Vl} : (appA ms f env cs).W Q E ↔ (ms env cs).W (fun xs c => optW (f xs) fun r => Q r c) E := by
  unfold appA
  cases ms env cs with
  | ok xs c => exact w_lift
  | exc => rfl
  | bad => rfl
def plAll : List Vl → Bool
  | [] => true
  | x :: xs => x.1.plain && plAll xs
@[simp] theorem pa_0 : plAll [] = true := rfl
@[simp] theorem pa_1 {x : Vl} {xs : List Vl} : plAll (x :: xs) = (x.1.plain && plAll xs) := rfl
theorem plAll_eq : ∀ xs : List Vl, xs.all (fun x => x.1.plain) = plAll xs
  | [] => rfl
  | x :: xs => by rw [List.all_cons, plAll_eq xs]; rfl
@[simp] theorem w_call {ms : AS} {n : Nat} {g : List D → Cells → Rs D} : (sCall n g ms env cs).W Q E ↔ (ms env cs).W (fun xs c => (plAll xs = true ∧ xs.length = n) ∧ (g (xs.map (·.2)) c).W (fun d c' => Q (.st, d) c') E) E := by
  simp only [← plAll_eq]
  unfold sCall
  cases ms env cs with
  | ok xs c =>
    show Rs.W (if _ then _ else _) Q E ↔ _
    by_cases h : xs.all (fun x => x.1.plain) = true ∧ xs.length = n
    · rw [if_pos h]
      show _ ↔ _ ∧ Rs.W _ _ E
      refine Iff.trans ?_ (and_iff_right h).symm
      cases g (xs.map (·.2)) c <;> rfl
    · rw [if_neg h]
      exact ⟨fun z => z.elim, fun z => h z.1⟩
  | exc => rfl
  | bad => rfl
def fnW (s : Option Slot) (P : Str → Prop) : Prop := match s with
  | some (.sh (.fn f)) => P f
  | _ => False
@[simp] theorem fnW_f {f : Str} {P : Str → Prop} : fnW (some (.sh (.fn f))) P ↔ P f := Iff.rfl
@[simp] theorem w_callv {ms : AS} {n i : Nat} {fs : List Str} {call : Str → List D → Cells → Rs D} : (sCallv n i fs call ms env cs).W Q E ↔ fnW env[i]? fun f => fs.contains f = true ∧ (sCall n (call f) ms env cs).W Q E := by
  unfold sCallv
  cases env[i]? with
  | none => rfl
  | some s =>
    cases s with
    | sh d =>
      cases d with
      | fn f =>
        show Rs.W (if _ then _ else _) Q E ↔ (fs.contains f = true ∧ _)
        by_cases h : fs.contains f = true
        · rw [if_pos h]; exact (and_iff_right h).symm
        · rw [if_neg h]; exact ⟨fun z => z.elim, fun z => h z.1⟩
      | _ => rfl
    | _ => rfl
@[simp] theorem w_iapp {Q : List D → Cells → Prop} {ms : AS} {f : List Vl → Option (List D)} : (iApp ms f env cs).W Q E ↔ (ms env cs).W (fun xs c => optW (f xs) fun r => Q r c) E := by
  unfold iApp
  cases ms env cs with
  | ok xs c => show Rs.W (match f xs with | some ds => _ | none => _) Q E ↔ optW (f xs) _; cases f xs <;> rfl
  | exc => rfl
  | bad => rfl
@[simp] theorem w_iseq {Q : List D → Cells → Prop} : (iSeq m env cs).W Q E ↔ (m env cs).W (fun x c => optW (seqK x) fun r => Q r c) E := by
  unfold iSeq
  cases m env cs with
  | ok x c =>
    obtain ⟨t, d⟩ := x
    cases d <;> try rfl
    show Rs.W (if _ then _ else _) Q E ↔ optW (if _ then _ else _) _
    by_cases h : t.plain = true <;> simp [h, optW, Rs.W]
  | exc => rfl
  | bad => rfl
end
section
variable {call : Str → List D → Cells → Rs D} {con : Str → Option D} {Q : Vl → Cells → Prop} {E : EK} {env : List Slot} {cs : Cells}
@[simp] theorem w_con {x : Str} : (evE call con (.con x) env cs).W Q E ↔ optW (con x) fun d => Q (.st, d) cs := by
  simp only [evE]
  cases con x <;> rfl
end
/-! comprehensions -/
inductive All2 {α β : Type} (P : α → β → Prop) : List α → List β → Prop where
  | nil : All2 P [] []
  | cons {a b as bs} : P a b → All2 P as bs → All2 P (a :: as) (b :: bs)
theorem All2.length {α β : Type} {P : α → β → Prop} {as : List α} {bs : List β} (h : All2 P as bs) : as.length = bs.length := by
  induction h with
  | nil => rfl
  | cons _ _ ih => simp [ih]
theorem All2.snoc {α β : Type} {P : α → β → Prop} {as : List α} {bs : List β} {a : α} {b : β} (h : All2 P as bs) (p : P a b) : All2 P (as ++ [a]) (bs ++ [b]) := by
  induction h with
  | nil => exact .cons p .nil
  | cons q _ ih => exact .cons q ih
theorem All2.imp {α β : Type} {P Q : α → β → Prop} {as : List α} {bs : List β} (h : All2 P as bs) (i : ∀ a b, P a b → Q a b) : All2 Q as bs := by
  induction h with
  | nil => exact .nil
  | cons q _ ih => exact .cons (i _ _ q) ih
theorem All2.get {α β : Type} {P : α → β → Prop} {as : List α} {bs : List β} (h : All2 P as bs) : ∀ i (h1 : i < as.length) (h2 : i < bs.length), P as[i] bs[i] := by
  induction h with
  | nil => intro i h1; simp at h1
  | cons q _ ih =>
    intro i h1 h2
    cases i with
    | zero => exact q
    | succ i => exact ih i (by simpa using h1) (by simpa using h2)
theorem All2.right {α β : Type} {P : α → β → Prop} {as : List α} {bs : List β} (h : All2 P as bs) : ∀ b ∈ bs, ∃ a ∈ as, P a b := by
  induction h with
  | nil => intro b m; cases m
  | cons q _ ih =>
    intro b m
    rcases List.mem_cons.mp m with rfl | m
    · exact ⟨_, List.mem_cons_self .., q⟩
    · obtain ⟨a, ha, p⟩ := ih b m
      exact ⟨a, List.mem_cons_of_mem _ ha, p⟩
/-- how a comprehension ends -/
def compW (kk : Nat) (g : GS) (mc me : ES) (env : List Slot) (ds : List D) (c : Cells) (Q : Vl → Cells → Prop) : Prop := match compGo kk g mc me env ds c with
  | .ok es c2 => Q (.fr kk, .lst es) c2
  | _ => False
section
variable {kk : Nat} {g : GS} {mc me : ES} {env : List Slot} {Q : Vl → Cells → Prop}
theorem compGo_rule : ∀ (ds pre es : List D) (J : Nat → List D → Cells → Prop) (cs : Cells), J pre.length es cs →
    (∀ i (h : i < ds.length) es cs, J (pre.length + i) es cs → ∃ env1, g ds[i] env = some env1 ∧ (mc env1 cs).W (fun x c => tstW (truthD x.2) ((me env1 c).W (fun y c1 => (okTag kk y.1 = true ∧ (kk = 0 ∨ atomC c1 = true)) ∧ J (pre.length + i + 1) (es ++ [y.2]) c1) noE) (J (pre.length + i + 1) es c)) noE) →
    (compGo kk g mc me env ds cs).W (fun rs c => J (pre.length + ds.length) (es ++ rs) c) noE := by
  intro ds
  induction ds with
  | nil => intro pre es J cs h _; simpa [compGo, Rs.W] using h
  | cons d ds ih =>
    intro pre es J cs h st
    obtain ⟨env1, e1, w⟩ := st 0 (by simp) es cs h
    have st' : ∀ i (h : i < ds.length) es cs, J ((pre ++ [d]).length + i) es cs → ∃ env1, g ds[i] env = some env1 ∧ (mc env1 cs).W (fun x c => tstW (truthD x.2) ((me env1 c).W (fun y c1 => (okTag kk y.1 = true ∧ (kk = 0 ∨ atomC c1 = true)) ∧ J ((pre ++ [d]).length + i + 1) (es ++ [y.2]) c1) noE) (J ((pre ++ [d]).length + i + 1) es c)) noE := by
      intro i hi es cs hJ
      have := st (i + 1) (by simpa using hi) es cs (by simpa [Nat.add_assoc, Nat.add_comm 1] using hJ)
      simpa [Nat.add_assoc, Nat.add_comm 1] using this
    have fin : ∀ es c, J (pre.length + 1) es c → (compGo kk g mc me env ds c).W (fun rs c => J (pre.length + (d :: ds).length) (es ++ rs) c) noE := by
      intro es c hJ
      have := ih (pre ++ [d]) es J c (by simpa using hJ) st'
      refine this.mono (fun rs c h => ?_) fun _ _ _ z => z
      simpa [Nat.add_assoc, Nat.add_comm 1] using h
    unfold compGo
    rw [show g d env = some env1 from e1]
    simp only
    cases e2 : mc env1 cs with
    | bad => rw [e2] at w; exact w.elim
    | exc => rw [e2] at w; exact w.elim
    | ok x c =>
      rw [e2] at w
      have w : tstW (truthD x.2) _ _ := w
      simp only
      cases ht : truthD x.2 with
      | none => rw [ht] at w; exact w.elim
      | some bb =>
        rw [ht] at w
        cases bb with
        | false => exact fin es c w
        | true =>
          simp only
          have w : (me env1 c).W _ _ := w
          cases e3 : me env1 c with
          | bad => rw [e3] at w; exact w.elim
          | exc => rw [e3] at w; exact w.elim
          | ok y c1 =>
            rw [e3] at w
            obtain ⟨h1, hj⟩ := w
            simp only
            rw [if_pos h1]
            have := fin (es ++ [y.2]) c1 hj
            cases e4 : compGo kk g mc me env ds c1 with
            | bad => rw [e4] at this; exact this.elim
            | exc => rw [e4] at this; exact this.elim
            | ok rs c2 =>
              rw [e4] at this
              simpa [Rs.W, List.append_assoc] using this
theorem comp_lst {α : Type} {f : α → D} {xs : List α} {cs : Cells} (J : Nat → List D → Cells → Prop) (h0 : J 0 [] cs)
    (st : ∀ i (h : i < xs.length) es cs, J i es cs → ∃ env1, g (f xs[i]) env = some env1 ∧ (mc env1 cs).W (fun x c => tstW (truthD x.2) ((me env1 c).W (fun y c1 => (okTag kk y.1 = true ∧ (kk = 0 ∨ atomC c1 = true)) ∧ J (i + 1) (es ++ [y.2]) c1) noE) (J (i + 1) es c)) noE)
    (en : ∀ es c, J xs.length es c → Q (.fr kk, .lst es) c) : compW kk g mc me env (xs.map f) cs Q := by
  have := compGo_rule (kk := kk) (g := g) (mc := mc) (me := me) (env := env) (xs.map f) [] [] J cs h0 (fun i h es cs hJ => by
    have := st i (by simpa using h) es cs (by simpa using hJ)
    simpa using this)
  unfold compW
  cases e : compGo kk g mc me env (xs.map f) cs with
  | bad => rw [e] at this; exact this.elim
  | exc => rw [e] at this; exact this.elim
  | ok rs c2 => rw [e] at this; exact en rs c2 (by simpa [Rs.W] using this)
/-- pure, item by item -/
theorem comp_map {α : Type} {f : α → D} {xs : List α} {cs : Cells} (F : α → D)
    (st : ∀ x ∈ xs, ∃ env1, g (f x) env = some env1 ∧ (mc env1 cs).W (fun z c => tstW (truthD z.2) ((me env1 c).W (fun y c1 => (okTag kk y.1 = true ∧ (kk = 0 ∨ atomC c1 = true)) ∧ y.2 = F x ∧ c1 = cs) noE) False) noE)
    (en : Q (.fr kk, .lst (xs.map F)) cs) : compW kk g mc me env (xs.map f) cs Q := by
  refine comp_lst (fun i es c => es = (xs.take i).map F ∧ c = cs) ⟨by simp, rfl⟩ ?_ ?_
  · rintro i h es c ⟨rfl, rfl⟩
    obtain ⟨env1, e1, w⟩ := st xs[i] (List.getElem_mem h)
    refine ⟨env1, e1, w.mono (fun z c' hz => ?_) fun _ _ _ z => z⟩
    cases ht : truthD z.2 with
    | none => rw [ht] at hz; exact hz.elim
    | some bb =>
      rw [ht] at hz
      cases bb with
      | false => exact hz.elim
      | true =>
        refine Rs.W.mono hz (fun y c1 hy => ⟨hy.1, ?_, hy.2.2⟩) fun _ _ _ z => z
        rw [hy.2.1, List.take_succ_eq_append_getElem h, List.map_append]
        rfl
  · rintro es c ⟨rfl, rfl⟩
    simpa using en
/-- item by item, with an invariant of the cells -/
theorem comp_st {α β : Type} {f : α → D} {xs : List α} {cs : Cells} (enc : β → D) (P : α → β → Prop) (I : Cells → Prop) (h0 : I cs)
    (st : ∀ x ∈ xs, ∀ cs, I cs → ∃ env1, g (f x) env = some env1 ∧ (mc env1 cs).W (fun z c => tstW (truthD z.2) ((me env1 c).W (fun y c1 => (okTag kk y.1 = true ∧ (kk = 0 ∨ atomC c1 = true)) ∧ (∃ b, y.2 = enc b ∧ P x b) ∧ I c1) noE) False) noE)
    (en : ∀ ys c, All2 P xs ys → I c → Q (.fr kk, .lst (ys.map enc)) c) : compW kk g mc me env (xs.map f) cs Q := by
  refine comp_lst (fun i es c => (∃ ys, es = ys.map enc ∧ All2 P (xs.take i) ys) ∧ I c) ⟨⟨[], rfl, by simpa using .nil⟩, h0⟩ ?_ ?_
  · rintro i h es c ⟨⟨ys, rfl, ha⟩, hI⟩
    obtain ⟨env1, e1, w⟩ := st xs[i] (List.getElem_mem h) c hI
    refine ⟨env1, e1, w.mono (fun z c' hz => ?_) fun _ _ _ z => z⟩
    cases ht : truthD z.2 with
    | none => rw [ht] at hz; exact hz.elim
    | some bb =>
      rw [ht] at hz
      cases bb with
      | false => exact hz.elim
      | true =>
        refine Rs.W.mono hz (fun y c1 hy => ⟨hy.1, ?_, hy.2.2⟩) fun _ _ _ z => z
        obtain ⟨b, eb, pb⟩ := hy.2.1
        refine ⟨ys ++ [b], by simp [eb], ?_⟩
        rw [List.take_succ_eq_append_getElem h]
        exact ha.snoc pb
  · rintro es c ⟨⟨ys, rfl, ha⟩, hI⟩
    exact en ys c (by simpa using ha) hI
end
/-- a comprehension -/
@[simp] theorem w_comp {kk : Nat} {vs : List Nat} {g : GS} {mi : IS} {mc me : ES} {env : List Slot} {cs : Cells} {Q : Vl → Cells → Prop} {E : EK} :
    (sComp kk vs g mi mc me env cs).W Q E ↔ (mi env cs).W (fun ds c => (ds.length ≤ 100000 ∧ noOwn env vs = true) ∧ compW kk g mc me (wipeE env vs) ds c Q) E := by
  unfold sComp compW
  cases mi env cs with
  | ok ds c =>
    show Rs.W (if _ then _ else _) Q E ↔ _ ∧ _
    by_cases h : ds.length ≤ 100000 ∧ noOwn env vs = true
    · rw [if_pos h]
      refine Iff.trans ?_ (and_iff_right h).symm
      cases compGo kk g mc me (wipeE env vs) ds c <;> rfl
    · rw [if_neg h]
      exact ⟨fun z => z.elim, fun z => h z.1⟩
  | exc => rfl
  | bad => rfl
/-! statements -/
section
variable {N B C : List Slot → Cells → Prop} {R : D → Cells → Prop} {E : Str → List (Str × D) → List Slot → Cells → Prop} {env : List Slot} {cs : Cells} {m : ES} {a b : SS}
theorem t_bnd {k : Vl → SS} : (bndS m k env cs).W N B C R E ↔ (m env cs).W (fun x c => (k x env c).W N B C R E) (fun x fs c => E x fs env c) := by
  unfold bndS
  cases m env cs <;> rfl
@[simp] theorem t_nil : (sNil env cs).W N B C R E ↔ N env cs := Iff.rfl
@[simp] theorem t_brk : (sBrk env cs).W N B C R E ↔ B env cs := Iff.rfl
@[simp] theorem t_cnt : (sCnt env cs).W N B C R E ↔ C env cs := Iff.rfl
theorem t_seq : (sSeq a b env cs).W N B C R E ↔ (a env cs).W (fun e c => (b e c).W N B C R E) B C R E := by
  unfold sSeq
  cases a env cs <;> rfl
@[simp] theorem t_if {c : ES} : (sIfS c a b env cs).W N B C R E ↔ (c env cs).W (fun x c' => tstW (truthD x.2) ((a env c').W N B C R E) ((b env c').W N B C R E)) (fun x fs c => E x fs env c) := by
  unfold sIfS
  rw [t_bnd]
  refine iff_of_eq (congrArg (fun q => (c env cs).W q _) (funext fun x => funext fun c => propext ?_))
  unfold tstS
  cases truthD x.2 with
  | none => rfl
  | some v => cases v <;> rfl
@[simp] theorem t_ret : (sRetS m env cs).W N B C R E ↔ (m env cs).W (fun x c => x.1.plain = true ∧ R x.2 c) (fun x fs c => E x fs env c) := by
  unfold sRetS
  rw [t_bnd]
  refine iff_of_eq (congrArg (fun q => (m env cs).W q _) (funext fun x => funext fun c => propext ?_))
  unfold retK
  by_cases h : x.1.plain = true <;> simp [h, Rt.W]
@[simp] theorem t_retN : (sRetN env cs).W N B C R E ↔ R .non cs := Iff.rfl
@[simp] theorem t_set {i : Nat} : (sSet i m env cs).W N B C R E ↔ (m env cs).W (fun x c => (x.1.plain = true ∧ i < env.length) ∧ N (env.set i (.sh x.2)) c) (fun x fs c => E x fs env c) := by
  unfold sSet
  rw [t_bnd]
  refine iff_of_eq (congrArg (fun q => (m env cs).W q _) (funext fun x => funext fun c => propext ?_))
  unfold setK
  by_cases h : x.1.plain = true ∧ i < env.length <;> simp [h, Rt.W]
def frW (t : Tg) (P : Nat → Prop) : Prop := match t with
  | .fr k => P k
  | _ => False
@[simp] theorem frW_f {k : Nat} {P : Nat → Prop} : frW (.fr k) P ↔ P k := Iff.rfl
@[simp] theorem t_own {i : Nat} : (sOwn i m env cs).W N B C R E ↔ (m env cs).W (fun x c => frW x.1 fun k => (i < env.length ∧ atomC c = true) ∧ N (env.set i (.ow k x.2)) c) (fun x fs c => E x fs env c) := by
  unfold sOwn
  rw [t_bnd]
  refine iff_of_eq (congrArg (fun q => (m env cs).W q _) (funext fun x => funext fun c => propext ?_))
  unfold ownK
  cases x.1 with
  | fr k =>
    show Rt.W (if _ then _ else _) .. ↔ (_ ∧ _)
    by_cases h : i < env.length ∧ atomC c = true <;> simp [h, Rt.W]
  | st => rfl
  | tr k => rfl
@[simp] theorem t_pat {g : GS} : (sPat g m env cs).W N B C R E ↔ (m env cs).W (fun x c => x.1.plain = true ∧ optW (g x.2 env) fun e => N e c) (fun x fs c => E x fs env c) := by
  unfold sPat
  rw [t_bnd]
  refine iff_of_eq (congrArg (fun q => (m env cs).W q _) (funext fun x => funext fun c => propext ?_))
  unfold patK
  by_cases h : x.1.plain = true
  · rw [if_pos h]
    cases g x.2 env <;> simp [h, Rt.W, optW]
  · simp [h, Rt.W]
@[simp] theorem t_drop : (sDrop m env cs).W N B C R E ↔ (m env cs).W (fun x c => N env c) (fun x fs c => E x fs env c) := by
  unfold sDrop
  rw [t_bnd]
  exact Iff.rfl
@[simp] theorem t_par {i j : Nat} {ms : AS} : (sPar i j ms env cs).W N B C R E ↔ (ms env cs).W (fun xs c => match xs with
    | [x, y] => (x.1.plain = true ∧ y.1.plain = true ∧ i < env.length ∧ j < env.length) ∧ N ((env.set i (.sh x.2)).set j (.sh y.2)) c
    | _ => False) (fun x fs c => E x fs env c) := by
  unfold sPar
  cases ms env cs with
  | ok xs c =>
    match xs with
    | [] => rfl
    | [_] => rfl
    | _ :: _ :: _ :: _ => rfl
    | [x, y] =>
      show Rt.W (if _ then _ else _) .. ↔ (_ ∧ _)
      by_cases h : x.1.plain = true ∧ y.1.plain = true ∧ i < env.length ∧ j < env.length <;> simp [h, Rt.W]
  | exc => rfl
  | bad => rfl
def frzE (i : Nat) (env : List Slot) : List Slot := match env[i]? with
  | some (.ow k d) => env.set i (.sh d)
  | some (.od d) => env.set i (.sh d)
  | _ => env
@[simp] theorem t_frz {i : Nat} : (sFrz i a env cs).W N B C R E ↔ (a (frzE i env) cs).W N B C R E := by
  unfold sFrz frzE
  cases env[i]? with
  | none => rfl
  | some s => cases s <;> rfl
def appW (s : Option Slot) (P : List D → Prop) : Prop := match s with
  | some (.ow 0 (.lst ds)) => P ds
  | _ => False
theorem appW_congr {s s' : Option Slot} {P : List D → Prop} (h : s = s') : appW s P = appW s' P := by rw [h]
@[simp] theorem appW_o {ds : List D} {P : List D → Prop} : appW (some (.ow 0 (.lst ds))) P ↔ P ds := Iff.rfl
@[simp] theorem t_app {i : Nat} : (sApp i m env cs).W N B C R E ↔ appW env[i]? fun ds => (m env cs).W (fun x c => (x.1.plain = true ∧ ds.length < 100000) ∧ N (env.set i (.ow 0 (.lst (ds ++ [x.2])))) c) (fun x fs c => E x fs env c) := by
  have key : ∀ ds : List D, (bndS m (appK i ds) env cs).W N B C R E ↔ (m env cs).W (fun x c => (x.1.plain = true ∧ ds.length < 100000) ∧ N (env.set i (.ow 0 (.lst (ds ++ [x.2])))) c) (fun x fs c => E x fs env c) := fun ds => by
    rw [t_bnd]
    refine iff_of_eq (congrArg (fun q => (m env cs).W q _) (funext fun x => funext fun c => propext ?_))
    unfold appK
    by_cases h : x.1.plain = true ∧ ds.length < 100000 <;> simp [h, Rt.W]
  unfold sApp
  cases env[i]? with
  | none => rfl
  | some s =>
    cases s with
    | ow k d =>
      cases k with
      | succ k => rfl
      | zero => cases d <;> first | rfl | exact key _
    | _ => rfl
/-- a store at an index -/
def stoW (i : Nat) (s : Option Slot) (env : List Slot) (c : Cells) (k : D) (x : D) (P : List Slot → Cells → Prop) : Prop := match s, k with
  | some (.ow 0 (.lst ds)), .int k => optW (ixN ds.length k) fun j => P (env.set i (.ow 0 (.lst (ds.set j x)))) c
  | some (.sh (.cell n)), .int k => optW c[n]? fun ds => optW (ixN ds.length k) fun j => P env (c.set n (ds.set j x))
  | _, _ => False
@[simp] theorem stoW_o {i : Nat} {ds : List D} {env : List Slot} {c : Cells} {k : Int} {x : D} {P : List Slot → Cells → Prop} : stoW i (some (.ow 0 (.lst ds))) env c (.int k) x P ↔ optW (ixN ds.length k) fun j => P (env.set i (.ow 0 (.lst (ds.set j x)))) c := Iff.rfl
@[simp] theorem stoW_c {i n : Nat} {env : List Slot} {c : Cells} {k : Int} {x : D} {P : List Slot → Cells → Prop} : stoW i (some (.sh (.cell n))) env c (.int k) x P ↔ optW c[n]? fun ds => optW (ixN ds.length k) fun j => P env (c.set n (ds.set j x)) := Iff.rfl
@[simp] theorem t_sto {i : Nat} {mi : ES} : (sSto i mi m env cs).W N B C R E ↔ held i env = true ∧ (m env cs).W (fun x c => (mi env c).W (fun y c' => x.1.plain = true ∧ stoW i env[i]? env c' y.2 x.2 N) (fun x fs c => E x fs env c)) (fun x fs c => E x fs env c) := by
  unfold sSto
  by_cases hh : held i env = true
  case neg => simp [hh, Rt.W]
  rw [if_pos hh, t_bnd]
  refine Iff.trans ?_ (and_iff_right hh).symm
  refine iff_of_eq (congrArg (fun q => (m env cs).W q _) (funext fun x => funext fun c => propext (t_bnd.trans ?_)))
  refine iff_of_eq (congrArg (fun q => (mi env c).W q _) (funext fun y => funext fun c' => propext ?_))
  unfold stoK stoW
  obtain ⟨ty, dy⟩ := y
  cases env[i]? with
  | none => cases dy <;> exact ⟨fun z => z.elim, fun z => z.2.elim⟩
  | some s =>
    cases s with
    | emp => cases dy <;> exact ⟨fun z => z.elim, fun z => z.2.elim⟩
    | od d' => cases dy <;> exact ⟨fun z => z.elim, fun z => z.2.elim⟩
    | ow k' d' =>
      cases k' with
      | succ k' => cases dy <;> exact ⟨fun z => z.elim, fun z => z.2.elim⟩
      | zero =>
        cases d' <;> try (cases dy <;> exact ⟨fun z => z.elim, fun z => z.2.elim⟩)
        rename_i ds
        cases dy <;> try exact ⟨fun z => z.elim, fun z => z.2.elim⟩
        rename_i k
        show Rt.W (match ixN ds.length k with | some j => _ | none => _) .. ↔ _ ∧ optW (ixN ds.length k) _
        cases hix : ixN ds.length k with
        | none => simp [Rt.W, optW]
        | some j => by_cases h : x.1.plain = true <;> simp [Rt.W, optW, h]
    | sh d' =>
      cases d' <;> try (cases dy <;> exact ⟨fun z => z.elim, fun z => z.2.elim⟩)
      rename_i n
      cases dy <;> try exact ⟨fun z => z.elim, fun z => z.2.elim⟩
      rename_i k
      show Rt.W (match c'[n]? with | some ds => _ | none => _) .. ↔ _ ∧ optW c'[n]? _
      cases hc : c'[n]? with
      | none => simp [Rt.W, optW]
      | some ds =>
        cases hix : ixN ds.length k with
        | none => simp [Rt.W, optW, hix]
        | some j => by_cases h : x.1.plain = true <;> simp [Rt.W, optW, h, hix]
def sto2W (i : Nat) (s : Option Slot) (env : List Slot) (c : Cells) (k l x : D) (P : List Slot → Cells → Prop) : Prop := match s, k, l with
  | some (.ow 1 (.lst ds)), .int k, .int l => optW (ixN ds.length k) fun j => match ds[j]? with
    | some (.lst es) => optW (ixN es.length l) fun n => P (env.set i (.ow 1 (.lst (ds.set j (.lst (es.set n x)))))) c
    | _ => False
  | _, _, _ => False
def own1W (s : Option Slot) (P : List D → Prop) : Prop := match s with
  | some (.ow 1 (.lst ds)) => P ds
  | _ => False
@[simp] theorem own1W_o {ds : List D} {P : List D → Prop} : own1W (some (.ow 1 (.lst ds))) P ↔ P ds := Iff.rfl
@[simp] theorem t_sto2 {i : Nat} {mi mj : ES} : (sSto2 i mi mj m env cs).W N B C R E ↔ own1W env[i]? fun ds => (m env cs).W (fun x c => (mi env c).W (fun y c1 => (match y.2 with | .int k => (atI ds k).isSome | _ => false) = true ∧ (mj env c1).W (fun z c2 => x.1.plain = true ∧ sto2W i env[i]? env c2 y.2 z.2 x.2 N) (fun x fs c => E x fs env c)) (fun x fs c => E x fs env c)) (fun x fs c => E x fs env c) := by
  have key : ∀ ds : List D, (bndS m (fun x => bndS mi fun y => if (match y.2 with | .int k => (atI ds k).isSome | _ => false) = true then bndS mj fun z => sto2K i x y z else fun _ _ => .bad) env cs).W N B C R E ↔ (m env cs).W (fun x c => (mi env c).W (fun y c1 => (match y.2 with | .int k => (atI ds k).isSome | _ => false) = true ∧ (mj env c1).W (fun z c2 => x.1.plain = true ∧ sto2W i env[i]? env c2 y.2 z.2 x.2 N) (fun x fs c => E x fs env c)) (fun x fs c => E x fs env c)) (fun x fs c => E x fs env c) := fun ds => by
    rw [t_bnd]
    refine iff_of_eq (congrArg (fun q => (m env cs).W q _) (funext fun x => funext fun c => propext (t_bnd.trans ?_)))
    refine iff_of_eq (congrArg (fun q => (mi env c).W q _) (funext fun y => funext fun c1 => propext ?_))
    by_cases hh : (match y.2 with | .int k => (atI ds k).isSome | _ => false) = true
    case neg =>
      rw [if_neg hh]
      exact ⟨fun z => z.elim, fun z => hh z.1⟩
    rw [if_pos hh, t_bnd]
    refine Iff.trans ?_ (and_iff_right hh).symm
    refine iff_of_eq (congrArg (fun q => (mj env c1).W q _) (funext fun z => funext fun c2 => propext ?_))
    unfold sto2K sto2W
    obtain ⟨ty, dy⟩ := y
    obtain ⟨tz, dz⟩ := z
    cases env[i]? with
    | none => exact ⟨fun z => z.elim, fun z => z.2.elim⟩
    | some s =>
      cases s with
      | emp => exact ⟨fun z => z.elim, fun z => z.2.elim⟩
      | od d' => exact ⟨fun z => z.elim, fun z => z.2.elim⟩
      | sh d' => exact ⟨fun z => z.elim, fun z => z.2.elim⟩
      | ow k' d' =>
        match k' with
        | 0 => exact ⟨fun z => z.elim, fun z => z.2.elim⟩
        | k' + 2 => exact ⟨fun z => z.elim, fun z => z.2.elim⟩
        | 1 =>
          cases d' <;> try exact ⟨fun z => z.elim, fun z => z.2.elim⟩
          rename_i ds
          cases dy <;> try exact ⟨fun z => z.elim, fun z => z.2.elim⟩
          rename_i k
          cases dz <;> try exact ⟨fun z => z.elim, fun z => z.2.elim⟩
          rename_i l
          show Rt.W (match ixN ds.length k with | some j => _ | none => _) .. ↔ _ ∧ optW (ixN ds.length k) _
          cases hix : ixN ds.length k with
          | none => simp [Rt.W, optW]
          | some j =>
            simp only [optW]
            cases hj : ds[j]? with
            | none => simp [Rt.W]
            | some q =>
              cases q with
              | lst es =>
                cases hl : ixN es.length l with
                | none => simp [Rt.W, optW, hl]
                | some n => by_cases h : x.1.plain = true <;> simp [Rt.W, optW, h, hl]
              | _ => simp [Rt.W]
  unfold sSto2
  revert key
  generalize env[i]? = s0
  intro key
  cases s0 with
  | none => rfl
  | some s =>
    cases s with
    | ow k d =>
      match k with
      | 0 => rfl
      | k + 2 => rfl
      | 1 => cases d <;> first | rfl | exact key _
    | _ => rfl
@[simp] theorem t_pop {i : Nat} : (sPop i env cs).W N B C R E ↔ appW env[i]? fun ds => ds ≠ [] ∧ N (env.set i (.ow 0 (.lst ds.dropLast))) cs := by
  unfold sPop
  cases env[i]? with
  | none => rfl
  | some s =>
    cases s with
    | ow k d =>
      cases k with
      | succ k => rfl
      | zero =>
        cases d <;> try rfl
        rename_i ds
        show Rt.W (if _ then _ else _) .. ↔ (_ ∧ _)
        by_cases h : ds = [] <;> simp [h, Rt.W]
    | _ => rfl
@[simp] theorem t_rais {x f : Str} {ms : AS} : (sRais x f ms env cs).W N B C R E ↔ (ms env cs).W (fun ys c => match ys with
    | [y] => y.1.plain = true ∧ E x [(f, y.2)] env c
    | _ => False) (fun x fs c => E x fs env c) := by
  unfold sRais
  cases ms env cs with
  | ok ys c =>
    match ys with
    | [] => rfl
    | _ :: _ :: _ => rfl
    | [y] =>
      show Rt.W (if _ then _ else _) .. ↔ (_ ∧ _)
      by_cases h : y.1.plain = true <;> simp [h, Rt.W]
  | exc => rfl
  | bad => rfl
@[simp] theorem t_try {x f : Str} {i : Nat} {tag : Option Str} : (sTry x f i tag a env cs).W N B C R E ↔ (a env cs).W N B C R (fun y fs e c => if y = x ∧ i < e.length then optW (fs.lookup f) fun d => R (match tag with | some t => .tup [.str t, d] | none => d) c else False) := by
  unfold sTry
  cases a env cs with
  | exc y fs e c =>
    show Rt.W (if _ then _ else _) .. ↔ (if _ then _ else _)
    by_cases h : y = x ∧ i < e.length
    · rw [if_pos h, if_pos h]
      cases fs.lookup f <;> rfl
    · rw [if_neg h, if_neg h]; rfl
  | _ => rfl
/-- a loop, by an invariant -/
theorem forGo_rule {g : GS} {mb : SS} (J : Nat → List Slot → Cells → Prop) : ∀ (ds : List D) (n : Nat) (env : List Slot) (cs : Cells), J n env cs →
    (∀ i (h : i < ds.length) env cs, J (n + i) env cs → ∃ env1, g ds[i] env = some env1 ∧ (mb env1 cs).W (J (n + i + 1)) N (J (n + i + 1)) R E) →
    (∀ env cs, J (n + ds.length) env cs → N env cs) → (forGo g mb ds env cs).W N B C R E := by
  intro ds
  induction ds with
  | nil => intro n env cs h _ e; exact e env cs (by simpa using h)
  | cons d ds ih =>
    intro n env cs h st e
    obtain ⟨env1, e1, w⟩ := st 0 (by simp) env cs h
    unfold forGo
    rw [show g d env = some env1 from e1]
    simp only
    have st' : ∀ i (h : i < ds.length) env cs, J (n + 1 + i) env cs → ∃ env1, g ds[i] env = some env1 ∧ (mb env1 cs).W (J (n + 1 + i + 1)) N (J (n + 1 + i + 1)) R E := fun i hi env cs hJ => by
      have := st (i + 1) (by simpa using hi) env cs (by rw [show n + (i + 1) = n + 1 + i by omega]; exact hJ)
      rw [show n + (i + 1) = n + 1 + i by omega] at this
      exact this
    have e' : ∀ env cs, J (n + 1 + ds.length) env cs → N env cs := fun env cs hJ => e env cs (by rw [List.length_cons, show n + (ds.length + 1) = n + 1 + ds.length by omega]; exact hJ)
    cases e2 : mb env1 cs with
    | nx env2 c => rw [e2] at w; exact ih _ _ _ w st' e'
    | cnt env2 c => rw [e2] at w; exact ih _ _ _ w st' e'
    | brk env2 c => rw [e2] at w; exact w
    | ret d c => rw [e2] at w; exact w
    | exc x fs e c => rw [e2] at w; exact w
    | bad => rw [e2] at w; exact w
theorem for_lst {α : Type} {f : α → D} {xs : List α} {g : GS} {mb : SS} (J : Nat → List Slot → Cells → Prop) (h0 : J 0 env cs)
    (st : ∀ i (h : i < xs.length) env cs, J i env cs → ∃ env1, g (f xs[i]) env = some env1 ∧ (mb env1 cs).W (J (i + 1)) N (J (i + 1)) R E)
    (en : ∀ env cs, J xs.length env cs → N env cs) : (forGo g mb (xs.map f) env cs).W N B C R E := by
  refine forGo_rule J (xs.map f) 0 env cs h0 (fun i h env cs hJ => ?_) fun env cs hJ => en env cs (by simpa using hJ)
  have := st i (by simpa using h) env cs (by simpa using hJ)
  simpa using this
@[simp] theorem t_for {g : GS} {mi : IS} {mb : SS} : (sFor g mi mb env cs).W N B C R E ↔ (mi env cs).W (fun ds c => (forGo g mb ds env c).W N B C R E) (fun x fs c => E x fs env c) := by
  unfold sFor
  cases mi env cs <;> rfl
end
section
variable {T : Tab} {con : Str → Option D} {rf : Str → Option Str} {k : Nat} {f : Str} {d : Def} {ds : List D} {cs : Cells} {Q : D → Cells → Prop} {E : EK}
theorem w_run {b : SS} {N : List Str} : (runB b N ds cs).W Q E ↔ (b (startE N ds) cs).W (fun _ c => Q .non c) (fun _ _ => False) (fun _ _ => False) Q (fun x fs _ c => E x fs c) := by
  unfold runB
  cases b (startE N ds) cs <;> rfl
theorem w_callK (h : T f = some d) : (callK T con rf (k + 1) f ds cs).W Q E ↔ (evSs (callK T con rf k) con rf d.body (startE d.N ds) cs).W (fun _ c => Q .non c) (fun _ _ => False) (fun _ _ => False) Q (fun x fs _ c => E x fs c) := by
  rw [← w_run]
  show Rs.W (match T f with | some d => _ | none => _) Q E ↔ _
  rw [h]
end
section
variable {call : Str → List D → Cells → Rs D} {con : Str → Option D} {rf : Str → Option Str} {N B C : List Slot → Cells → Prop} {R : D → Cells → Prop} {E : Str → List (Str × D) → List Slot → Cells → Prop} {x : Slot} {env : List Slot} {cs : Cells}
@[simp] theorem x_nil : (evSs call con rf .nil env cs).W N B C R E ↔ N env cs := by simp only [evSs, t_nil]
/-- one statement, then the rest; where the slots are known -/
@[simp] theorem x_cons {s : MS} {l : MSs} : (evSs call con rf (.cons s l) (x :: env) cs).W N B C R E ↔ (evS call con rf s (x :: env) cs).W (fun e c => (evSs call con rf l e c).W N B C R E) B C R E := by
  simp only [evSs]
  exact t_seq
@[simp] theorem x_cons0 {s : MS} {l : MSs} : (evSs call con rf (.cons s l) [] cs).W N B C R E ↔ (evS call con rf s [] cs).W (fun e c => (evSs call con rf l e c).W N B C R E) B C R E := by
  simp only [evSs]
  exact t_seq
end
end Pc

set_option Elab.async false
set_option maxRecDepth 100000
set_option maxHeartbeats 4000000
/-! Pc21: the same as simp rules, and the operators at known kinds. -/
namespace Pc
open PySem PySem.Spec PyProof.Rows L2
open PyData (strOk)
section
variable {Q : Vl → Cells → Prop} {E : EK} {env : List Slot} {cs : Cells} {m a b : ES} {t t' : Tg} {i j : Int} {x y : Str} {xs ys : List D}
variable {call : Str → List D → Cells → Rs D} {con : Str → Option D} {rf : Str → Option Str}
/-! the words -/
@[simp] theorem e_var {n : Nat} : evE call con (.var n) = sVar n := by simp only [evE]
@[simp] theorem e_ci : evE call con (.ci i) = sRet (.int i) := by simp only [evE]
@[simp] theorem e_cb {b : Bool} : evE call con (.cb b) = sRet (.bl b) := by simp only [evE]
@[simp] theorem e_cn : evE call con .cn = sRet .non := by simp only [evE]
@[simp] theorem e_cs : evE call con (.cs x) = sRet (.str x) := by simp only [evE]
@[simp] theorem e_ty {n : String} : evE call con (.ty n) = sRet (.ty n) := by simp only [evE]
@[simp] theorem e_bin {op : Operator} {p q : ME} : evE call con (.bin op p q) = sOp (binD op) (evE call con p) (evE call con q) := by simp only [evE]
@[simp] theorem e_cmp {op : CmpOp} {p q : ME} : evE call con (.cmp op p q) = sOp (cmpD op) (evE call con p) (evE call con q) := by simp only [evE]
@[simp] theorem e_chain {o o' : CmpOp} {p q r : ME} : evE call con (.chain o o' p q r) = sChain (cmpD o) (cmpD o') (evE call con p) (evE call con q) (evE call con r) := by simp only [evE]
@[simp] theorem e_neg {p : ME} : evE call con (.neg p) = sUn negD (evE call con p) := by simp only [evE]
@[simp] theorem e_not {p : ME} : evE call con (.not p) = sUn notD (evE call con p) := by simp only [evE]; rfl
@[simp] theorem e_bo {op : BoolOp} {l : MEs} : evE call con (.bo op l) = evB call con op l := by simp only [evE]
@[simp] theorem e_b1 {op : BoolOp} {p : ME} : evB call con op (.cons p .nil) = evE call con p := by simp only [evB]
@[simp] theorem e_bA {p q : ME} {l : MEs} : evB call con .And (.cons p (.cons q l)) = sAnd (evE call con p) (evB call con .And (.cons q l)) := by simp only [evB]
@[simp] theorem e_bO {p q : ME} {l : MEs} : evB call con .Or (.cons p (.cons q l)) = sOr (evE call con p) (evB call con .Or (.cons q l)) := by simp only [evB]
@[simp] theorem e_ite {p q r : ME} : evE call con (.ite p q r) = sIf (evE call con p) (evE call con q) (evE call con r) := by simp only [evE]
@[simp] theorem e_tup {l : MEs} : evE call con (.tup l) = appA (evA call con l) tupF := by simp only [evE]
@[simp] theorem e_lst {l : MEs} : evE call con (.lst l) = appA (evA call con l) lstF := by simp only [evE]
@[simp] theorem e_sub {p q : ME} : evE call con (.sub p q) = sSub (evE call con p) (evE call con q) := by simp only [evE]
@[simp] theorem e_slice {p : ME} {lo hi : MO} : evE call con (.slice p lo hi) = sSlice (evE call con p) (evO call con lo) (evO call con hi) := by simp only [evE]
@[simp] theorem e_call {f : Str} {l : MEs} : evE call con (.call f l) = sCall l.len (call f) (evA call con l) := by simp only [evE]
@[simp] theorem e_callv {n : Nat} {fs : List Str} {l : MEs} : evE call con (.callv n fs l) = sCallv l.len n fs call (evA call con l) := by simp only [evE]
@[simp] theorem e_callk {f : Str} {l : MEs} : evE call con (.callk f l) = sCall l.len (call f) (evA call con l) := by simp only [evE]
@[simp] theorem e_imp {f : IM} {l : MEs} : evE call con (.imp f l) = appA (evA call con l) f.fn := by simp only [evE]
@[simp] theorem e_bf {f : BF} {l : MEs} : evE call con (.bf f l) = appA (evA call con l) f.fn := by simp only [evE]
@[simp] theorem e_comp {kk : Nat} {g : MT} {it : MI} {c : MO} {e : ME} : evE call con (.comp kk g it c e) = sComp kk g.slots g.gs (evI call con it) (evC call con c) (evE call con e) := by simp only [evE]
@[simp] theorem e_aN : evA call con .nil = aNil := by simp only [evA]
@[simp] theorem e_aC {p : ME} {l : MEs} : evA call con (.cons p l) = aCons (evE call con p) (evA call con l) := by simp only [evA]
@[simp] theorem e_oN : evO call con .none = oNone := by simp only [evO]
@[simp] theorem e_oS {p : ME} : evO call con (.some p) = oSome (evE call con p) := by simp only [evO]
@[simp] theorem e_cN : evC call con .none = sRet (.bl true) := by simp only [evC]
@[simp] theorem e_cS {p : ME} : evC call con (.some p) = evE call con p := by simp only [evC]
@[simp] theorem e_iS {p : ME} : evI call con (.seq p) = iSeq (evE call con p) := by simp only [evI]
@[simp] theorem e_iR {l : MEs} : evI call con (.rng l) = iApp (evA call con l) rngF := by simp only [evI]
@[simp] theorem e_iR2 {l : MEs} : evI call con (.rng2 l) = iApp (evA call con l) rngF2 := by simp only [evI]
@[simp] theorem e_iZ {l : MEs} : evI call con (.zip l) = iApp (evA call con l) zipF := by simp only [evI]
@[simp] theorem s_ret' {p : ME} : evS call con rf (.ret p) = sRetS (evE call con p) := by simp only [evS]
@[simp] theorem s_retN' : evS call con rf .retN = sRetN := by simp only [evS]
@[simp] theorem s_set' {n : Nat} {p : ME} : evS call con rf (.set n p) = sSet n (evE call con p) := by simp only [evS]
@[simp] theorem s_own' {n : Nat} {p : ME} : evS call con rf (.own n p) = sOwn n (evE call con p) := by simp only [evS]
@[simp] theorem s_pat' {g : MT} {p : ME} : evS call con rf (.pat g p) = sPat g.gs (evE call con p) := by simp only [evS]
@[simp] theorem s_par' {n k : Nat} {l : MEs} : evS call con rf (.par n k l) = sPar n k (evA call con l) := by simp only [evS]
@[simp] theorem s_app' {n : Nat} {p : ME} : evS call con rf (.app n p) = sApp n (evE call con p) := by simp only [evS]
@[simp] theorem s_sto' {n : Nat} {p q : ME} : evS call con rf (.sto n p q) = sSto n (evE call con p) (evE call con q) := by simp only [evS]
@[simp] theorem s_sto2' {n : Nat} {p q r : ME} : evS call con rf (.sto2 n p q r) = sSto2 n (evE call con p) (evE call con q) (evE call con r) := by simp only [evS]
@[simp] theorem s_drop' {p : ME} : evS call con rf (.drop p) = sDrop (evE call con p) := by simp only [evS]
@[simp] theorem s_pass' : evS call con rf .pass = sNil := by simp only [evS]
@[simp] theorem s_brk' : evS call con rf .brk = sBrk := by simp only [evS]
@[simp] theorem s_cnt' : evS call con rf .cnt = sCnt := by simp only [evS]
@[simp] theorem s_ite' {c : ME} {p q : MSs} : evS call con rf (.ite c p q) = sIfS (evE call con c) (evSs call con rf p) (evSs call con rf q) := by simp only [evS]
@[simp] theorem s_loop' {g : MT} {it : MI} {p : MSs} : evS call con rf (.loop g it p) = sFor g.gs (evI call con it) (evSs call con rf p) := by simp only [evS]
@[simp] theorem s_frz' {n : Nat} {s : MS} : evS call con rf (.frz n s) = sFrz n (evS call con rf s) := by simp only [evS]
@[simp] theorem s_pop' {n : Nat} : evS call con rf (.pop n) = sPop n := by simp only [evS]
@[simp] theorem s_rais' {l : MEs} {f : Str} (h : rf x = some f) : evS call con rf (.rais x l) = sRais x f (evA call con l) := by simp only [evS, h]
@[simp] theorem s_try' {b : MSs} {n : Nat} {tag : Option Str} {f : Str} (h : rf x = some f) : evS call con rf (.tryx b x n tag) = sTry x f n tag (evSs call con rf b) := by simp only [evS, h]
@[simp] theorem me_len0 : MEs.nil.len = 0 := rfl
@[simp] theorem me_len1 {p : ME} {l : MEs} : (MEs.cons p l).len = l.len + 1 := rfl
@[simp] theorem mt_n {n : Nat} : (MT.n n).gs = gN n := rfl
@[simp] theorem mt_t {ns : List Nat} : (MT.t ns).gs = gT ns := rfl
@[simp] theorem mt_ns {n : Nat} : (MT.n n).slots = [n] := rfl
@[simp] theorem mt_ts {ns : List Nat} : (MT.t ns).slots = ns := rfl
/-! the rules -/
@[simp] theorem pl_st : Tg.st.plain = true := id rfl
@[simp] theorem pl_fr {k : Nat} : (Tg.fr k).plain = true := id rfl
@[simp] theorem pl_tr {k : Nat} : (Tg.tr k).plain = false := rfl
@[simp] theorem fl_st : Tg.st.flat = true := rfl
@[simp] theorem fl_fr {k : Nat} : (Tg.fr k).flat = true := rfl
@[simp] theorem fl_tr0 : (Tg.tr 0).flat = true := rfl
@[simp] theorem dn_st : Tg.st.down = .st := rfl
@[simp] theorem dn_fr {k : Nat} : (Tg.fr k).down = .st := rfl
@[simp] theorem dn_tr0 : (Tg.tr 0).down = .st := rfl
@[simp] theorem dn_tr1 {k : Nat} : (Tg.tr (k + 1)).down = .tr k := rfl
@[simp] theorem tr_n : truthD .non = some false := rfl
@[simp] theorem tr_b {b : Bool} : truthD (.bl b) = some b := rfl
@[simp] theorem tr_i : truthD (.int i) = some (i != 0) := rfl
@[simp] theorem tr_t : truthD (.tup xs) = some (!xs.isEmpty) := rfl
@[simp] theorem tr_l : truthD (.lst xs) = some (!xs.isEmpty) := rfl
@[simp] theorem bf_len : BF.fn .len = lenF := rfl
@[simp] theorem bf_int : BF.fn .int = intF := rfl
@[simp] theorem bf_abs : BF.fn .abs = absF := rfl
@[simp] theorem bf_max : BF.fn .max = maxF := rfl
@[simp] theorem bf_min : BF.fn .min = minF := rfl
@[simp] theorem bf_sum : BF.fn .sum = sumF := rfl
@[simp] theorem bf_sorted : BF.fn .sorted = sortF := rfl
@[simp] theorem bf_tuple : BF.fn .tuple = tupleF := rfl
@[simp] theorem bf_list : BF.fn .list = listF := rfl
@[simp] theorem bf_all : BF.fn .all = allF := rfl
@[simp] theorem bf_any : BF.fn .any = anyF := rfl
@[simp] theorem bf_isi : BF.fn .isinstance = isiF := rfl
@[simp] theorem st_0 {N : List Str} {ds : List D} : startE N ds = ds.map .sh ++ List.replicate (N.length - ds.length) .emp := rfl
@[simp] theorem wi_0 : wipeE env [] = env := rfl
@[simp] theorem wi_1 {v : Nat} {vs : List Nat} : wipeE env (v :: vs) = (wipeE env vs).set v .emp := rfl
def ownAt (s : Option Slot) : Bool := match s with
  | some s => !s.isOw
  | none => true
@[simp] theorem oa_n : ownAt none = true := rfl
@[simp] theorem oa_s {d : D} : ownAt (some (.sh d)) = true := rfl
@[simp] theorem oa_e : ownAt (some .emp) = true := rfl
@[simp] theorem no_0 : noOwn env [] = true := rfl
@[simp] theorem no_1 {v : Nat} {vs : List Nat} : noOwn env (v :: vs) = (ownAt env[v]? && noOwn env vs) := rfl
def heldAt (s : Option Slot) : Bool := match s with
  | some (.sh _) => true
  | some (.ow _ _) => true
  | _ => false
@[simp] theorem he_s {d : D} : heldAt (some (.sh d)) = true := rfl
@[simp] theorem he_o {k : Nat} {d : D} : heldAt (some (.ow k d)) = true := rfl
@[simp] theorem he_ {v : Nat} : held v env = heldAt env[v]? := rfl
def frzAt (i : Nat) (env : List Slot) : Option Slot → List Slot
  | some (.ow k d) => env.set i (.sh d)
  | some (.od d) => env.set i (.sh d)
  | _ => env
@[simp] theorem fz_d {i : Nat} {d : D} : frzAt i env (some (.od d)) = env.set i (.sh d) := rfl
@[simp] theorem fz_s {i : Nat} {d : D} : frzAt i env (some (.sh d)) = env := rfl
@[simp] theorem fz_o {i k : Nat} {d : D} : frzAt i env (some (.ow k d)) = env.set i (.sh d) := rfl
@[simp] theorem fz_e {i : Nat} : frzAt i env (some .emp) = env := rfl
@[simp] theorem fz_ {i : Nat} : frzE i env = frzAt i env env[i]? := rfl
@[simp] theorem gN_1 {i : Nat} {d : D} : gN i d env = if i < env.length then some (env.set i (.sh d)) else none := rfl
theorem gT_2 {i j : Nat} {d e : D} (hi : i < env.length) (hj : j < env.length) : gT [i, j] (.tup [d, e]) env = some ((env.set i (.sh d)).set j (.sh e)) := by
  simp [gT, gN, hi, hj]
@[simp] theorem okt0 {t : Tg} : okTag 0 t = t.plain := rfl
@[simp] theorem okt1 {k j : Nat} : okTag (k + 1) (.fr j) = decide (j = k) := rfl
/-! operators -/
@[simp] theorem d_Add : binD .Add = addD := rfl
@[simp] theorem d_Sub : binD .Sub = subD := rfl
@[simp] theorem d_Mult : binD .Mult = mulD := rfl
@[simp] theorem d_Div : binD .FloorDiv = divD := rfl
@[simp] theorem d_Mod : binD .Mod = modD := rfl
@[simp] theorem d_Pow : binD .Pow = powD := rfl
@[simp] theorem d_Eq : cmpD .Eq = eqD := rfl
@[simp] theorem d_Ne : cmpD .NotEq = neD := rfl
@[simp] theorem d_Lt : cmpD .Lt = intCmp fun i j => decide (i < j) := rfl
@[simp] theorem d_LtE : cmpD .LtE = intCmp fun i j => decide (i ≤ j) := rfl
@[simp] theorem d_Gt : cmpD .Gt = intCmp fun i j => decide (j < i) := rfl
@[simp] theorem d_GtE : cmpD .GtE = intCmp fun i j => decide (j ≤ i) := rfl
@[simp] theorem d_In : cmpD .In = inD := rfl
@[simp] theorem d_NotIn : cmpD .NotIn = notInD := rfl
@[simp] theorem d_Is : cmpD .Is = isD := rfl
@[simp] theorem d_IsNot : cmpD .IsNot = isNotD := rfl
@[simp] theorem add_i : addD (t, .int i) (t', .int j) = some (.st, .int (i + j)) := rfl
@[simp] theorem add_t : addD (t, .tup xs) (t', .tup ys) = if xs.length + ys.length ≤ 100000 then some (.st, .tup (xs ++ ys)) else none := rfl
@[simp] theorem add_l : addD (t, .lst xs) (t', .lst ys) = if t.flat = true ∧ t'.flat = true ∧ xs.length + ys.length ≤ 100000 then some (.fr 0, .lst (xs ++ ys)) else none := rfl
@[simp] theorem sub_i : subD (t, .int i) (t', .int j) = some (.st, .int (i - j)) := rfl
@[simp] theorem mul_i : mulD (t, .int i) (t', .int j) = if mulOk i j = true then some (.st, .int (i * j)) else none := rfl
@[simp] theorem div_i : divD (t, .int i) (t', .int j) = if 0 < j ∧ j.natAbs.log2 < 9000 then some (.st, .int (i / j)) else none := rfl
@[simp] theorem mod_i : modD (t, .int i) (t', .int j) = if 0 < j then some (.st, .int (i % j)) else none := rfl
@[simp] theorem pow_i : powD (t, .int i) (t', .int j) = if 0 ≤ j ∧ j ≤ 1000000 ∧ i.natAbs < 2 ^ 64 then some (.st, .int (i ^ j.toNat)) else none := rfl
@[simp] theorem neg_i : negD (t, .int i) = some (.st, .int (-i)) := rfl
@[simp] theorem not_d {d : D} : notD (t, d) = (truthD d).map fun b => (.st, .bl !b) := rfl
@[simp] theorem icmp_i {f : Int → Int → Bool} : intCmp f (t, .int i) (t', .int j) = some (.st, .bl (f i j)) := rfl
@[simp] theorem ok_i : (D.int i).ok = true := by simp [D.ok, D.isData, D.py, SeqAt.shaped, PyData.canLay0, PyData.depth]
@[simp] theorem ok_b {b : Bool} : (D.bl b).ok = true := by simp [D.ok, D.isData, D.py, SeqAt.shaped, PyData.canLay0, PyData.depth]
@[simp] theorem ok_n : D.non.ok = true := by simp [D.ok, D.isData, D.py, SeqAt.shaped, PyData.canLay0, PyData.depth]
@[simp] theorem ok_s : (D.str x).ok = strOk x := by simp [D.ok, D.isData, D.py, SeqAt.shaped, PyData.canLay0, PyData.depth]
@[simp] theorem eq_i : eqD (Tg.st, .int i) (Tg.st, .int j) = some (.st, .bl (decide (i = j))) := by
  simp [eqD, D.eqv, D.py, PyData.eqv]; all_goals rfl
@[simp] theorem ne_i : neD (Tg.st, .int i) (Tg.st, .int j) = some (.st, .bl (!decide (i = j))) := by
  simp [neD, D.eqv, D.py, PyData.eqv]; all_goals rfl
@[simp] theorem eq_b {p q : Bool} : eqD (Tg.st, .bl p) (Tg.st, .bl q) = some (.st, .bl (decide (p = q))) := by
  simp [eqD, D.eqv, D.py, PyData.eqv]; all_goals rfl
@[simp] theorem eq_s (o : strOk x = true) (o' : strOk y = true) : eqD (Tg.st, .str x) (Tg.st, .str y) = some (.st, .bl (x == y)) := by
  simp [eqD, D.eqv, D.py, PyData.eqv, o, o']
@[simp] theorem is_n {d : D} : isD (t, d) (t', .non) = some (.st, .bl d.isNon) := by cases d <;> rfl
@[simp] theorem isn_n {d : D} : isNotD (t, d) (t', .non) = some (.st, .bl (!d.isNon)) := by cases d <;> rfl
@[simp] theorem tupF_ {l : List Vl} : tupF l = if plAll l = true ∧ l.length ≤ 100000 then some (.st, .tup (l.map (·.2))) else none := by rw [← plAll_eq]; rfl
@[simp] theorem lstF_ {l : List Vl} : lstF l = if plAll l = true ∧ l.length ≤ 100000 then some (.fr 0, .lst (l.map (·.2))) else none := by rw [← plAll_eq]; rfl
@[simp] theorem sub_t : subF cs (t, .tup xs) (t', .int i) = (atI xs i).map fun d => (.st, d) := rfl
@[simp] theorem sub_l : subF cs (t, .lst xs) (t', .int i) = (atI xs i).map fun d => (t.down, d) := rfl
@[simp] theorem sub_f : subF cs (t, .frz xs) (t', .int i) = (atI xs i).map fun d => (.st, d) := rfl
@[simp] theorem sub_c {n : Nat} : subF cs (t, .cell n) (t', .int i) = cs[n]?.bind fun ds => (atI ds i).map fun d => (.st, d) := by
  show (match cs[n]? with | some ds => _ | none => none) = _
  cases cs[n]? <;> rfl
@[simp] theorem len_t : lenF [(t, .tup xs)] = some (.st, .int xs.length) := rfl
@[simp] theorem len_l : lenF [(t, .lst xs)] = some (.st, .int xs.length) := rfl
@[simp] theorem len_f : lenF [(t, .frz xs)] = some (.st, .int xs.length) := rfl
@[simp] theorem len_s : lenF [(t, .str x)] = some (.st, .int x.length) := rfl
@[simp] theorem int_i : intF [(t, .int i)] = some (.st, .int i) := rfl
@[simp] theorem max_i : maxF [(t, .int i), (t', .int j)] = some (.st, .int (max i j)) := by
  show some (Tg.st, D.int (if j > i then j else i)) = _
  congr 3
  split <;> omega
@[simp] theorem min_i : minF [(t, .int i), (t', .int j)] = some (.st, .int (min i j)) := by
  show some (Tg.st, D.int (if j < i then j else i)) = _
  congr 3
  split <;> omega
@[simp] theorem sum_l : sumF [(t, .lst xs)] = (intsOf xs).map fun ns => (.st, .int ns.sum) := rfl
@[simp] theorem sort_l : sortF [(t, .lst xs)] = (intsOf xs).map fun ns => (.fr 0, .lst ((ns.mergeSort fun a b => decide (a ≤ b)).map D.int)) := rfl
@[simp] theorem tuple_t : tupleF [(t, .tup xs)] = some (.st, .tup xs) := rfl
@[simp] theorem tuple_l : tupleF [(t, .lst xs)] = if t.flat = true then some (.st, .tup xs) else none := rfl
@[simp] theorem list_t : listF [(t, .tup xs)] = some (.fr 0, .lst xs) := rfl
@[simp] theorem list_l : listF [(t, .lst xs)] = if t.flat = true then some (.fr 0, .lst xs) else none := rfl
@[simp] theorem all_l : allF [(t, .lst xs)] = (blsOf xs).map fun bs => (.st, .bl (bs.all id)) := rfl
@[simp] theorem any_l : anyF [(t, .lst xs)] = (blsOf xs).map fun bs => (.st, .bl (bs.any id)) := rfl
@[simp] theorem seqK_t : seqK (t, .tup xs) = some xs := rfl
@[simp] theorem seqK_f : seqK (t, .frz xs) = some xs := rfl
@[simp] theorem seqK_l : seqK (t, .lst xs) = if t.plain = true then some xs else none := rfl
/-- a bound of a range -/
def RngB (j : Int) : Prop := -(2 ^ 62) ≤ j ∧ j < 2 ^ 62
theorem rb {j : Int} (h : -1000000 ≤ j) (h' : j ≤ 1000000) : RngB j := by unfold RngB; omega
@[simp] theorem rng_i {P : List D → Prop} : optW (rngF [(t, .int j)]) P ↔ RngB j ∧ P (upTo j.toNat 0) := by
  show optW (if _ then _ else _) P ↔ _
  rw [optW_ite]
  rfl
@[simp] theorem rng2_i {P : List D → Prop} : optW (rngF2 [(t, .int i), (t', .int j)]) P ↔ (RngB i ∧ RngB j) ∧ P (upTo (j - i).toNat i) := by
  show optW (if _ then _ else _) P ↔ _
  rw [optW_ite]
  unfold RngB
  simp only [and_assoc]
@[simp] theorem zip_2 {p q : Vl} : zipF [p, q] = (seqK p).bind fun ds => (seqK q).map fun es => (ds.zip es).map fun p => .tup [p.1, p.2] := rfl
@[simp] theorem sl_t {lo hi : Option Int} : slF lo hi (t, .tup xs) = some (.st, .tup (cutL xs lo hi)) := rfl
@[simp] theorem sl_f {lo hi : Option Int} : slF lo hi (t, .frz xs) = some (.fr 0, .lst (cutL xs lo hi)) := rfl
@[simp] theorem sl_l {lo hi : Option Int} : slF lo hi (t, .lst xs) = if t.flat = true then some (.fr 0, .lst (cutL xs lo hi)) else none := rfl
/-! isinstance -/
def D.isTup : D → Bool | .tup _ => true | _ => false
def D.isLst : D → Bool | .lst _ => true | .frz _ => true | .cell _ => true | _ => false
def D.isInt' : D → Bool | .int _ => true | .bl _ => true | _ => false
def D.isBl : D → Bool | .bl _ => true | _ => false
def D.isStr : D → Bool | .str _ => true | _ => false
/-- what isinstance may be asked of -/
def D.typed : D → Bool | .ty _ => false | .fn _ => false | .tpc _ => false | .dK _ _ => false | .dT _ _ => false | .dI _ _ => false | .obj _ _ _ _ _ => false | .cls _ _ _ _ => false | _ => true
theorem kit_tab : ∀ s ∈ ["NoneType", "bool", "int", "str", "tuple", "list"], ∀ n ∈ ["tuple", "list", "int", "bool", "str"], kitB s n = some (decide (s = n) || (decide (s = "bool") && decide (n = "int"))) := by decide +kernel
def D.name1 : D → String
  | .non => "NoneType" | .bl _ => "bool" | .int _ => "int" | .str _ => "str" | .tup _ => "tuple" | .lst _ => "list" | .frz _ => "list" | .cell _ => "list" | _ => "x"
theorem tyName_1 {d : D} (h : d.typed = true) : d.tyName = some d.name1 ∧ d.name1 ∈ ["NoneType", "bool", "int", "str", "tuple", "list"] := by
  cases d <;> first | (simp [D.typed] at h; done) | (exact ⟨rfl, by simp [D.name1]⟩)
theorem isi_1 {d : D} {n : String} (h : d.typed = true) (hn : n ∈ ["tuple", "list", "int", "bool", "str"]) : isiF [(t, d), (t', .ty n)] = some (.st, .bl (decide (d.name1 = n) || (decide (d.name1 = "bool") && decide (n = "int")))) := by
  obtain ⟨h1, h2⟩ := tyName_1 h
  show d.tyName.bind _ = _
  rw [h1]
  show (kitB d.name1 n).map _ = _
  rw [kit_tab _ h2 _ hn]
  rfl
@[simp] theorem isi_tuple {d : D} (h : d.typed = true) : isiF [(t, d), (t', .ty "tuple")] = some (.st, .bl d.isTup) := by
  rw [isi_1 h (by decide)]
  cases d <;> simp [D.name1, D.isTup]
@[simp] theorem isi_list {d : D} (h : d.typed = true) : isiF [(t, d), (t', .ty "list")] = some (.st, .bl d.isLst) := by
  rw [isi_1 h (by decide)]
  cases d <;> first | (simp [D.typed] at h; done) | simp [D.name1, D.isLst]
@[simp] theorem isi_int {d : D} (h : d.typed = true) : isiF [(t, d), (t', .ty "int")] = some (.st, .bl d.isInt') := by
  rw [isi_1 h (by decide)]
  cases d <;> first | (simp [D.typed] at h; done) | simp [D.name1, D.isInt']
@[simp] theorem isi_bool {d : D} (h : d.typed = true) : isiF [(t, d), (t', .ty "bool")] = some (.st, .bl d.isBl) := by
  rw [isi_1 h (by decide)]
  cases d <;> first | (simp [D.typed] at h; done) | simp [D.name1, D.isBl]
@[simp] theorem isi_str {d : D} (h : d.typed = true) : isiF [(t, d), (t', .ty "str")] = some (.st, .bl d.isStr) := by
  rw [isi_1 h (by decide)]
  cases d <;> first | (simp [D.typed] at h; done) | simp [D.name1, D.isStr]
@[simp] theorem isi_seq {d : D} (h : d.typed = true) : isiF [(t, d), (t', .tup [.ty "list", .ty "tuple"])] = some (.st, .bl (d.isLst || d.isTup)) := by
  obtain ⟨h1, h2⟩ := tyName_1 h
  show d.tyName.bind _ = _
  rw [h1]
  show (anyKit d.name1 [.ty "list", .ty "tuple"]).map _ = _
  unfold anyKit anyKit anyKit
  rw [kit_tab _ h2 _ (by decide), kit_tab _ h2 _ (by decide)]
  cases d <;> first | (simp [D.typed] at h; done) | simp [D.name1, D.isLst, D.isTup]
@[simp] theorem ty_i : (D.int i).typed = true := id rfl
@[simp] theorem ty_b {b : Bool} : (D.bl b).typed = true := id rfl
@[simp] theorem ty_n : D.non.typed = true := id rfl
@[simp] theorem ty_s : (D.str x).typed = true := id rfl
@[simp] theorem ty_t : (D.tup xs).typed = true := id rfl
@[simp] theorem ty_l : (D.lst xs).typed = true := id rfl
@[simp] theorem ty_f : (D.frz xs).typed = true := id rfl
end
/-! sums and indices -/
theorem mulOk_c {i j : Int} (h : j.natAbs < 2 ^ 63) : mulOk i j = true := by
  have : Builtin.Int.intBits j ≤ 64 := by
    unfold Builtin.Int.intBits
    by_cases h0 : j.natAbs = 0
    · simp [h0]
      split <;> omega
    · split
      · omega
      · have := Nat.log2_lt h0 |>.mpr h
        omega
  simp [mulOk, this]
theorem mulOk_c' {i j : Int} (h : i.natAbs < 2 ^ 63) : mulOk i j = true := by
  have := mulOk_c (i := j) h
  simp [mulOk] at this ⊢
  rcases this with (h | h) | h
  · exact .inl (.inr h)
  · exact .inl (.inl h)
  · exact .inr ⟨h.2, h.1⟩
theorem atI_nat {α : Type} {xs : List α} {n : Nat} : atI xs (n : Int) = xs[n]? := by
  unfold atI ixN
  rw [if_pos (by omega)]
  by_cases h : (n : Int) < xs.length
  · rw [if_pos h]; simp
  · rw [if_neg h]
    simp only [Option.bind_none]
    rw [List.getElem?_eq_none (by omega)]
theorem ixN_nat {n m : Nat} (h : m < n) : ixN n (m : Int) = some m := by
  unfold ixN
  rw [if_pos (by omega), if_pos (by omega)]
  simp
theorem atI_pos {α : Type} {xs : List α} {i : Int} (h : 0 ≤ i) : atI xs i = xs[i.toNat]? := by
  obtain ⟨n, rfl⟩ := Int.eq_ofNat_of_zero_le h
  rw [atI_nat]
  rfl
theorem upTo_eq : ∀ (n : Nat) (lo : Int), upTo n lo = (List.range n).map fun k => .int (lo + (k : Nat))
  | 0, lo => rfl
  | n + 1, lo => by
    rw [List.range_succ_eq_map, List.map_cons, List.map_map]
    show D.int lo :: upTo n (lo + 1) = _
    rw [upTo_eq n (lo + 1)]
    congr 1
    · simp
    · refine List.map_congr_left fun k _ => ?_
      simp only [Function.comp]
      congr 1
      push_cast
      omega
theorem upTo_len : ∀ (n : Nat) (lo : Int), (upTo n lo).length = n
  | 0, _ => rfl
  | n + 1, lo => by simp [upTo, upTo_len n]
section
variable {N B C : List Slot → Cells → Prop} {R : D → Cells → Prop} {E : Str → List (Str × D) → List Slot → Cells → Prop} {env : List Slot} {cs : Cells}
theorem for_rng {n : Nat} {lo : Int} {g : GS} {mb : SS} (J : Nat → List Slot → Cells → Prop) (h0 : J 0 env cs)
    (st : ∀ i, i < n → ∀ env cs, J i env cs → ∃ env1, g (.int (lo + (i : Nat))) env = some env1 ∧ (mb env1 cs).W (J (i + 1)) N (J (i + 1)) R E)
    (en : ∀ env cs, J n env cs → N env cs) : (forGo g mb (upTo n lo) env cs).W N B C R E := by
  rw [upTo_eq]
  refine for_lst J h0 (fun i h env cs hJ => ?_) fun env cs hJ => en env cs (by simpa using hJ)
  have := st i (by simpa using h) env cs hJ
  simpa using this
theorem comp_rng_st {β : Type} {n : Nat} {lo : Int} {kk : Nat} {g : GS} {mc me : ES} {Q : Vl → Cells → Prop} (enc : β → D) (P : Nat → β → Prop) (I : Cells → Prop) (h0 : I cs)
    (st : ∀ i, i < n → ∀ cs, I cs → ∃ env1, g (.int (lo + (i : Nat))) env = some env1 ∧ (mc env1 cs).W (fun z c => tstW (truthD z.2) ((me env1 c).W (fun y c1 => (okTag kk y.1 = true ∧ (kk = 0 ∨ atomC c1 = true)) ∧ (∃ b, y.2 = enc b ∧ P i b) ∧ I c1) noE) False) noE)
    (en : ∀ ys c, All2 P (List.range n) ys → I c → Q (.fr kk, .lst (ys.map enc)) c) : compW kk g mc me env (upTo n lo) cs Q := by
  rw [upTo_eq]
  exact comp_st enc P I h0 (fun i hi cs hI => st i (by simpa using hi) cs hI) en
end
theorem intsOf_map : ∀ ns : List Int, intsOf (ns.map D.int) = some ns
  | [] => rfl
  | n :: ns => by simp [intsOf, intsOf_map ns]
theorem blsOf_map {α : Type} (f : α → Bool) : ∀ ns : List α, blsOf (ns.map fun x => D.bl (f x)) = some (ns.map f)
  | [] => rfl
  | n :: ns => by simp [blsOf, blsOf_map f ns]
end Pc

namespace Cm
open PySem Pc
def d_is_whole : Def := ⟨["value"], ["value"], (.cons (.ret (.bo .And (.cons (.bf .isinstance (.cons (.var 0) (.cons (.ty "int") .nil))) (.cons (.not (.bf .isinstance (.cons (.var 0) (.cons (.ty "bool") .nil)))) .nil)))) .nil)⟩
def d_is_whole_between : Def := ⟨["value", "low", "high"], ["value", "low", "high"], (.cons (.ret (.bo .And (.cons (.call "is_whole" (.cons (.var 0) .nil)) (.cons (.chain .LtE .LtE (.var 1) (.var 0) (.var 2)) .nil)))) .nil)⟩
def d_is_row : Def := ⟨["value", "low", "high"], ["value", "low", "high"], (.cons (.ret (.bo .And (.cons (.bf .isinstance (.cons (.var 0) (.cons (.tup (.cons (.ty "list") (.cons (.ty "tuple") .nil))) .nil))) (.cons (.chain .LtE .LtE (.var 1) (.bf .len (.cons (.var 0) .nil)) (.var 2)) .nil)))) .nil)⟩
def d__is_ring : Def := ⟨["value"], ["value", "manner"], (.cons (.ite (.not (.call "is_row" (.cons (.var 0) (.cons (.con "FEWEST_IN_RING") (.cons (.con "MOST_IN_RING") .nil))))) (.cons (.ret (.cb false)) .nil) .nil) (.cons (.ret (.bf .all (.cons (.comp 0 (.n 1) (.seq (.var 0)) .none (.cmp .In (.var 1) (.con "MANNERS"))) .nil))) .nil))⟩
def d_is_letter : Def := ⟨["value"], ["value", "ring"], (.cons (.ite (.bo .Or (.cons (.not (.call "is_row" (.cons (.var 0) (.cons (.ci 1) (.cons (.con "MOST_RINGS") .nil))))) (.cons (.not (.bf .all (.cons (.comp 0 (.n 1) (.seq (.var 0)) .none (.call "_is_ring" (.cons (.var 1) .nil))) .nil))) .nil))) (.cons (.ret (.cb false)) .nil) .nil) (.cons (.ret (.cmp .LtE (.bf .sum (.cons (.comp 0 (.n 1) (.seq (.var 0)) .none (.bf .len (.cons (.var 1) .nil))) .nil)) (.con "MOST_CORNERS"))) .nil))⟩
def d_need_letter : Def := ⟨["letter", "at"], ["letter", "at"], (.cons (.ite (.not (.call "is_letter" (.cons (.var 0) .nil))) (.cons (.rais "BadValue" (.cons (.var 1) .nil)) .nil) .nil) .nil)⟩
def d_is_coordinate : Def := ⟨["value"], ["value"], (.cons (.ret (.call "is_whole_between" (.cons (.var 0) (.cons (.neg (.con "FARTHEST")) (.cons (.con "FARTHEST") .nil))))) .nil)⟩
def d__is_ring_of_places : Def := ⟨["value", "many", "is_number"], ["value", "many", "is_number", "place"], (.cons (.ret (.bo .And (.cons (.call "is_row" (.cons (.var 0) (.cons (.var 1) (.cons (.var 1) .nil)))) (.cons (.bf .all (.cons (.comp 0 (.n 3) (.seq (.var 0)) .none (.call "is_place" (.cons (.var 3) (.cons (.var 2) .nil)))) .nil)) .nil)))) .nil)⟩
def d_has_places : Def := ⟨["letter", "value", "is_number"], ["letter", "value", "is_number", "ring", "row"], (.cons (.ite (.not (.call "is_row" (.cons (.var 1) (.cons (.bf .len (.cons (.var 0) .nil)) (.cons (.bf .len (.cons (.var 0) .nil)) .nil))))) (.cons (.ret (.cb false)) .nil) .nil) (.cons (.ret (.bf .all (.cons (.comp 0 (.t [3, 4]) (.zip (.cons (.var 0) (.cons (.var 1) .nil))) .none (.call "_is_ring_of_places" (.cons (.var 4) (.cons (.bf .len (.cons (.var 3) .nil)) (.cons (.var 2) .nil))))) .nil))) .nil))⟩
def d_is_drawing : Def := ⟨["letter", "value"], ["letter", "value"], (.cons (.drop (.call "need_letter" (.cons (.var 0) (.cons (.ci 0) .nil)))) (.cons (.ret (.call "has_places" (.cons (.var 0) (.cons (.var 1) (.cons (.con "is_coordinate") .nil))))) .nil))⟩
def d__law_so : Def := ⟨["found", "meant"], ["found", "meant", "k"], (.cons (.ite (.cmp .Is (.var 1) .cn) (.cons (.ret (.cmp .Is (.var 0) .cn)) .nil) .nil) (.cons (.ite (.bf .isinstance (.cons (.var 1) (.cons (.ty "tuple") .nil))) (.cons (.ite (.bo .Or (.cons (.not (.bf .isinstance (.cons (.var 0) (.cons (.ty "tuple") .nil)))) (.cons (.cmp .NotEq (.bf .len (.cons (.var 0) .nil)) (.bf .len (.cons (.var 1) .nil))) .nil))) (.cons (.ret (.cb false)) .nil) .nil) (.cons (.loop (.n 2) (.rng (.cons (.bf .len (.cons (.var 1) .nil)) .nil)) (.cons (.ite (.not (.call "_law_so" (.cons (.sub (.var 0) (.var 2)) (.cons (.sub (.var 1) (.var 2)) .nil)))) (.cons (.ret (.cb false)) .nil) .nil) .nil)) (.cons (.ret (.cb true)) .nil))) .nil) (.cons (.ite (.bo .Or (.cons (.bf .isinstance (.cons (.var 1) (.cons (.ty "bool") .nil))) (.cons (.bf .isinstance (.cons (.var 0) (.cons (.ty "bool") .nil))) .nil))) (.cons (.ret (.bo .And (.cons (.bf .isinstance (.cons (.var 1) (.cons (.ty "bool") .nil))) (.cons (.bf .isinstance (.cons (.var 0) (.cons (.ty "bool") .nil))) (.cons (.cmp .Eq (.var 0) (.var 1)) .nil))))) .nil) .nil) (.cons (.ite (.bf .isinstance (.cons (.var 1) (.cons (.ty "int") .nil))) (.cons (.ret (.bo .And (.cons (.bf .isinstance (.cons (.var 0) (.cons (.ty "int") .nil))) (.cons (.cmp .Eq (.var 0) (.var 1)) .nil)))) .nil) .nil) (.cons (.ret (.bo .And (.cons (.bf .isinstance (.cons (.var 1) (.cons (.ty "str") .nil))) (.cons (.bf .isinstance (.cons (.var 0) (.cons (.ty "str") .nil))) (.cons (.cmp .Eq (.var 0) (.var 1)) .nil))))) .nil)))))⟩
def d__law_numbers : Def := ⟨["script"], ["script", "row", "cell", "left", "k", "mixed"], (.cons (.own 1 (.lst .nil)) (.cons (.loop (.n 2) (.seq (.slice (.var 0) .none (.some (.ci 63)))) (.cons (.ite (.cmp .GtE (.var 2) (.bin .Pow (.ci 10) (.ci 18))) (.cons (.set 3 (.var 2)) (.cons (.loop (.n 4) (.rng (.cons (.ci 60) .nil)) (.cons (.ite (.cmp .Eq (.var 3) (.ci 0)) (.cons .brk .nil) .nil) (.cons (.app 1 (.bin .Mod (.bf .int (.cons (.var 3) .nil)) (.ci 997))) (.cons (.set 3 (.bin .FloorDiv (.var 3) (.ci 997))) .nil)))) .nil)) (.cons (.loop (.n 4) (.rng (.cons (.ci 4) .nil)) (.cons (.set 5 (.bin .Mod (.bf .int (.cons (.bin .Add (.bin .Add (.bin .Mult (.var 2) (.ci 48271)) (.bin .Mult (.var 4) (.ci 69621))) (.ci 11)) .nil)) (.ci 2147483647))) (.cons (.app 1 (.bin .Mod (.bf .int (.cons (.bin .Add (.bin .Mult (.var 5) (.ci 16807)) (.var 4)) .nil)) (.ci 2147483629))) .nil))) .nil)) .nil)) (.cons (.ite (.cmp .Eq (.bf .len (.cons (.var 1) .nil)) (.ci 0)) (.cons (.app 1 (.ci 0)) .nil) .nil) (.cons (.frz 1 (.ret (.var 1))) .nil))))⟩
def d__law_draw : Def := ⟨["row", "at", "limit"], ["row", "at", "limit", "mixed"], (.cons (.ite (.cmp .Lt (.var 1) (.bf .len (.cons (.var 0) .nil))) (.cons (.ret (.bin .Mod (.bf .int (.cons (.sub (.var 0) (.var 1)) .nil)) (.var 2))) .nil) .nil) (.cons (.set 3 (.bin .Mod (.bf .int (.cons (.bin .Add (.bin .Add (.bin .Mult (.sub (.var 0) (.bin .Mod (.bf .int (.cons (.var 1) .nil)) (.bf .len (.cons (.var 0) .nil)))) (.ci 40692)) (.bin .Mult (.var 1) (.ci 7919))) (.ci 3)) .nil)) (.ci 2147483399))) (.cons (.ret (.bin .Mod (.bf .int (.cons (.bin .Mod (.bf .int (.cons (.bin .Add (.bin .Mult (.var 3) (.ci 48271)) (.var 1)) .nil)) (.ci 2147483647)) .nil)) (.var 2))) .nil)))⟩
def d__law_take : Def := ⟨["row", "spot", "limit"], ["row", "spot", "limit"], (.cons (.sto 1 (.ci 0) (.bin .Add (.sub (.var 1) (.ci 0)) (.ci 1))) (.cons (.ret (.call "_law_draw" (.cons (.var 0) (.cons (.bin .Sub (.sub (.var 1) (.ci 0)) (.ci 1)) (.cons (.var 2) .nil))))) .nil))⟩
def d__law_whole : Def := ⟨["value"], ["value"], (.cons (.ret (.bo .And (.cons (.bf .isinstance (.cons (.var 0) (.cons (.ty "int") .nil))) (.cons (.not (.bf .isinstance (.cons (.var 0) (.cons (.ty "bool") .nil)))) .nil)))) .nil)⟩
def d__law_listed : Def := ⟨["value"], ["value", "one"], (.cons (.ite (.bf .isinstance (.cons (.var 0) (.cons (.ty "tuple") .nil))) (.cons (.ret (.comp 0 (.n 1) (.seq (.var 0)) .none (.call "_law_listed" (.cons (.var 1) .nil)))) .nil) .nil) (.cons (.ret (.var 0)) .nil))⟩
def d__law_tupled : Def := ⟨["value"], ["value", "one"], (.cons (.ite (.bo .Or (.cons (.bf .isinstance (.cons (.var 0) (.cons (.ty "list") .nil))) (.cons (.bf .isinstance (.cons (.var 0) (.cons (.ty "tuple") .nil))) .nil))) (.cons (.ret (.bf .tuple (.cons (.comp 0 (.n 1) (.seq (.var 0)) .none (.call "_law_tupled" (.cons (.var 1) .nil))) .nil))) .nil) .nil) (.cons (.ret (.var 0)) .nil))⟩
def d__law_either : Def := ⟨["row", "spot", "value"], ["row", "spot", "value", "parts", "one"], (.cons (.ite (.bf .isinstance (.cons (.var 2) (.cons (.ty "tuple") .nil))) (.cons (.set 3 (.comp 0 (.n 4) (.seq (.var 2)) .none (.call "_law_either" (.cons (.var 0) (.cons (.var 1) (.cons (.var 4) .nil)))))) (.cons (.ret (.ite (.cmp .Eq (.call "_law_take" (.cons (.var 0) (.cons (.var 1) (.cons (.ci 2) .nil)))) (.ci 0)) (.var 3) (.bf .tuple (.cons (.var 3) .nil)))) .nil)) .nil) (.cons (.ret (.var 2)) .nil))⟩
def d__law_handed : Def := ⟨["row", "spot", "value"], ["row", "spot", "value", "kind"], (.cons (.set 3 (.call "_law_take" (.cons (.var 0) (.cons (.var 1) (.cons (.ci 3) .nil))))) (.cons (.ite (.cmp .Eq (.var 3) (.ci 2)) (.cons (.ret (.call "_law_either" (.cons (.var 0) (.cons (.var 1) (.cons (.var 2) .nil))))) .nil) .nil) (.cons (.ret (.ite (.cmp .Eq (.var 3) (.ci 0)) (.call "_law_listed" (.cons (.var 2) .nil)) (.var 2))) .nil)))⟩
def d__law_pick : Def := ⟨["row", "spot", "things"], ["row", "spot", "things"], (.cons (.ret (.sub (.var 2) (.call "_law_take" (.cons (.var 0) (.cons (.var 1) (.cons (.bf .len (.cons (.var 2) .nil)) .nil)))))) .nil)⟩
def d__law_is_letter : Def := ⟨["value"], ["value", "many", "ring", "one"], (.cons (.ite (.bo .Or (.cons (.not (.bf .isinstance (.cons (.var 0) (.cons (.ty "tuple") .nil)))) (.cons (.not (.chain .LtE .LtE (.ci 1) (.bf .len (.cons (.var 0) .nil)) (.ci 3))) .nil))) (.cons (.ret (.cb false)) .nil) .nil) (.cons (.set 1 (.ci 0)) (.cons (.loop (.n 2) (.seq (.var 0)) (.cons (.ite (.bo .Or (.cons (.not (.bf .isinstance (.cons (.var 2) (.cons (.ty "tuple") .nil)))) (.cons (.not (.chain .LtE .LtE (.ci 3) (.bf .len (.cons (.var 2) .nil)) (.ci 8))) .nil))) (.cons (.ret (.cb false)) .nil) .nil) (.cons (.loop (.n 3) (.seq (.var 2)) (.cons (.ite (.bo .Or (.cons (.not (.bf .isinstance (.cons (.var 3) (.cons (.ty "str") .nil)))) (.cons (.cmp .NotIn (.var 3) (.tup (.cons (.cs "any") (.cons (.cs "left") (.cons (.cs "right") (.cons (.cs "straight") .nil)))))) .nil))) (.cons (.ret (.cb false)) .nil) .nil) .nil)) (.cons (.set 1 (.bin .Add (.var 1) (.bf .len (.cons (.var 2) .nil)))) .nil)))) (.cons (.ret (.cmp .Lt (.var 1) (.ci 11))) .nil))))⟩
def d__law_is_place : Def := ⟨["value"], ["value"], (.cons (.ite (.bo .Or (.cons (.not (.bf .isinstance (.cons (.var 0) (.cons (.ty "tuple") .nil)))) (.cons (.cmp .NotEq (.bf .len (.cons (.var 0) .nil)) (.ci 2)) (.cons (.not (.call "_law_whole" (.cons (.sub (.var 0) (.ci 0)) .nil))) (.cons (.not (.call "_law_whole" (.cons (.sub (.var 0) (.ci 1)) .nil))) .nil))))) (.cons (.ret (.cb false)) .nil) .nil) (.cons (.ret (.bo .And (.cons (.chain .LtE .LtE (.neg (.ci 99)) (.sub (.var 0) (.ci 0)) (.ci 99)) (.cons (.chain .LtE .LtE (.neg (.ci 99)) (.sub (.var 0) (.ci 1)) (.ci 99)) .nil)))) .nil))⟩
def d__law_is_drawing : Def := ⟨["letter", "value"], ["letter", "value", "k", "one"], (.cons (.ite (.bo .Or (.cons (.not (.bf .isinstance (.cons (.var 1) (.cons (.ty "tuple") .nil)))) (.cons (.cmp .NotEq (.bf .len (.cons (.var 1) .nil)) (.bf .len (.cons (.var 0) .nil))) .nil))) (.cons (.ret (.cb false)) .nil) .nil) (.cons (.loop (.n 2) (.rng (.cons (.bf .len (.cons (.var 0) .nil)) .nil)) (.cons (.ite (.bo .Or (.cons (.not (.bf .isinstance (.cons (.sub (.var 1) (.var 2)) (.cons (.ty "tuple") .nil)))) (.cons (.cmp .NotEq (.bf .len (.cons (.sub (.var 1) (.var 2)) .nil)) (.bf .len (.cons (.sub (.var 0) (.var 2)) .nil))) .nil))) (.cons (.ret (.cb false)) .nil) .nil) (.cons (.ite (.cmp .Gt (.bf .len (.cons (.comp 0 (.n 3) (.seq (.sub (.var 1) (.var 2))) (.some (.not (.call "_law_is_place" (.cons (.var 3) .nil)))) (.var 3)) .nil)) (.ci 0)) (.cons (.ret (.cb false)) .nil) .nil) .nil))) (.cons (.ret (.cb true)) .nil)))⟩
def d__law_corners : Def := ⟨["letter"], ["letter", "made", "ring", "k"], (.cons (.set 1 (.lst .nil)) (.cons (.loop (.n 2) (.rng (.cons (.bf .len (.cons (.var 0) .nil)) .nil)) (.cons (.set 1 (.bin .Add (.var 1) (.comp 0 (.n 3) (.rng (.cons (.bf .len (.cons (.sub (.var 0) (.var 2)) .nil)) .nil)) .none (.tup (.cons (.var 2) (.cons (.var 3) .nil)))))) .nil)) (.cons (.ret (.var 1)) .nil)))⟩
def d__law_next : Def := ⟨["letter", "corner"], ["letter", "corner"], (.cons (.ret (.tup (.cons (.sub (.var 1) (.ci 0)) (.cons (.bin .Mod (.bf .int (.cons (.bin .Add (.sub (.var 1) (.ci 1)) (.ci 1)) .nil)) (.bf .len (.cons (.sub (.var 0) (.sub (.var 1) (.ci 0))) .nil))) .nil)))) .nil)⟩
def d__law_before : Def := ⟨["letter", "corner"], ["letter", "corner"], (.cons (.ret (.tup (.cons (.sub (.var 1) (.ci 0)) (.cons (.bin .Mod (.bf .int (.cons (.bin .Sub (.sub (.var 1) (.ci 1)) (.ci 1)) .nil)) (.bf .len (.cons (.sub (.var 0) (.sub (.var 1) (.ci 0))) .nil))) .nil)))) .nil)⟩
def d__law_at : Def := ⟨["drawing", "corner"], ["drawing", "corner"], (.cons (.ret (.sub (.sub (.var 0) (.sub (.var 1) (.ci 0))) (.sub (.var 1) (.ci 1)))) .nil)⟩
def d__law_letter : Def := ⟨["row", "spot"], ["row", "spot", "rings", "made", "left", "k", "room", "many", "manners", "at"], (.cons (.set 2 (.bin .Add (.ci 1) (.bin .FloorDiv (.call "_law_take" (.cons (.var 0) (.cons (.var 1) (.cons (.ci 5) .nil)))) (.ci 2)))) (.cons (.own 3 (.lst .nil)) (.cons (.set 4 (.ci 10)) (.cons (.loop (.n 5) (.rng (.cons (.var 2) .nil)) (.cons (.set 6 (.bf .min (.cons (.ci 8) (.cons (.bin .Sub (.var 4) (.bin .Mult (.ci 3) (.bin .Sub (.bin .Sub (.var 2) (.ci 1)) (.var 5)))) .nil)))) (.cons (.set 7 (.bin .Add (.ci 3) (.call "_law_take" (.cons (.var 0) (.cons (.var 1) (.cons (.bf .max (.cons (.ci 1) (.cons (.bin .Sub (.var 6) (.ci 2)) .nil))) .nil)))))) (.cons (.set 4 (.bin .Sub (.var 4) (.var 7))) (.cons (.own 8 (.lst .nil)) (.cons (.loop (.n 9) (.rng (.cons (.var 7) .nil)) (.cons (.app 8 (.sub (.lst (.cons (.cs "any") (.cons (.cs "any") (.cons (.cs "left") (.cons (.cs "right") (.cons (.cs "straight") .nil)))))) (.call "_law_take" (.cons (.var 0) (.cons (.var 1) (.cons (.ci 5) .nil)))))) .nil)) (.cons (.app 3 (.bf .tuple (.cons (.var 8) .nil))) .nil))))))) (.cons (.ret (.bf .tuple (.cons (.var 3) .nil))) .nil)))))⟩
def d__law_ways : Def := ⟨[], [], (.cons (.ret (.lst (.cons (.tup (.cons (.ci 8) (.cons (.ci 0) .nil))) (.cons (.tup (.cons (.ci 7) (.cons (.ci 4) .nil))) (.cons (.tup (.cons (.ci 4) (.cons (.ci 7) .nil))) (.cons (.tup (.cons (.ci 0) (.cons (.ci 8) .nil))) (.cons (.tup (.cons (.neg (.ci 4)) (.cons (.ci 7) .nil))) (.cons (.tup (.cons (.neg (.ci 7)) (.cons (.ci 4) .nil))) (.cons (.tup (.cons (.neg (.ci 8)) (.cons (.ci 0) .nil))) (.cons (.tup (.cons (.neg (.ci 7)) (.cons (.neg (.ci 4)) .nil))) (.cons (.tup (.cons (.neg (.ci 4)) (.cons (.neg (.ci 7)) .nil))) (.cons (.tup (.cons (.ci 0) (.cons (.neg (.ci 8)) .nil))) (.cons (.tup (.cons (.ci 4) (.cons (.neg (.ci 7)) .nil))) (.cons (.tup (.cons (.ci 7) (.cons (.neg (.ci 4)) .nil))) .nil)))))))))))))) .nil)⟩
def d__law_ring_places : Def := ⟨["row", "spot", "many", "middle", "size"], ["row", "spot", "many", "middle", "size", "steps", "made", "k", "way", "far"], (.cons (.set 5 (.bf .sorted (.cons (.comp 0 (.n 7) (.rng (.cons (.var 2) .nil)) .none (.call "_law_take" (.cons (.var 0) (.cons (.var 1) (.cons (.ci 12) .nil))))) .nil))) (.cons (.own 6 (.lst .nil)) (.cons (.loop (.n 7) (.rng (.cons (.var 2) .nil)) (.cons (.set 8 (.ite (.cmp .Gt (.call "_law_take" (.cons (.var 0) (.cons (.var 1) (.cons (.ci 3) .nil)))) (.ci 0)) (.sub (.call "_law_ways" .nil) (.bin .Mod (.bf .int (.cons (.bin .Add (.sub (.var 5) (.var 7)) (.var 7)) .nil)) (.ci 12))) (.sub (.call "_law_ways" .nil) (.bin .Mod (.bf .int (.cons (.bin .FloorDiv (.bin .Mult (.ci 12) (.var 7)) (.var 2)) .nil)) (.ci 12))))) (.cons (.set 9 (.bin .Add (.ci 1) (.call "_law_take" (.cons (.var 0) (.cons (.var 1) (.cons (.var 4) .nil)))))) (.cons (.app 6 (.tup (.cons (.bin .Add (.sub (.var 3) (.ci 0)) (.bin .FloorDiv (.bin .Mult (.sub (.var 8) (.ci 0)) (.var 9)) (.ci 2))) (.cons (.bin .Add (.sub (.var 3) (.ci 1)) (.bin .FloorDiv (.bin .Mult (.sub (.var 8) (.ci 1)) (.var 9)) (.ci 2))) .nil)))) .nil)))) (.cons (.frz 6 (.ret (.var 6))) .nil))))⟩
def d__law_clip : Def := ⟨["place"], ["place"], (.cons (.ret (.tup (.cons (.bf .max (.cons (.neg (.ci 99)) (.cons (.bf .min (.cons (.ci 99) (.cons (.sub (.var 0) (.ci 0)) .nil))) .nil))) (.cons (.bf .max (.cons (.neg (.ci 99)) (.cons (.bf .min (.cons (.ci 99) (.cons (.sub (.var 0) (.ci 1)) .nil))) .nil))) .nil)))) .nil)⟩
def d__law_drawing : Def := ⟨["row", "spot", "letter"], ["row", "spot", "letter", "made", "kind", "ring", "many", "middle", "size", "places", "k", "way", "far", "one"], (.cons (.own 3 (.lst .nil)) (.cons (.set 4 (.call "_law_take" (.cons (.var 0) (.cons (.var 1) (.cons (.ci 4) .nil))))) (.cons (.loop (.n 5) (.rng (.cons (.bf .len (.cons (.var 2) .nil)) .nil)) (.cons (.set 6 (.bf .len (.cons (.sub (.var 2) (.var 5)) .nil))) (.cons (.set 7 (.sub (.lst (.cons (.tup (.cons (.ci 0) (.cons (.ci 0) .nil))) (.cons (.tup (.cons (.bin .Sub (.bin .Mult (.ci 60) (.var 5)) (.ci 50)) (.cons (.ci 0) .nil))) (.cons (.tup (.cons (.ci 0) (.cons (.ci 0) .nil))) (.cons (.tup (.cons (.bin .Sub (.call "_law_take" (.cons (.var 0) (.cons (.var 1) (.cons (.ci 40) .nil)))) (.ci 20)) (.cons (.bin .Sub (.call "_law_take" (.cons (.var 0) (.cons (.var 1) (.cons (.ci 40) .nil)))) (.ci 20)) .nil))) .nil))))) (.var 4))) (.cons (.ite (.cmp .Lt (.var 4) (.ci 3)) (.cons (.set 8 (.bin .FloorDiv (.sub (.lst (.cons (.ci 16) (.cons (.ci 6) (.cons (.ci 16) .nil)))) (.var 4)) (.ite (.cmp .NotEq (.var 4) (.ci 1)) (.bin .Add (.ci 1) (.bin .Mult (.ci 2) (.var 5))) (.ci 1)))) (.cons (.own 9 (.lst .nil)) (.cons (.loop (.n 10) (.rng (.cons (.var 6) .nil)) (.cons (.set 11 (.sub (.call "_law_ways" .nil) (.bin .Mod (.bf .int (.cons (.bin .FloorDiv (.bin .Mult (.ci 12) (.var 10)) (.var 6)) .nil)) (.ci 12)))) (.cons (.set 12 (.bf .max (.cons (.ci 2) (.cons (.bin .Sub (.var 8) (.call "_law_take" (.cons (.var 0) (.cons (.var 1) (.cons (.ci 2) .nil))))) .nil)))) (.cons (.app 9 (.tup (.cons (.bin .Add (.sub (.var 7) (.ci 0)) (.bin .FloorDiv (.bin .Mult (.sub (.var 11) (.ci 0)) (.var 12)) (.ci 2))) (.cons (.bin .Add (.sub (.var 7) (.ci 1)) (.bin .FloorDiv (.bin .Mult (.sub (.var 11) (.ci 1)) (.var 12)) (.ci 2))) .nil)))) .nil)))) .nil))) (.cons (.set 9 (.call "_law_ring_places" (.cons (.var 0) (.cons (.var 1) (.cons (.var 6) (.cons (.var 7) (.cons (.ci 9) .nil))))))) .nil)) (.cons (.frz 9 (.app 3 (.bf .tuple (.cons (.comp 0 (.n 13) (.seq (.var 9)) .none (.call "_law_clip" (.cons (.var 13) .nil))) .nil)))) .nil))))) (.cons (.ret (.bf .tuple (.cons (.var 3) .nil))) .nil))))⟩
def d__law_varied : Def := ⟨["row", "spot", "drawing"], ["row", "spot", "drawing", "made", "off", "wide", "often", "ring", "places", "place", "x", "y"], (.cons (.own 3 (.lst .nil)) (.cons (.set 4 (.tup (.cons (.bin .Sub (.call "_law_take" (.cons (.var 0) (.cons (.var 1) (.cons (.ci 9) .nil)))) (.ci 4)) (.cons (.bin .Sub (.call "_law_take" (.cons (.var 0) (.cons (.var 1) (.cons (.ci 9) .nil)))) (.ci 4)) .nil)))) (.cons (.set 5 (.sub (.lst (.cons (.ci 1) (.cons (.ci 3) (.cons (.ci 9) (.cons (.ci 40) .nil))))) (.call "_law_take" (.cons (.var 0) (.cons (.var 1) (.cons (.ci 4) .nil)))))) (.cons (.set 6 (.bin .Add (.ci 1) (.call "_law_take" (.cons (.var 0) (.cons (.var 1) (.cons (.ci 4) .nil)))))) (.cons (.loop (.n 7) (.seq (.var 2)) (.cons (.own 8 (.lst .nil)) (.cons (.loop (.n 9) (.seq (.var 7)) (.cons (.ite (.cmp .Eq (.call "_law_take" (.cons (.var 0) (.cons (.var 1) (.cons (.var 6) .nil)))) (.ci 0)) (.cons (.par 10 11 (.cons (.bin .Sub (.call "_law_take" (.cons (.var 0) (.cons (.var 1) (.cons (.bin .Add (.bin .Mult (.ci 2) (.var 5)) (.ci 1)) .nil)))) (.var 5)) (.cons (.bin .Sub (.call "_law_take" (.cons (.var 0) (.cons (.var 1) (.cons (.bin .Add (.bin .Mult (.ci 2) (.var 5)) (.ci 1)) .nil)))) (.var 5)) .nil))) (.cons (.set 9 (.tup (.cons (.bin .Add (.sub (.var 9) (.ci 0)) (.var 10)) (.cons (.bin .Add (.sub (.var 9) (.ci 1)) (.var 11)) .nil)))) .nil)) .nil) (.cons (.app 8 (.call "_law_clip" (.cons (.tup (.cons (.bin .Add (.sub (.var 9) (.ci 0)) (.sub (.var 4) (.ci 0))) (.cons (.bin .Add (.sub (.var 9) (.ci 1)) (.sub (.var 4) (.ci 1))) .nil))) .nil))) .nil))) (.cons (.app 3 (.bf .tuple (.cons (.var 8) .nil))) .nil)))) (.cons (.ret (.bf .tuple (.cons (.var 3) .nil))) .nil))))))⟩
def d__law_masters : Def := ⟨["row", "spot", "letter", "most"], ["row", "spot", "letter", "most", "made", "k"], (.cons (.own 4 (.lst (.cons (.call "_law_drawing" (.cons (.var 0) (.cons (.var 1) (.cons (.var 2) .nil)))) .nil))) (.cons (.loop (.n 5) (.rng (.cons (.call "_law_take" (.cons (.var 0) (.cons (.var 1) (.cons (.var 3) .nil)))) .nil)) (.cons (.ite (.cmp .Eq (.call "_law_take" (.cons (.var 0) (.cons (.var 1) (.cons (.ci 6) .nil)))) (.ci 0)) (.cons (.app 4 (.call "_law_drawing" (.cons (.var 0) (.cons (.var 1) (.cons (.var 2) .nil))))) .nil) (.cons (.app 4 (.call "_law_varied" (.cons (.var 0) (.cons (.var 1) (.cons (.sub (.var 4) (.ci 0)) .nil))))) .nil)) .nil)) (.cons (.ret (.bf .tuple (.cons (.var 4) .nil))) .nil)))⟩
def d__law_fitted : Def := ⟨["row", "spot", "letter", "drawing"], ["row", "spot", "letter", "drawing", "made", "ring", "manners", "k", "before", "here", "behind", "turn", "manner"], (.cons (.own 4 (.lst .nil)) (.cons (.loop (.n 5) (.rng (.cons (.bf .len (.cons (.var 2) .nil)) .nil)) (.cons (.own 6 (.lst .nil)) (.cons (.loop (.n 7) (.rng (.cons (.bf .len (.cons (.sub (.var 2) (.var 5)) .nil)) .nil)) (.cons (.set 8 (.call "_law_at" (.cons (.var 3) (.cons (.call "_law_before" (.cons (.var 2) (.cons (.tup (.cons (.var 5) (.cons (.var 7) .nil))) .nil))) .nil)))) (.cons (.set 9 (.sub (.sub (.var 3) (.var 5)) (.var 7))) (.cons (.set 10 (.call "_law_at" (.cons (.var 3) (.cons (.call "_law_next" (.cons (.var 2) (.cons (.tup (.cons (.var 5) (.cons (.var 7) .nil))) .nil))) .nil)))) (.cons (.set 11 (.bin .Sub (.bin .Mult (.bin .Sub (.sub (.var 9) (.ci 0)) (.sub (.var 8) (.ci 0))) (.bin .Sub (.sub (.var 10) (.ci 1)) (.sub (.var 9) (.ci 1)))) (.bin .Mult (.bin .Sub (.sub (.var 9) (.ci 1)) (.sub (.var 8) (.ci 1))) (.bin .Sub (.sub (.var 10) (.ci 0)) (.sub (.var 9) (.ci 0)))))) (.cons (.set 12 (.ite (.cmp .Gt (.var 11) (.ci 0)) (.cs "left") (.ite (.cmp .Lt (.var 11) (.ci 0)) (.cs "right") (.cs "straight")))) (.cons (.app 6 (.ite (.cmp .Gt (.call "_law_take" (.cons (.var 0) (.cons (.var 1) (.cons (.ci 4) .nil)))) (.ci 0)) (.var 12) (.cs "any"))) .nil))))))) (.cons (.app 4 (.bf .tuple (.cons (.var 6) .nil))) .nil)))) (.cons (.ret (.bf .tuple (.cons (.var 4) .nil))) .nil)))⟩
def d__law_fourth : Def := ⟨["number"], ["number"], (.cons (.ret (.bf .max (.cons (.neg (.ci 96)) (.cons (.bin .Mult (.bin .FloorDiv (.bf .int (.cons (.var 0) .nil)) (.ci 4)) (.ci 4)) .nil)))) .nil)⟩
def d__law_straightened : Def := ⟨["letter", "corner", "drawing", "quarter"], ["letter", "corner", "drawing", "quarter", "made", "before", "behind", "first", "last", "place", "ring"], (.cons (.own 4 (.comp 1 (.n 10) (.seq (.var 2)) .none (.comp 0 (.n 9) (.seq (.var 10)) .none (.tup (.cons (.call "_law_fourth" (.cons (.sub (.var 9) (.ci 0)) .nil)) (.cons (.call "_law_fourth" (.cons (.sub (.var 9) (.ci 1)) .nil)) .nil)))))) (.cons (.par 5 6 (.cons (.call "_law_before" (.cons (.var 0) (.cons (.var 1) .nil))) (.cons (.call "_law_next" (.cons (.var 0) (.cons (.var 1) .nil))) .nil))) (.cons (.par 7 8 (.cons (.sub (.sub (.var 4) (.sub (.var 5) (.ci 0))) (.sub (.var 5) (.ci 1))) (.cons (.sub (.sub (.var 4) (.sub (.var 6) (.ci 0))) (.sub (.var 6) (.ci 1))) .nil))) (.cons (.set 9 (.tup (.cons (.bin .Add (.sub (.var 7) (.ci 0)) (.bin .Mult (.bin .FloorDiv (.bin .Sub (.sub (.var 8) (.ci 0)) (.sub (.var 7) (.ci 0))) (.ci 4)) (.var 3))) (.cons (.bin .Add (.sub (.var 7) (.ci 1)) (.bin .Mult (.bin .FloorDiv (.bin .Sub (.sub (.var 8) (.ci 1)) (.sub (.var 7) (.ci 1))) (.ci 4)) (.var 3))) .nil)))) (.cons (.sto2 4 (.sub (.var 1) (.ci 0)) (.sub (.var 1) (.ci 1)) (.call "_law_clip" (.cons (.var 9) .nil))) (.cons (.frz 4 (.ret (.bf .tuple (.cons (.comp 0 (.n 10) (.seq (.var 4)) .none (.bf .tuple (.cons (.var 10) .nil))) .nil)))) .nil))))))⟩
def d__law_turned_ring : Def := ⟨["row", "spot", "many", "middle"], ["row", "spot", "many", "middle", "a", "b", "made", "k", "way"], (.cons (.par 4 5 (.cons (.bin .Sub (.call "_law_take" (.cons (.var 0) (.cons (.var 1) (.cons (.ci 5) .nil)))) (.ci 2)) (.cons (.bin .Sub (.call "_law_take" (.cons (.var 0) (.cons (.var 1) (.cons (.ci 5) .nil)))) (.ci 2)) .nil))) (.cons (.ite (.bo .Or (.cons (.bo .And (.cons (.cmp .Eq (.var 4) (.ci 0)) (.cons (.cmp .Eq (.var 5) (.ci 0)) .nil))) (.cons (.cmp .Eq (.call "_law_take" (.cons (.var 0) (.cons (.var 1) (.cons (.ci 2) .nil)))) (.ci 0)) .nil))) (.cons (.pat (.t [4, 5]) (.sub (.lst (.cons (.tup (.cons (.ci 1) (.cons (.ci 0) .nil))) (.cons (.tup (.cons (.ci 0) (.cons (.ci 1) .nil))) (.cons (.tup (.cons (.neg (.ci 1)) (.cons (.ci 0) .nil))) (.cons (.tup (.cons (.ci 0) (.cons (.neg (.ci 1)) .nil))) .nil))))) (.call "_law_take" (.cons (.var 0) (.cons (.var 1) (.cons (.ci 4) .nil)))))) .nil) .nil) (.cons (.own 6 (.lst .nil)) (.cons (.loop (.n 7) (.rng (.cons (.var 2) .nil)) (.cons (.set 8 (.sub (.call "_law_ways" .nil) (.bin .Mod (.bf .int (.cons (.bin .FloorDiv (.bin .Mult (.ci 12) (.var 7)) (.var 2)) .nil)) (.ci 12)))) (.cons (.app 6 (.tup (.cons (.bin .Sub (.bin .Add (.sub (.var 3) (.ci 0)) (.bin .Mult (.sub (.var 8) (.ci 0)) (.var 4))) (.bin .Mult (.sub (.var 8) (.ci 1)) (.var 5))) (.cons (.bin .Add (.bin .Add (.sub (.var 3) (.ci 1)) (.bin .Mult (.sub (.var 8) (.ci 0)) (.var 5))) (.bin .Mult (.sub (.var 8) (.ci 1)) (.var 4))) .nil)))) .nil))) (.cons (.ret (.bf .tuple (.cons (.var 6) .nil))) .nil)))))⟩
def d__law_turned_drawing : Def := ⟨["row", "spot", "letter"], ["row", "spot", "letter", "made", "ring", "middle"], (.cons (.own 3 (.lst .nil)) (.cons (.loop (.n 4) (.rng (.cons (.bf .len (.cons (.var 2) .nil)) .nil)) (.cons (.set 5 (.ite (.cmp .Eq (.bf .len (.cons (.var 2) .nil)) (.ci 1)) (.tup (.cons (.ci 0) (.cons (.ci 0) .nil))) (.tup (.cons (.bin .Sub (.bin .Mult (.ci 80) (.var 4)) (.ci 40)) (.cons (.ci 0) .nil))))) (.cons (.app 3 (.call "_law_turned_ring" (.cons (.var 0) (.cons (.var 1) (.cons (.bf .len (.cons (.sub (.var 2) (.var 4)) .nil)) (.cons (.var 5) .nil)))))) .nil))) (.cons (.ret (.bf .tuple (.cons (.var 3) .nil))) .nil)))⟩
def d__law_turned_letter : Def := ⟨["row", "spot"], ["row", "spot", "made", "ring", "k"], (.cons (.own 2 (.lst .nil)) (.cons (.loop (.n 3) (.rng (.cons (.bin .Add (.ci 1) (.call "_law_take" (.cons (.var 0) (.cons (.var 1) (.cons (.ci 2) .nil))))) .nil)) (.cons (.app 2 (.bf .tuple (.cons (.comp 0 (.n 4) (.rng (.cons (.bin .Add (.ci 3) (.call "_law_take" (.cons (.var 0) (.cons (.var 1) (.cons (.ci 2) .nil))))) .nil)) .none (.sub (.lst (.cons (.cs "left") (.cons (.cs "any") .nil))) (.call "_law_take" (.cons (.var 0) (.cons (.var 1) (.cons (.ci 2) .nil)))))) .nil))) .nil)) (.cons (.ret (.bf .tuple (.cons (.var 2) .nil))) .nil)))⟩
def d__law_scene : Def := ⟨["row", "spot", "most"], ["row", "spot", "most", "letter", "masters", "corner", "quarter", "made", "one", "k"], (.cons (.ite (.cmp .Eq (.call "_law_take" (.cons (.var 0) (.cons (.var 1) (.cons (.ci 3) .nil)))) (.ci 0)) (.cons (.set 3 (.call "_law_turned_letter" (.cons (.var 0) (.cons (.var 1) .nil)))) (.cons (.ret (.tup (.cons (.var 3) (.cons (.bf .tuple (.cons (.comp 0 (.n 9) (.rng (.cons (.bin .Add (.ci 1) (.call "_law_take" (.cons (.var 0) (.cons (.var 1) (.cons (.var 2) .nil))))) .nil)) .none (.call "_law_turned_drawing" (.cons (.var 0) (.cons (.var 1) (.cons (.var 3) .nil))))) .nil)) .nil)))) .nil)) .nil) (.cons (.set 3 (.call "_law_letter" (.cons (.var 0) (.cons (.var 1) .nil)))) (.cons (.set 4 (.call "_law_masters" (.cons (.var 0) (.cons (.var 1) (.cons (.var 3) (.cons (.var 2) .nil)))))) (.cons (.ite (.cmp .Eq (.call "_law_take" (.cons (.var 0) (.cons (.var 1) (.cons (.ci 3) .nil)))) (.ci 0)) (.cons (.set 5 (.call "_law_pick" (.cons (.var 0) (.cons (.var 1) (.cons (.call "_law_corners" (.cons (.var 3) .nil)) .nil))))) (.cons (.ite (.cmp .Gt (.bf .len (.cons (.sub (.var 3) (.sub (.var 5) (.ci 0))) .nil)) (.ci 3)) (.cons (.set 6 (.bin .Add (.ci 1) (.call "_law_take" (.cons (.var 0) (.cons (.var 1) (.cons (.ci 3) .nil)))))) (.cons (.own 7 (.lst .nil)) (.cons (.loop (.n 8) (.seq (.var 4)) (.cons (.app 7 (.call "_law_straightened" (.cons (.var 3) (.cons (.var 5) (.cons (.var 8) (.cons (.var 6) .nil)))))) (.cons (.set 6 (.sub (.lst (.cons (.var 6) (.cons (.var 6) (.cons (.ci 1) (.cons (.ci 2) (.cons (.ci 3) (.cons (.ci 5) (.cons (.ci 0) .nil)))))))) (.call "_law_take" (.cons (.var 0) (.cons (.var 1) (.cons (.ci 7) .nil)))))) .nil))) (.cons (.set 4 (.bf .tuple (.cons (.var 7) .nil))) .nil)))) .nil) .nil)) .nil) (.cons (.ite (.cmp .Gt (.call "_law_take" (.cons (.var 0) (.cons (.var 1) (.cons (.ci 5) .nil)))) (.ci 0)) (.cons (.set 3 (.call "_law_fitted" (.cons (.var 0) (.cons (.var 1) (.cons (.var 3) (.cons (.sub (.var 4) (.ci 0)) .nil)))))) .nil) .nil) (.cons (.ret (.tup (.cons (.var 3) (.cons (.var 4) .nil)))) .nil))))))⟩
def d__law_changed_part : Def := ⟨["row", "spot", "value"], ["row", "spot", "value", "at", "turn"], (.cons (.ite (.bo .And (.cons (.bf .isinstance (.cons (.var 2) (.cons (.ty "tuple") .nil))) (.cons (.cmp .Gt (.bf .len (.cons (.var 2) .nil)) (.ci 0)) (.cons (.cmp .Gt (.call "_law_take" (.cons (.var 0) (.cons (.var 1) (.cons (.ci 6) .nil)))) (.ci 0)) .nil)))) (.cons (.set 3 (.call "_law_take" (.cons (.var 0) (.cons (.var 1) (.cons (.bf .len (.cons (.var 2) .nil)) .nil))))) (.cons (.ret (.bin .Add (.bin .Add (.slice (.var 2) .none (.some (.var 3))) (.tup (.cons (.call "_law_changed_part" (.cons (.var 0) (.cons (.var 1) (.cons (.sub (.var 2) (.var 3)) .nil)))) .nil))) (.slice (.var 2) (.some (.bin .Add (.var 3) (.ci 1))) .none))) .nil)) .nil) (.cons (.set 4 (.call "_law_take" (.cons (.var 0) (.cons (.var 1) (.cons (.ci 5) .nil))))) (.cons (.ite (.bo .And (.cons (.bf .isinstance (.cons (.var 2) (.cons (.ty "tuple") .nil))) (.cons (.cmp .Eq (.var 4) (.ci 0)) (.cons (.cmp .Gt (.bf .len (.cons (.var 2) .nil)) (.ci 0)) .nil)))) (.cons (.ret (.bin .Add (.var 2) (.slice (.var 2) .none (.some (.ci 1))))) .nil) .nil) (.cons (.ite (.bo .And (.cons (.bf .isinstance (.cons (.var 2) (.cons (.ty "tuple") .nil))) (.cons (.cmp .Eq (.var 4) (.ci 1)) (.cons (.cmp .Gt (.bf .len (.cons (.var 2) .nil)) (.ci 0)) .nil)))) (.cons (.ret (.slice (.var 2) (.some (.ci 1)) .none)) .nil) .nil) (.cons (.ite (.bo .And (.cons (.bf .isinstance (.cons (.var 2) (.cons (.ty "int") .nil))) (.cons (.cmp .Lt (.var 4) (.ci 3)) .nil))) (.cons (.ret (.sub (.lst (.cons (.bin .Add (.var 2) (.ci 1)) (.cons (.ci 99) (.cons (.ci 100) (.cons (.neg (.ci 99)) (.cons (.neg (.ci 100)) (.cons .cn (.cons (.cb true) (.cons (.ci 0) .nil))))))))) (.call "_law_take" (.cons (.var 0) (.cons (.var 1) (.cons (.ci 8) .nil)))))) .nil) .nil) (.cons (.ite (.bo .And (.cons (.bf .isinstance (.cons (.var 2) (.cons (.ty "str") .nil))) (.cons (.cmp .Lt (.var 4) (.ci 3)) .nil))) (.cons (.ret (.sub (.lst (.cons (.cs "any") (.cons (.cs "left") (.cons (.cs "right") (.cons (.cs "straight") (.cons (.cs "Any") (.cons (.cs "") (.cons (.cs "lef") (.cons (.cs "any ") .nil))))))))) (.call "_law_take" (.cons (.var 0) (.cons (.var 1) (.cons (.ci 8) .nil)))))) .nil) .nil) (.cons (.ret (.sub (.lst (.cons .cn (.cons (.ci 7) (.cons (.cb true) (.cons (.cs "") (.cons (.tup .nil) (.cons (.tup (.cons (.ci 0) (.cons (.ci 0) .nil))) (.cons (.tup (.cons (.cs "any") (.cons (.cs "any") (.cons (.cs "any") .nil)))) (.cons (.cs "any") .nil))))))))) (.call "_law_take" (.cons (.var 0) (.cons (.var 1) (.cons (.ci 8) .nil)))))) .nil)))))))⟩
def d__law_told : Def := ⟨["letter"], ["letter", "wrong"], (.cons (.tryx (.cons (.ret (.callk "is_drawing" (.cons (.var 0) (.cons (.ci 7) .nil)))) .nil) "BadValue" 1 (some "bad")) .nil)⟩
def d_law : Def := ⟨["script"], ["script", "row", "spot", "letter", "masters", "handed", "again", "changed", "drawing", "counts", "value", "many"], (.cons (.set 1 (.call "_law_numbers" (.cons (.var 0) .nil))) (.cell 2 (.lst (.cons (.ci 0) .nil)) (.cons (.pat (.t [3, 4]) (.call "_law_scene" (.cons (.var 1) (.cons (.var 2) (.cons (.ci 2) .nil))))) (.cons (.set 5 (.call "_law_handed" (.cons (.var 1) (.cons (.var 2) (.cons (.var 3) .nil))))) (.cons (.ite (.bo .Or (.cons (.not (.call "_law_so" (.cons (.callk "is_letter" (.cons (.var 5) .nil)) (.cons (.cb true) .nil)))) (.cons (.not (.call "_law_so" (.cons (.call "_law_tupled" (.cons (.var 5) .nil)) (.cons (.var 3) .nil)))) .nil))) (.cons (.ret (.cb false)) .nil) .nil) (.cons (.loop (.n 6) (.rng (.cons (.ci 6) .nil)) (.cons (.set 7 (.call "_law_changed_part" (.cons (.var 1) (.cons (.var 2) (.cons (.var 3) .nil))))) (.cons (.ite (.not (.call "_law_so" (.cons (.call "is_letter" (.cons (.call "_law_handed" (.cons (.var 1) (.cons (.var 2) (.cons (.var 7) .nil)))) .nil)) (.cons (.call "_law_is_letter" (.cons (.var 7) .nil)) .nil)))) (.cons (.ret (.cb false)) .nil) .nil) (.cons (.ite (.bo .And (.cons (.not (.call "_law_is_letter" (.cons (.var 7) .nil))) (.cons (.not (.call "_law_so" (.cons (.call "_law_told" (.cons (.call "_law_handed" (.cons (.var 1) (.cons (.var 2) (.cons (.var 7) .nil)))) .nil)) (.cons (.tup (.cons (.cs "bad") (.cons (.ci 0) .nil))) .nil)))) .nil))) (.cons (.ret (.cb false)) .nil) .nil) (.cons (.set 8 (.call "_law_changed_part" (.cons (.var 1) (.cons (.var 2) (.cons (.sub (.var 4) (.ci 0)) .nil))))) (.cons (.ite (.not (.call "_law_so" (.cons (.call "is_drawing" (.cons (.call "_law_handed" (.cons (.var 1) (.cons (.var 2) (.cons (.var 3) .nil)))) (.cons (.call "_law_handed" (.cons (.var 1) (.cons (.var 2) (.cons (.var 8) .nil)))) .nil))) (.cons (.call "_law_is_drawing" (.cons (.var 3) (.cons (.var 8) .nil))) .nil)))) (.cons (.ret (.cb false)) .nil) .nil) .nil)))))) (.cons (.loop (.n 9) (.seq (.tup (.cons (.tup (.cons (.ci 3) (.cons (.ci 3) (.cons (.ci 4) .nil)))) (.cons (.tup (.cons (.ci 3) (.cons (.ci 4) (.cons (.ci 4) .nil)))) (.cons (.tup (.cons (.ci 8) .nil)) (.cons (.tup (.cons (.ci 9) .nil)) (.cons (.tup (.cons (.ci 2) .nil)) (.cons (.tup (.cons (.ci 3) (.cons (.ci 7) .nil))) (.cons (.tup (.cons (.ci 4) (.cons (.ci 7) .nil))) (.cons (.tup (.cons (.ci 3) (.cons (.ci 3) (.cons (.ci 3) (.cons (.ci 3) .nil))))) (.cons (.tup .nil) (.cons (.tup (.cons (.ci 10) .nil)) (.cons (.tup (.cons (.ci 5) (.cons (.ci 5) .nil))) (.cons (.tup (.cons (.ci 3) (.cons (.ci 3) (.cons (.ci 3) .nil)))) .nil)))))))))))))) (.cons (.set 10 (.bf .tuple (.cons (.comp 0 (.n 11) (.seq (.var 9)) .none (.slice (.tup (.cons (.cs "any") (.cons (.cs "left") (.cons (.cs "right") (.cons (.cs "straight") (.cons (.cs "any") (.cons (.cs "any") (.cons (.cs "any") (.cons (.cs "any") (.cons (.cs "any") (.cons (.cs "any") .nil))))))))))) .none (.some (.var 11)))) .nil))) (.cons (.ite (.not (.call "_law_so" (.cons (.call "is_letter" (.cons (.call "_law_handed" (.cons (.var 1) (.cons (.var 2) (.cons (.var 10) .nil)))) .nil)) (.cons (.call "_law_is_letter" (.cons (.var 10) .nil)) .nil)))) (.cons (.ret (.cb false)) .nil) .nil) .nil))) (.cons (.ret (.cb true)) .nil))))))))⟩
end Cm

set_option Elab.async false
set_option maxRecDepth 100000
set_option maxHeartbeats 4000000
/-! Pm1: the numbers that a law draws. -/
namespace Pc
open PySem PySem.Spec PyProof.Rows L2
theorem atI_map {α β : Type} {f : α → β} {xs : List α} {i : Int} (h0 : 0 ≤ i) (h : i < xs.length) : atI (xs.map f) i = some (f (xs[i.toNat]'(by omega))) := by
  rw [atI_pos h0, List.getElem?_map, List.getElem?_eq_getElem (by omega)]
  rfl
theorem optW_iff {α : Type} {o : Option α} {a : α} {P : α → Prop} (h : o = some a) : optW o P ↔ P a := by rw [h]; rfl
@[simp] theorem mo1 {i : Int} : mulOk i 40692 = true := mulOk_c (by decide)
@[simp] theorem mo2 {i : Int} : mulOk i 7919 = true := mulOk_c (by decide)
@[simp] theorem mo3 {i : Int} : mulOk i 48271 = true := mulOk_c (by decide)
@[simp] theorem mo4 {i : Int} : mulOk i 69621 = true := mulOk_c (by decide)
@[simp] theorem mo5 {i : Int} : mulOk i 16807 = true := mulOk_c (by decide)
@[simp] theorem lg2 : Nat.log2 2 < 9000 := by decide
@[simp] theorem lg4 : Nat.log2 4 < 9000 := by decide
@[simp] theorem lg997 : Nat.log2 997 < 9000 := by decide +kernel
section
variable {T : Tab} {con : Str → Option D} {rf : Str → Option Str}
theorem draw_ok (hT : T "_law_draw" = some Cm.d__law_draw) {k : Nat} {ns : List Int} {at_ lim : Int} {cs : Cells} (hn : ns ≠ []) (h0 : 0 ≤ at_) (hl : 0 < lim) :
    (callK T con rf (k + 1) "_law_draw" [.lst (ns.map .int), .int at_, .int lim] cs).W (fun d c => c = cs ∧ ∃ v, d = .int v ∧ 0 ≤ v ∧ v < lim) noE := by
  have hp : 0 < ns.length := List.length_pos_iff.mpr hn
  rw [w_callK hT]
  simp [Cm.d__law_draw]
  refine ⟨fun h => ?_, fun h => ?_⟩
  · rw [atI_map h0 h]
    simp [hl, Int.emod_nonneg _ (show lim ≠ 0 by omega), Int.emod_lt_of_pos _ hl]
  · refine ⟨hp, ?_⟩
    rw [atI_map (Int.emod_nonneg _ (by omega)) (Int.emod_lt_of_pos _ (by omega))]
    simp [hl, Int.emod_nonneg _ (show lim ≠ 0 by omega), Int.emod_lt_of_pos _ hl]
theorem take_ok (hD : T "_law_draw" = some Cm.d__law_draw) (hT : T "_law_take" = some Cm.d__law_take) {k : Nat} {ns : List Int} {n lim : Int} (hn : ns ≠ []) (h0 : 0 ≤ n) (hl : 0 < lim) :
    (callK T con rf (k + 2) "_law_take" [.lst (ns.map .int), .cell 0, .int lim] [[.int n]]).W (fun d c => c = [[.int (n + 1)]] ∧ ∃ v, d = .int v ∧ 0 ≤ v ∧ v < lim) noE := by
  rw [w_callK hT]
  simp [Cm.d__law_take, atI, ixN]
  refine (draw_ok hD hn (by omega) hl).mono ?_ ?_
  · rintro d c ⟨rfl, h⟩
    exact ⟨rfl, h⟩
  · exact fun _ _ _ z => z.elim
end
end Pc

set_option Elab.async false
set_option maxRecDepth 100000
set_option maxHeartbeats 4000000
/-! Pm2: letters and drawings that a law draws. -/
namespace Pc
open PySem PySem.Spec PyProof.Rows L2
abbrev Pt := Int × Int
def eP (p : Pt) : D := .tup [.int p.1, .int p.2]
def eR (r : List Pt) : D := .tup (r.map eP)
def eDr (d : List (List Pt)) : D := .tup (d.map eR)
def eM (r : List Str) : D := .tup (r.map .str)
def eL (l : List (List Str)) : D := .tup (l.map eM)
/-- a number from -99 to 99 -/
def In99 (i : Int) : Prop := -99 ≤ i ∧ i ≤ 99
def InP (p : Pt) : Prop := In99 p.1 ∧ In99 p.2
def anyS : Str := "any"
def leftS : Str := "left"
def rightS : Str := "right"
def straightS : Str := "straight"
def manners : List Str := [anyS, leftS, rightS, straightS]
/-- a letter -/
structure Lt (l : List (List Str)) : Prop where
  n1 : 1 ≤ l.length
  n3 : l.length ≤ 3
  r : ∀ r ∈ l, 3 ≤ r.length ∧ r.length ≤ 8 ∧ ∀ m ∈ r, m ∈ manners
  sum : (l.map List.length).sum ≤ 10
/-- a drawing with such counts -/
def Shp (ls : List Nat) (d : List (List Pt)) : Prop := d.map List.length = ls
structure Dr (l : List (List Str)) (d : List (List Pt)) : Prop where
  s : d.map List.length = l.map List.length
  p : ∀ r ∈ d, ∀ p ∈ r, InP p
/-- the cells while a law draws -/
def St (cs : Cells) : Prop := ∃ n : Int, 0 ≤ n ∧ cs = [[.int n]]
theorem St.atom {cs : Cells} (h : St cs) : atomC cs = true := by obtain ⟨n, _, rfl⟩ := h; rfl
/-- the words of a text hold the common ones -/
structure Has (T : Tab) : Prop where
  numbers : T "_law_numbers" = some Cm.d__law_numbers
  draw : T "_law_draw" = some Cm.d__law_draw
  take : T "_law_take" = some Cm.d__law_take
  pick : T "_law_pick" = some Cm.d__law_pick
  corners : T "_law_corners" = some Cm.d__law_corners
  next : T "_law_next" = some Cm.d__law_next
  before : T "_law_before" = some Cm.d__law_before
  at_ : T "_law_at" = some Cm.d__law_at
  letter : T "_law_letter" = some Cm.d__law_letter
  ways : T "_law_ways" = some Cm.d__law_ways
  ring_places : T "_law_ring_places" = some Cm.d__law_ring_places
  clip : T "_law_clip" = some Cm.d__law_clip
  drawing : T "_law_drawing" = some Cm.d__law_drawing
  varied : T "_law_varied" = some Cm.d__law_varied
  masters : T "_law_masters" = some Cm.d__law_masters
  fourth : T "_law_fourth" = some Cm.d__law_fourth
  straightened : T "_law_straightened" = some Cm.d__law_straightened
  turned_ring : T "_law_turned_ring" = some Cm.d__law_turned_ring
  turned_drawing : T "_law_turned_drawing" = some Cm.d__law_turned_drawing
  turned_letter : T "_law_turned_letter" = some Cm.d__law_turned_letter
  scene : T "_law_scene" = some Cm.d__law_scene
  fitted : ∃ N : List Str, N.length = 13 ∧ T "_law_fitted" = some ⟨Cm.d__law_fitted.ps, N, Cm.d__law_fitted.body⟩
section
variable {T : Tab} {con : Str → Option D} {rf : Str → Option Str} {k : Nat} {ns : List Int} {cs : Cells}
theorem take_st (h : Has T) {lim : Int} (hn : ns ≠ []) (hs : St cs) (hl : 0 < lim) {Q : D → Cells → Prop} {E : EK} (q : ∀ v c, 0 ≤ v → v < lim → St c → Q (.int v) c) :
    (callK T con rf (k + 2) "_law_take" [.lst (ns.map .int), .cell 0, .int lim] cs).W Q E := by
  obtain ⟨n, h0, rfl⟩ := hs
  refine (take_ok h.draw h.take hn h0 hl).to fun d c ⟨hc, v, hd, h1, h2⟩ => ?_
  subst hd
  exact q v c h1 h2 ⟨n + 1, by omega, hc⟩
def wayL : List Pt := [(8, 0), (7, 4), (4, 7), (0, 8), (-4, 7), (-7, 4), (-8, 0), (-7, -4), (-4, -7), (0, -8), (4, -7), (7, -4)]
theorem ways_eq (h : Has T) : callK T con rf (k + 1) "_law_ways" [] cs = .ok (.lst (wayL.map eP)) cs := by
  refine Rs.W.eq ?_
  rw [w_callK h.ways]
  simp [Cm.d__law_ways, wayL, eP]
theorem clip_ok (h : Has T) {x y : Int} : callK T con rf (k + 1) "_law_clip" [.tup [.int x, .int y]] cs = .ok (eP (max (-99) (min 99 x), max (-99) (min 99 y))) cs := by
  refine Rs.W.eq ?_
  rw [w_callK h.clip]
  simp [Cm.d__law_clip, eP, atI, ixN]
theorem clip_in (x y : Int) : InP (max (-99) (min 99 x), max (-99) (min 99 y)) := by
  unfold InP In99
  simp only
  omega
theorem fourth_ok (h : Has T) {x : Int} : callK T con rf (k + 1) "_law_fourth" [.int x] cs = .ok (.int (max (-96) (x / 4 * 4))) cs := by
  refine Rs.W.eq ?_
  rw [w_callK h.fourth]
  simp [Cm.d__law_fourth, mulOk_c (show (4 : Int).natAbs < 2 ^ 63 by decide)]
theorem pick_atI {α : Type} (f : α → D) (xs : List α) {v : Int} {P : D → Prop} (h0 : 0 ≤ v) (h : v < xs.length) (p : ∀ x ∈ xs, P (f x)) : optW (atI (xs.map f) v) P := by
  rw [atI_map h0 h]
  exact p _ (List.getElem_mem _)
theorem letter_ok (h : Has T) (hn : ns ≠ []) (hs : St cs) : (callK T con rf (k + 3) "_law_letter" [.lst (ns.map .int), .cell 0] cs).W (fun d c => St c ∧ ∃ l, d = eL l ∧ Lt l) noE := by
  rw [w_callK h.letter]
  simp [Cm.d__law_letter]
  refine take_st h hn hs (by decide) fun v c h0 h5 hs => ?_
  simp
  refine ⟨hs.atom, rb (by omega) (by omega), ?_⟩
  refine for_rng (fun i env cs => ∃ (l : List (List Str)) (s5 s6 s7 s8 s9 : Slot), env = [.sh (.lst (ns.map .int)), .sh (.cell 0), .sh (.int (1 + v / 2)), .ow 0 (.lst (l.map eM)), .sh (.int (10 - (l.map List.length).sum)), s5, s6, s7, s8, s9] ∧ St cs ∧ l.length = i ∧
    (∀ r ∈ l, 3 ≤ r.length ∧ r.length ≤ 8 ∧ ∀ m ∈ r, m ∈ manners) ∧ (3 : Int) * (1 + v / 2 - i) ≤ 10 - (l.map List.length).sum) ?_ ?_ ?_
  · exact ⟨[], _, _, _, _, _, rfl, hs, rfl, by simp, by simp; omega⟩
  · rintro i hi env cs ⟨l, s5, s6, s7, s8, s9, rfl, hs, hl, hr, hb⟩
    refine ⟨_, rfl, ?_⟩
    simp [mulOk_c' (show (3 : Int).natAbs < 2 ^ 63 by decide)]
    refine take_st h hn hs (by omega) fun u c hu0 hu hs => ?_
    simp
    refine ⟨hs.atom, rb (by omega) (by omega), ?_⟩
    refine for_rng (fun j env cs => ∃ (ms : List Str) (s9 : Slot), env = [.sh (.lst (ns.map .int)), .sh (.cell 0), .sh (.int (1 + v / 2)), .ow 0 (.lst (l.map eM)), .sh (.int (10 - (l.map List.length).sum - (3 + u))), .sh (.int i), .sh (.int (min 8 (10 - (l.map List.length).sum - 3 * (1 + v / 2 - 1 - i)))), .sh (.int (3 + u)), .ow 0 (.lst (ms.map .str)), s9] ∧ St cs ∧ ms.length = j ∧ ∀ m ∈ ms, m ∈ manners) ?_ ?_ ?_
    · exact ⟨[], s9, by simp, hs, rfl, by simp⟩
    · rintro j hj env cs ⟨ms, s9, rfl, hs, hm, hm2⟩
      refine ⟨_, rfl, ?_⟩
      simp
      refine take_st h hn hs (by decide) fun w c hw0 hw hs => ?_
      simp
      refine pick_atI D.str [anyS, anyS, leftS, rightS, straightS] hw0 hw fun m hmm => ?_
      refine ⟨by omega, ms ++ [m], by simp, hs, by simp [hm], ?_⟩
      · intro m' hm'
        rcases List.mem_append.mp hm' with q | q
        · exact hm2 _ q
        · simp at q
          subst q
          simp [manners] at hmm ⊢
          rcases hmm with q | q | q | q <;> simp [q]
    · rintro env cs ⟨ms, s9, rfl, hs, hm, hm2⟩
      simp
      have hm' : ms.length = 3 + u.toNat := by omega
      refine ⟨by omega, l ++ [ms], ?_, hs, by simp [hl], ?_, ?_⟩
      · simp [eM, hm']
        omega
      · intro r hr'
        rcases List.mem_append.mp hr' with q | q
        · exact hr r q
        · simp at q
          subst q
          exact ⟨by omega, by omega, hm2⟩
      · simp [hm']
        omega
  · rintro env cs ⟨l, s5, s6, s7, s8, s9, rfl, hs, hl, hr, hb⟩
    simp
    exact ⟨hs, l, rfl, by omega, by omega, hr, by omega⟩
end
end Pc

set_option Elab.async false
set_option maxRecDepth 100000
set_option maxHeartbeats 4000000
/-! Pm3: drawings that a law draws. -/
namespace Pc
open PySem PySem.Spec PyProof.Rows L2
theorem lg_small {n : Nat} (h : n < 2 ^ 100) : Nat.log2 n < 9000 := by
  by_cases h0 : n = 0
  · subst h0; decide
  · exact Nat.lt_trans ((Nat.log2_lt h0).mpr h) (by decide)
@[simp] theorem atI_0 {α : Type} {x : α} {xs : List α} : atI (x :: xs) 0 = some x := by simp [atI, ixN]
@[simp] theorem atI_1 {α : Type} {x y : α} {xs : List α} : atI (x :: y :: xs) 1 = some y := by
  have : ((1 : Nat) : Int) = 1 := rfl
  rw [← this, atI_nat]
  rfl
@[simp] theorem atI_n {α : Type} {xs : List α} {n : Nat} : atI xs (n : Int) = xs[n]? := atI_nat
@[simp] theorem seqK_R {t : Tg} {r : List Pt} : seqK (t, eR r) = some (r.map eP) := rfl
@[simp] theorem seqK_Dr {t : Tg} {r : List (List Pt)} : seqK (t, eDr r) = some (r.map eR) := rfl
@[simp] theorem seqK_M {t : Tg} {r : List Str} : seqK (t, eM r) = some (r.map .str) := rfl
@[simp] theorem seqK_L {t : Tg} {r : List (List Str)} : seqK (t, eL r) = some (r.map eM) := rfl
@[simp] theorem len_R {t : Tg} {r : List Pt} : lenF [(t, eR r)] = some (.st, .int r.length) := by simp [eR]
@[simp] theorem len_Dr {t : Tg} {r : List (List Pt)} : lenF [(t, eDr r)] = some (.st, .int r.length) := by simp [eDr]
@[simp] theorem len_M {t : Tg} {r : List Str} : lenF [(t, eM r)] = some (.st, .int r.length) := by simp [eM]
@[simp] theorem len_L {t : Tg} {r : List (List Str)} : lenF [(t, eL r)] = some (.st, .int r.length) := by simp [eL]
@[simp] theorem sub_R {t t' : Tg} {cs : Cells} {r : List Pt} {i : Int} : subF cs (t, eR r) (t', .int i) = (atI (r.map eP) i).map fun d => (.st, d) := rfl
@[simp] theorem sub_Dr {t t' : Tg} {cs : Cells} {r : List (List Pt)} {i : Int} : subF cs (t, eDr r) (t', .int i) = (atI (r.map eR) i).map fun d => (.st, d) := rfl
@[simp] theorem sub_M {t t' : Tg} {cs : Cells} {r : List Str} {i : Int} : subF cs (t, eM r) (t', .int i) = (atI (r.map .str) i).map fun d => (.st, d) := rfl
@[simp] theorem sub_L {t t' : Tg} {cs : Cells} {r : List (List Str)} {i : Int} : subF cs (t, eL r) (t', .int i) = (atI (r.map eM) i).map fun d => (.st, d) := rfl
@[simp] theorem sub_P0 {t t' : Tg} {cs : Cells} {p : Pt} : subF cs (t, eP p) (t', .int 0) = some (.st, .int p.1) := by simp [eP]
@[simp] theorem sub_P1 {t t' : Tg} {cs : Cells} {p : Pt} : subF cs (t, eP p) (t', .int 1) = some (.st, .int p.2) := by simp [eP]
section
variable {T : Tab} {con : Str → Option D} {rf : Str → Option Str} {k : Nat} {ns : List Int} {cs : Cells}
theorem wayL_b : ∀ p ∈ wayL, p.1.natAbs < 100 ∧ p.2.natAbs < 100 := by decide
theorem mulOk_s {i j : Int} (h : i.natAbs < 100) : mulOk i j = true := mulOk_c' (by omega)
theorem at_ok (h : Has T) {d : List (List Pt)} {i j : Nat} {r : List Pt} {p : Pt} (hr : d[i]? = some r) (hp : r[j]? = some p) :
    callK T con rf (k + 1) "_law_at" [eDr d, .tup [.int i, .int j]] cs = .ok (eP p) cs := by
  refine Rs.W.eq ?_
  rw [w_callK h.at_]
  simp [Cm.d__law_at, hr, hp]
theorem next_ok (h : Has T) {l : List (List Str)} {i j : Nat} {r : List Str} (hr : l[i]? = some r) (h0 : 0 < r.length) :
    callK T con rf (k + 1) "_law_next" [eL l, .tup [.int i, .int j]] cs = .ok (.tup [.int i, .int ((j + 1) % r.length : Nat)]) cs := by
  refine Rs.W.eq ?_
  rw [w_callK h.next]
  simp [Cm.d__law_next, hr, h0]
theorem before_ok (h : Has T) {l : List (List Str)} {i j : Nat} {r : List Str} (hr : l[i]? = some r) (hj : j < r.length) :
    callK T con rf (k + 1) "_law_before" [eL l, .tup [.int i, .int j]] cs = .ok (.tup [.int i, .int ((j + r.length - 1) % r.length : Nat)]) cs := by
  refine Rs.W.eq ?_
  rw [w_callK h.before]
  simp [Cm.d__law_before, hr]
  refine ⟨by omega, ?_⟩
  have : ((j : Int) - 1) % r.length = ((j : Int) - 1 + r.length) % r.length := by simp
  rw [this]
  congr 1
  omega
@[simp] theorem mk12 {j : Int} : mulOk 12 j = true := mulOk_s (by decide)
@[simp] theorem mk60 {j : Int} : mulOk 60 j = true := mulOk_s (by decide)
@[simp] theorem mk2 {j : Int} : mulOk 2 j = true := mulOk_s (by decide)
@[simp] theorem mk80 {j : Int} : mulOk 80 j = true := mulOk_s (by decide)
@[simp] theorem mk3 {j : Int} : mulOk 3 j = true := mulOk_s (by decide)
@[simp] theorem mkr4 {j : Int} : mulOk j 4 = true := mulOk_c (by decide)
theorem snocP {ps : List Pt} {x y : Int} : ps.map eP ++ [.tup [.int x, .int y]] = (ps ++ [(x, y)]).map eP := by simp [eP]
theorem snocE {α : Type} {f : α → D} {ps : List α} {x : α} : ps.map f ++ [f x] = (ps ++ [x]).map f := by simp
theorem ring_places_ok (h : Has T) (hn : ns ≠ []) (hs : St cs) {m : Nat} {p : Pt} {sz : Int} (hm : 0 < m) (hm2 : m ≤ 1000) (hz : 0 < sz) :
    (callK T con rf (k + 3) "_law_ring_places" [.lst (ns.map .int), .cell 0, .int m, eP p, .int sz] cs).W (fun d c => St c ∧ ∃ ps : List Pt, d = .lst (ps.map eP) ∧ ps.length = m) noE := by
  rw [w_callK h.ring_places]
  simp [Cm.d__law_ring_places, upTo_len]
  refine ⟨rb (by omega) (by omega), by omega, ?_⟩
  refine comp_rng_st D.int (fun _ _ => True) St hs ?_ ?_
  · intro i hi cs hs
    refine ⟨_, rfl, ?_⟩
    simp
    refine take_st h hn hs (by decide) fun v c h0 h5 hs => ?_
    simp [hs]
  intro ys c hys hs
  have hl : ys.length = m := by have := hys.length; simpa using this.symm
  simp [intsOf_map, hs.atom]
  refine ⟨rb (by omega) (by omega), ?_⟩
  refine for_rng (fun i env cs => ∃ (ps : List Pt) (s7 s8 s9 : Slot), env = [.sh (.lst (ns.map .int)), .sh (.cell 0), .sh (.int m), .sh (eP p), .sh (.int sz), .sh (.lst ((ys.mergeSort fun a b => decide (a ≤ b)).map .int)), .ow 0 (.lst (ps.map eP)), s7, s8, s9] ∧ St cs ∧ ps.length = i) ?_ ?_ ?_
  · exact ⟨[], _, _, _, rfl, hs, rfl⟩
  · rintro i hi env cs ⟨ps, s7, s8, s9, rfl, hs, hp⟩
    refine ⟨_, rfl, ?_⟩
    simp
    refine take_st h hn hs (by decide) fun v c h0 h5 hs => ?_
    have hi' : i < (ys.mergeSort fun a b => decide (a ≤ b)).length := by simp; omega
    simp [ways_eq h, lg_small (show m < 2 ^ 100 by omega), List.getElem?_eq_getElem hi', hm]
    refine ⟨fun _ => ?_, fun _ => ?_⟩
    all_goals
      refine pick_atI eP wayL (Int.emod_nonneg _ (by decide)) (Int.emod_lt_of_pos _ (by decide)) fun q hq => ?_
      obtain ⟨hq1, hq2⟩ := wayL_b q hq
      simp
      refine take_st h hn hs hz fun u c hu0 hu hs => ?_
      simp [mulOk_s hq1, mulOk_s hq2]
      exact ⟨by omega, _, snocP, hs, by simp [hp]⟩
  · rintro env cs ⟨ps, s7, s8, s9, rfl, hs, hp⟩
    simp
    exact ⟨hs, ps, rfl, hp⟩
theorem drawing_ok (h : Has T) (hn : ns ≠ []) (hs : St cs) {l : List (List Str)} (hl : Lt l) : (callK T con rf (k + 4) "_law_drawing" [.lst (ns.map .int), .cell 0, eL l] cs).W (fun d c => St c ∧ ∃ dr, d = eDr dr ∧ Dr l dr) noE := by
  rw [w_callK h.drawing]
  simp [Cm.d__law_drawing]
  refine ⟨hs.atom, ?_⟩
  refine take_st h hn hs (by decide) fun kind c h0 h4 hs => ?_
  have l3 := hl.n3
  refine ⟨rb (by omega) (by omega), ?_⟩
  obtain ⟨J, hJ⟩ : ∃ J : Nat → List Slot → Cells → Prop, J = (fun i env cs => ∃ (d : List (List Pt)) (s5 s6 s7 s8 s9 s10 s11 s12 : Slot), env = [.sh (.lst (ns.map .int)), .sh (.cell 0), .sh (eL l), .ow 0 (.lst (d.map eR)), .sh (.int kind), s5, s6, s7, s8, s9, s10, s11, s12, .emp] ∧ St cs ∧ d.map List.length = (l.take i).map List.length ∧ ∀ r ∈ d, ∀ p ∈ r, InP p) := ⟨_, rfl⟩
  refine for_rng J ?_ ?_ ?_
  · rw [hJ]
    exact ⟨[], _, _, _, _, _, _, _, _, rfl, hs, by simp, by simp⟩
  · intro i hi env cs hh
    rw [hJ] at hh
    obtain ⟨d, s5, s6, s7, s8, s9, s10, s11, s12, rfl, hs, hd, hp⟩ := hh
    refine ⟨_, rfl, ?_⟩
    have hi : i < l.length := by omega
    obtain ⟨r3, r8, rm⟩ := hl.r l[i] (List.getElem_mem hi)
    have hdl : d.length = i := by have := congrArg List.length hd; simp at this; omega
    have fin : ∀ {ps : List Pt} {s5 s6 s7 s8 s9 s10 s11 s12 : Slot} {c : Cells}, ps.length = l[i].length → St c → J (i + 1) [.sh (.lst (ns.map .int)), .sh (.cell 0), .sh (eL l), .ow 0 (.lst (d.map eR ++ [.tup (ps.map fun p : Pt => eP (max (-99) (min 99 p.1), max (-99) (min 99 p.2)))])), .sh (.int kind), s5, s6, s7, s8, s9, s10, s11, s12, .emp] c := by
      intro ps s5 s6 s7 s8 s9 s10 s11 s12 c hps hs
      rw [hJ]
      refine ⟨d ++ [ps.map fun p : Pt => (max (-99) (min 99 p.1), max (-99) (min 99 p.2))], s5, s6, s7, s8, s9, s10, s11, s12, by simp [eR], hs, ?_, ?_⟩
      · rw [List.take_succ_eq_append_getElem hi]
        simp only [List.map_append, hd, List.map_cons, List.map_nil, List.length_map, hps]
      · intro r hr p hpp
        rcases List.mem_append.mp hr with q | q
        · exact hp r q p hpp
        · simp at q
          subst q
          obtain ⟨p', _, rfl⟩ := List.mem_map.mp hpp
          exact clip_in _ _
    simp [List.getElem?_eq_getElem hi]
    refine take_st h hn hs (by decide) fun a c ha0 ha hs => ?_
    simp
    refine take_st h hn hs (by decide) fun b c hb0 hb hs => ?_
    simp
    refine pick_atI eP [(0, 0), (60 * (i : Int) - 50, 0), (0, 0), (a - 20, b - 20)] h0 h4 fun mid _ => ?_
    refine ⟨fun h3 => ?_, fun _ => ?_⟩
    · refine pick_atI .int [16, 6, 16] h0 h3 fun w _ => ?_
      have lg : Nat.log2 (1 + 2 * (i : Int)).natAbs < 9000 := lg_small (by omega)
      obtain ⟨J2, hJ2⟩ : ∃ J : Nat → List Slot → Cells → Prop, J = (fun j env cs => ∃ (ps : List Pt) (sz : Int) (s10 s11 s12 : Slot), env = [.sh (.lst (ns.map .int)), .sh (.cell 0), .sh (eL l), .ow 0 (.lst (d.map eR)), .sh (.int kind), .sh (.int i), .sh (.int l[i].length), .sh (eP mid), .sh (.int sz), .ow 0 (.lst (ps.map eP)), s10, s11, s12, .emp] ∧ St cs ∧ ps.length = j) := ⟨_, rfl⟩
      simp [lg]
      have l1 : Nat.log2 1 < 9000 := by decide
      refine ⟨fun _ => ⟨by omega, ?_⟩, fun _ => ⟨l1, ?_⟩⟩
      all_goals
        refine ⟨hs.atom, rb (by omega) (by omega), ?_⟩
        refine for_rng J2 ?_ ?_ ?_
        · rw [hJ2]
          exact ⟨[], _, _, _, _, rfl, hs, rfl⟩
        · intro j hj env cs hh
          rw [hJ2] at hh
          obtain ⟨ps, sz, s10, s11, s12, rfl, hs, hps⟩ := hh
          refine ⟨_, rfl, ?_⟩
          simp [ways_eq h, lg_small (show l[i].length < 2 ^ 100 by omega)]
          refine ⟨by omega, ?_⟩
          refine pick_atI eP wayL (Int.emod_nonneg _ (by decide)) (Int.emod_lt_of_pos _ (by decide)) fun q hq => ?_
          obtain ⟨hq1, hq2⟩ := wayL_b q hq
          simp
          refine take_st h hn hs (by decide) fun u c hu0 hu hs => ?_
          simp [mulOk_s hq1, mulOk_s hq2]
          refine ⟨by omega, ?_⟩
          rw [snocP, hJ2]
          exact ⟨_, _, _, _, _, rfl, hs, by simp [hps]⟩
        · intro env cs hh
          rw [hJ2] at hh
          obtain ⟨ps, sz, s10, s11, s12, rfl, hs, hps⟩ := hh
          simp
          refine ⟨by omega, ?_⟩
          refine comp_map (fun p : Pt => eP (max (-99) (min 99 p.1), max (-99) (min 99 p.2))) (fun p hp => ⟨_, rfl, ?_⟩) ?_
          · simp [eP, clip_ok h]
          · simp
            refine ⟨?_, fin hps hs⟩
            omega
    · refine (ring_places_ok h hn hs (by omega) (by omega) (by decide)).to ?_
      rintro d' c ⟨hs, ps, rfl, hps⟩
      simp
      refine ⟨by omega, ?_⟩
      refine comp_map (fun p : Pt => eP (max (-99) (min 99 p.1), max (-99) (min 99 p.2))) (fun p hp => ⟨_, rfl, ?_⟩) ?_
      · simp [eP, clip_ok h]
      · simp
        refine ⟨?_, fin hps hs⟩
        omega
  · intro env cs hh
    rw [hJ] at hh
    obtain ⟨d, s5, s6, s7, s8, s9, s10, s11, s12, rfl, hs, hd, hp⟩ := hh
    simp
    refine ⟨hs, d, rfl, ?_, hp⟩
    simpa using hd
end
end Pc

set_option Elab.async false
set_option maxRecDepth 100000
set_option maxHeartbeats 4000000
/-! Pm4: corners, and the drawings that are varied. -/
namespace Pc
open PySem PySem.Spec PyProof.Rows L2
section
variable {T : Tab} {con : Str → Option D} {rf : Str → Option Str} {k : Nat} {ns : List Int} {cs : Cells}
def eC (c : Nat × Nat) : D := .tup [.int c.1, .int c.2]
@[simp] theorem sub_C0 {t t' : Tg} {c : Nat × Nat} : subF cs (t, eC c) (t', .int 0) = some (.st, .int c.1) := by simp [eC]
@[simp] theorem sub_C1 {t t' : Tg} {c : Nat × Nat} : subF cs (t, eC c) (t', .int 1) = some (.st, .int c.2) := by simp [eC]
/-- the corners of a letter's first rings, in their order -/
def cnTo (l : List (List Str)) (n : Nat) : List (Nat × Nat) := ((List.range n).map fun i => (List.range (l[i]?.getD []).length).map fun j => (i, j)).flatten
theorem cnTo_succ {l : List (List Str)} {n : Nat} (h : n < l.length) : cnTo l (n + 1) = cnTo l n ++ (List.range l[n].length).map fun j => (n, j) := by
  unfold cnTo
  rw [List.range_succ, List.map_append, List.flatten_append]
  simp [List.getElem?_eq_getElem h]
def cnL (l : List (List Str)) : List (Nat × Nat) := cnTo l l.length
theorem cnL_mem {l : List (List Str)} {c : Nat × Nat} : c ∈ cnL l ↔ ∃ r, l[c.1]? = some r ∧ c.2 < r.length := by
  unfold cnL cnTo
  simp only [List.mem_flatten, List.mem_map, List.mem_range]
  constructor
  · rintro ⟨_, ⟨i, hi, rfl⟩, hc⟩
    obtain ⟨j, hj, rfl⟩ := List.mem_map.mp hc
    refine ⟨l[i], by simp [hi], ?_⟩
    simpa [List.getElem?_eq_getElem hi] using hj
  · rintro ⟨r, hr, hc⟩
    refine ⟨_, ⟨c.1, (List.getElem?_eq_some_iff.mp hr).1, rfl⟩, List.mem_map.mpr ⟨c.2, ?_, rfl⟩⟩
    simpa [hr] using hc
theorem corners_ok (h : Has T) {l : List (List Str)} (hl : Lt l) : callK T con rf (k + 1) "_law_corners" [eL l] cs = .ok (.lst ((cnL l).map eC)) cs := by
  refine Rs.W.eq ?_
  rw [w_callK h.corners]
  have l3 := hl.n3
  simp [Cm.d__law_corners]
  refine ⟨rb (by omega) (by omega), ?_⟩
  obtain ⟨J, hJ⟩ : ∃ J : Nat → List Slot → Cells → Prop, J = (fun i env c => ∃ (s2 : Slot), env = [.sh (eL l), .sh (.lst ((cnTo l i).map eC)), s2, .emp] ∧ c = cs ∧ (cnTo l i).length ≤ 8 * i) := ⟨_, rfl⟩
  refine for_rng J ?_ ?_ ?_
  · rw [hJ]
    exact ⟨_, rfl, rfl, by simp [cnTo]⟩
  · intro i hi env c hh
    rw [hJ] at hh
    obtain ⟨s2, rfl, rfl, hlen⟩ := hh
    refine ⟨_, rfl, ?_⟩
    have hi : i < l.length := by omega
    obtain ⟨r3, r8, _⟩ := hl.r l[i] (List.getElem_mem hi)
    simp [upTo_len, List.getElem?_eq_getElem hi]
    refine ⟨rb (by omega) (by omega), by omega, ?_⟩
    rw [upTo_eq]
    refine comp_map (fun j => eC (i, j)) (fun j hj => ⟨_, rfl, ?_⟩) ?_
    · simp [eC]
    · simp
      refine ⟨by omega, ?_⟩
      rw [hJ]
      refine ⟨.sh (.int i), ?_, rfl, ?_⟩
      rotate_left
      · rw [cnTo_succ hi]
        simp
        omega
      · rw [cnTo_succ hi]
        simp [Function.comp_def]
  · intro env c hh
    rw [hJ] at hh
    obtain ⟨s2, rfl, rfl, hlen⟩ := hh
    simp [cnL]
theorem pick_ok (h : Has T) (hn : ns ≠ []) (hs : St cs) {α : Type} {f : α → D} {xs : List α} (hx : xs ≠ []) : (callK T con rf (k + 3) "_law_pick" [.lst (ns.map .int), .cell 0, .lst (xs.map f)] cs).W (fun d c => St c ∧ ∃ x ∈ xs, d = f x) noE := by
  have hp : 0 < xs.length := List.length_pos_iff.mpr hx
  rw [w_callK h.pick]
  simp [Cm.d__law_pick]
  refine take_st h hn hs (by omega) fun v c h0 h1 hs => ?_
  simp
  refine pick_atI f xs h0 h1 fun x hx => ?_
  simp [hs]
  exact ⟨x, hx, rfl⟩
theorem varied_ok (h : Has T) (hn : ns ≠ []) (hs : St cs) {l : List (List Str)} (hl : Lt l) {d0 : List (List Pt)} (hd0 : Dr l d0) : (callK T con rf (k + 3) "_law_varied" [.lst (ns.map .int), .cell 0, eDr d0] cs).W (fun d c => St c ∧ ∃ dr, d = eDr dr ∧ Dr l dr) noE := by
  have l3 := hl.n3
  have dl : d0.length = l.length := by have := congrArg List.length hd0.s; simpa using this
  rw [w_callK h.varied]
  simp [Cm.d__law_varied]
  refine ⟨hs.atom, ?_⟩
  refine take_st h hn hs (by decide) fun x c hx0 hx1 hs => ?_
  try simp
  refine take_st h hn hs (by decide) fun y c hy0 hy1 hs => ?_
  try simp
  refine take_st h hn hs (by decide) fun w c hw0 hw1 hs => ?_
  try simp
  refine pick_atI .int [1, 3, 9, 40] hw0 hw1 fun wd hwd => ?_
  have hwd : 1 ≤ wd := by simp at hwd; omega
  try simp
  refine take_st h hn hs (by decide) fun o c ho0 ho1 hs => ?_
  try simp
  obtain ⟨J, hJ⟩ : ∃ J : Nat → List Slot → Cells → Prop, J = (fun i env c => ∃ (d : List (List Pt)) (s7 s8 s9 s10 s11 : Slot), env = [.sh (.lst (ns.map .int)), .sh (.cell 0), .sh (eDr d0), .ow 0 (.lst (d.map eR)), .sh (.tup [.int (x - 4), .int (y - 4)]), .sh (.int wd), .sh (.int (1 + o)), s7, s8, s9, s10, s11] ∧ St c ∧ d.map List.length = (l.take i).map List.length ∧ ∀ r ∈ d, ∀ p ∈ r, InP p) := ⟨_, rfl⟩
  refine for_lst J ?_ ?_ ?_
  · rw [hJ]
    exact ⟨[], _, _, _, _, _, rfl, hs, by simp, by simp⟩
  · intro i hi env cs hh
    rw [hJ] at hh
    obtain ⟨d, s7, s8, s9, s10, s11, rfl, hs, hd, hp⟩ := hh
    refine ⟨_, rfl, ?_⟩
    have hil : i < l.length := by omega
    have hrl : d0[i].length = l[i].length := by
      have := congrArg (fun q => q[i]?) hd0.s
      simpa [List.getElem?_eq_getElem hi, List.getElem?_eq_getElem hil] using this
    obtain ⟨r3, r8, _⟩ := hl.r l[i] (List.getElem_mem hil)
    have hdl : d.length = i := by have := congrArg List.length hd; simp at this; omega
    simp [hs.atom]
    obtain ⟨J2, hJ2⟩ : ∃ J : Nat → List Slot → Cells → Prop, J = (fun j env c => ∃ (ps : List Pt) (s9 s10 s11 : Slot), env = [.sh (.lst (ns.map .int)), .sh (.cell 0), .sh (eDr d0), .ow 0 (.lst (d.map eR)), .sh (.tup [.int (x - 4), .int (y - 4)]), .sh (.int wd), .sh (.int (1 + o)), .sh (eR d0[i]), .ow 0 (.lst (ps.map eP)), s9, s10, s11] ∧ St c ∧ ps.length = j ∧ ∀ p ∈ ps, InP p) := ⟨_, rfl⟩
    refine for_lst J2 ?_ ?_ ?_
    · rw [hJ2]
      exact ⟨[], _, _, _, rfl, hs, rfl, by simp⟩
    · intro j hj env cs hh
      rw [hJ2] at hh
      obtain ⟨ps, s9, s10, s11, rfl, hs, hps, hin⟩ := hh
      refine ⟨_, rfl, ?_⟩
      try simp
      refine take_st h hn hs (by omega) fun t c ht0 ht1 hs => ?_
      try simp
      refine ⟨fun _ => ?_, fun _ => ?_⟩
      · refine take_st h hn hs (by omega) fun a c ha0 ha1 hs => ?_
        try simp
        refine take_st h hn hs (by omega) fun b c hb0 hb1 hs => ?_
        simp [clip_ok h]
        rw [snocE, hJ2]
        refine ⟨by omega, _, _, _, _, rfl, hs, by simp [hps], ?_⟩
        intro p hpp
        rcases List.mem_append.mp hpp with q | q
        · exact hin p q
        · simp at q
          subst q
          exact clip_in _ _
      · simp [clip_ok h]
        rw [snocE, hJ2]
        refine ⟨by omega, _, _, _, _, rfl, hs, by simp [hps], ?_⟩
        intro p hpp
        rcases List.mem_append.mp hpp with q | q
        · exact hin p q
        · simp at q
          subst q
          exact clip_in _ _
    · intro env cs hh
      rw [hJ2] at hh
      obtain ⟨ps, s9, s10, s11, rfl, hs, hps, hin⟩ := hh
      try simp
      refine ⟨by omega, ?_⟩
      rw [show (D.tup (ps.map eP)) = eR ps from rfl, snocE, hJ]
      refine ⟨d ++ [ps], _, _, _, _, _, rfl, hs, ?_, ?_⟩
      · rw [List.take_succ_eq_append_getElem hil]
        simp only [List.map_append, hd, List.map_cons, List.map_nil, hps, hrl]
      · intro r hr p hpp
        rcases List.mem_append.mp hr with q | q
        · exact hp r q p hpp
        · simp at q
          subst q
          exact hin p hpp
  · intro env cs hh
    rw [hJ] at hh
    obtain ⟨d, s7, s8, s9, s10, s11, rfl, hs, hd, hp⟩ := hh
    try simp
    refine ⟨hs, d, rfl, ?_, hp⟩
    rw [hd, dl, List.take_length]
end
end Pc

set_option Elab.async false
set_option maxRecDepth 100000
set_option maxHeartbeats 4000000
/-! Pm5: masters, and the rings that are turned. -/
namespace Pc
open PySem PySem.Spec PyProof.Rows L2
section
variable {T : Tab} {con : Str → Option D} {rf : Str → Option Str} {k : Nat} {ns : List Int} {cs : Cells}
/-- masters: drawings of a letter -/
structure Ms (l : List (List Str)) (most : Int) (ms : List (List (List Pt))) : Prop where
  n1 : 1 ≤ ms.length
  n2 : (ms.length : Int) ≤ most
  d : ∀ d ∈ ms, Dr l d
def eMs (ms : List (List (List Pt))) : D := .tup (ms.map eDr)
theorem masters_ok (h : Has T) (hn : ns ≠ []) (hs : St cs) {l : List (List Str)} (hl : Lt l) {most : Int} (hm : 0 < most) (hm2 : most ≤ 100) : (callK T con rf (k + 5) "_law_masters" [.lst (ns.map .int), .cell 0, eL l, .int most] cs).W (fun d c => St c ∧ ∃ ms, d = eMs ms ∧ Ms l most ms) noE := by
  rw [w_callK h.masters]
  simp [Cm.d__law_masters]
  refine (drawing_ok h hn hs hl).to ?_
  rintro d c ⟨hs, d0, rfl, hd0⟩
  try simp
  refine ⟨hs.atom, ?_⟩
  refine take_st h hn hs hm fun v c h0 h4 hs => ?_
  try simp
  refine ⟨rb (by omega) (by omega), ?_⟩
  obtain ⟨J, hJ⟩ : ∃ J : Nat → List Slot → Cells → Prop, J = (fun i env c => ∃ (ms : List (List (List Pt))) (s5 : Slot), env = [.sh (.lst (ns.map .int)), .sh (.cell 0), .sh (eL l), .sh (.int most), .ow 0 (.lst ((d0 :: ms).map eDr)), s5] ∧ St c ∧ ms.length = i ∧ ∀ d ∈ d0 :: ms, Dr l d) := ⟨_, rfl⟩
  refine for_rng J ?_ ?_ ?_
  · rw [hJ]
    exact ⟨[], _, rfl, hs, rfl, by simpa using hd0⟩
  · intro i hi env cs hh
    rw [hJ] at hh
    obtain ⟨ms, s5, rfl, hs, hml, hd⟩ := hh
    refine ⟨_, rfl, ?_⟩
    simp
    have app : ∀ {dr : List (List Pt)}, Dr l dr → ∀ d ∈ d0 :: (ms ++ [dr]), Dr l d := by
      intro dr hdr d hm
      rcases List.mem_cons.mp hm with q | q
      · subst q; exact hd0
      · rcases List.mem_append.mp q with q | q
        · exact hd d (List.mem_cons_of_mem _ q)
        · simp at q; subst q; exact hdr
    refine take_st h hn hs (by decide) fun t c ht0 ht1 hs => ?_
    try simp
    refine ⟨fun _ => ?_, fun _ => ?_⟩
    · refine (drawing_ok h hn hs hl).to ?_
      rintro d c ⟨hs, dr, rfl, hdr⟩
      refine ⟨by omega, ?_⟩
      rw [hJ]
      exact ⟨ms ++ [dr], _, by simp; rfl, hs, by simp [hml], app hdr⟩
    · refine (varied_ok h hn hs hl hd0).to ?_
      rintro d c ⟨hs, dr, rfl, hdr⟩
      refine ⟨by omega, ?_⟩
      rw [hJ]
      exact ⟨ms ++ [dr], _, by simp; rfl, hs, by simp [hml], app hdr⟩
  · intro env cs hh
    rw [hJ] at hh
    obtain ⟨ms, s5, rfl, hs, hml, hd⟩ := hh
    simp
    exact ⟨hs, d0 :: ms, rfl, by simp, by simp; omega, hd⟩
theorem fitted_ok (h : Has T) (hn : ns ≠ []) (hs : St cs) {l : List (List Str)} (hl : Lt l) {dr : List (List Pt)} (hdr : Dr l dr) : (callK T con rf (k + 3) "_law_fitted" [.lst (ns.map .int), .cell 0, eL l, eDr dr] cs).W (fun d c => St c ∧ ∃ l', d = eL l' ∧ Lt l' ∧ Dr l' dr) noE := by
  obtain ⟨N, hN, hT⟩ := h.fitted
  have l3 := hl.n3
  have dl : dr.length = l.length := by have := congrArg List.length hdr.s; simpa using this
  rw [w_callK hT]
  simp [Cm.d__law_fitted, hN]
  refine ⟨hs.atom, rb (by omega) (by omega), ?_⟩
  obtain ⟨J, hJ⟩ : ∃ J : Nat → List Slot → Cells → Prop, J = (fun i env c => ∃ (l' : List (List Str)) (s5 s6 s7 s8 s9 s10 s11 s12 : Slot), env = [.sh (.lst (ns.map .int)), .sh (.cell 0), .sh (eL l), .sh (eDr dr), .ow 0 (.lst (l'.map eM)), s5, s6, s7, s8, s9, s10, s11, s12] ∧ St c ∧ l'.map List.length = (l.take i).map List.length ∧ ∀ r ∈ l', ∀ m ∈ r, m ∈ manners) := ⟨_, rfl⟩
  refine for_rng J ?_ ?_ ?_
  · rw [hJ]
    exact ⟨[], _, _, _, _, _, _, _, _, rfl, hs, by simp, by simp⟩
  · intro i hi env cs hh
    rw [hJ] at hh
    obtain ⟨l', s5, s6, s7, s8, s9, s10, s11, s12, rfl, hs, hll, hlm⟩ := hh
    refine ⟨_, rfl, ?_⟩
    have hi : i < l.length := by omega
    have hid : i < dr.length := by omega
    have hrl : dr[i].length = l[i].length := by
      have := congrArg (fun q => q[i]?) hdr.s
      simpa [List.getElem?_eq_getElem hi, List.getElem?_eq_getElem hid] using this
    obtain ⟨r3, r8, _⟩ := hl.r l[i] (List.getElem_mem hi)
    have hll' : l'.length = i := by have := congrArg List.length hll; simp at this; omega
    simp [List.getElem?_eq_getElem hi, hs.atom]
    refine ⟨rb (by omega) (by omega), ?_⟩
    obtain ⟨J2, hJ2⟩ : ∃ J : Nat → List Slot → Cells → Prop, J = (fun j env c => ∃ (ms : List Str) (s7 s8 s9 s10 s11 s12 : Slot), env = [.sh (.lst (ns.map .int)), .sh (.cell 0), .sh (eL l), .sh (eDr dr), .ow 0 (.lst (l'.map eM)), .sh (.int i), .ow 0 (.lst (ms.map .str)), s7, s8, s9, s10, s11, s12] ∧ St c ∧ ms.length = j ∧ ∀ m ∈ ms, m ∈ manners) := ⟨_, rfl⟩
    refine for_rng J2 ?_ ?_ ?_
    · rw [hJ2]
      exact ⟨[], _, _, _, _, _, _, rfl, hs, rfl, by simp⟩
    · intro j hj env cs hh
      rw [hJ2] at hh
      obtain ⟨ms, s7, s8, s9, s10, s11, s12, rfl, hs, hml, hmm⟩ := hh
      refine ⟨_, rfl, ?_⟩
      have hj : j < l[i].length := by omega
      have hjd : j < dr[i].length := by omega
      obtain ⟨b, hb, eb⟩ : ∃ b, b < dr[i].length ∧ ∀ cs, callK T con rf (k + 2) "_law_before" [eL l, .tup [.int i, .int j]] cs = .ok (.tup [.int i, .int (b : Nat)]) cs := ⟨_, by rw [hrl]; exact Nat.mod_lt _ (by omega), fun cs => before_ok h (List.getElem?_eq_getElem hi) hj⟩
      obtain ⟨a, ha, ea⟩ : ∃ a, a < dr[i].length ∧ ∀ cs, callK T con rf (k + 2) "_law_next" [eL l, .tup [.int i, .int j]] cs = .ok (.tup [.int i, .int (a : Nat)]) cs := ⟨_, by rw [hrl]; exact Nat.mod_lt _ (by omega), fun cs => next_ok h (List.getElem?_eq_getElem hi) (show 0 < l[i].length by omega)⟩
      have pj := hdr.p dr[i] (List.getElem_mem _) dr[i][j] (List.getElem_mem _)
      have pb := hdr.p dr[i] (List.getElem_mem _) dr[i][b] (List.getElem_mem _)
      have pa := hdr.p dr[i] (List.getElem_mem _) dr[i][a] (List.getElem_mem _)
      unfold InP In99 at pj pb pa
      have m1 : mulOk (dr[i][j].fst - dr[i][b].fst) (dr[i][a].snd - dr[i][j].snd) = true := mulOk_c (by omega)
      have m2 : mulOk (dr[i][j].snd - dr[i][b].snd) (dr[i][a].fst - dr[i][j].fst) = true := mulOk_c (by omega)
      simp [eb, ea, at_ok h (List.getElem?_eq_getElem hid) (List.getElem?_eq_getElem hb), at_ok h (List.getElem?_eq_getElem hid) (List.getElem?_eq_getElem ha), List.getElem?_eq_getElem hid, List.getElem?_eq_getElem hjd, m1, m2]
      have fin : ∀ {m : Str} {s7 s8 s9 s10 s11 s12 : Slot} {c : Cells}, m ∈ manners → St c → ms.length < 100000 ∧ J2 (j + 1) [.sh (.lst (ns.map .int)), .sh (.cell 0), .sh (eL l), .sh (eDr dr), .ow 0 (.lst (l'.map eM)), .sh (.int i), .ow 0 (.lst (ms.map .str ++ [.str m])), s7, s8, s9, s10, s11, s12] c := by
        intro m s7 s8 s9 s10 s11 s12 c hm hs
        refine ⟨by omega, ?_⟩
        rw [snocE, hJ2]
        refine ⟨_, _, _, _, _, _, _, rfl, hs, by simp [hml], ?_⟩
        intro m' hm'
        rcases List.mem_append.mp hm' with q | q
        · exact hmm _ q
        · simp at q; subst q; exact hm
      have f1 : anyS ∈ manners := by decide
      have f2 : leftS ∈ manners := by decide
      have f3 : rightS ∈ manners := by decide
      have f4 : straightS ∈ manners := by decide
      refine ⟨fun _ => ?_, fun _ => ⟨fun _ => ?_, fun _ => ?_⟩⟩
      all_goals
        refine take_st h hn hs (by decide) fun t c ht0 ht1 hs => ?_
        simp
        exact ⟨fun _ => fin (by assumption) hs, fun _ => fin (by assumption) hs⟩
    · intro env cs hh
      rw [hJ2] at hh
      obtain ⟨ms, s7, s8, s9, s10, s11, s12, rfl, hs, hml, hmm⟩ := hh
      simp
      refine ⟨by omega, ?_⟩
      rw [show (D.tup (ms.map .str)) = eM ms from rfl, snocE, hJ]
      refine ⟨l' ++ [ms], _, _, _, _, _, _, _, _, rfl, hs, ?_, ?_⟩
      · rw [List.take_succ_eq_append_getElem hi]
        simp only [List.map_append, hll, List.map_cons, List.map_nil, hml]
      · intro r hr p hpp
        rcases List.mem_append.mp hr with q | q
        · exact hlm r q p hpp
        · simp at q
          subst q
          exact hmm p hpp
  · intro env cs hh
    rw [hJ] at hh
    obtain ⟨l', s5, s6, s7, s8, s9, s10, s11, s12, rfl, hs, hll, hlm⟩ := hh
    simp
    have hll : l'.map List.length = l.map List.length := by simpa using hll
    have hlen : l'.length = l.length := by have := congrArg List.length hll; simpa using this
    refine ⟨hs, l', rfl, ⟨by have := hl.n1; omega, by omega, ?_, by rw [hll]; exact hl.sum⟩, ⟨by rw [hll]; exact hdr.s, hdr.p⟩⟩
    intro r hr
    obtain ⟨i, hi, rfl⟩ := List.mem_iff_getElem.mp hr
    have := congrArg (fun q => q[i]?) hll
    simp [List.getElem?_eq_getElem hi, List.getElem?_eq_getElem (show i < l.length by omega)] at this
    obtain ⟨a, b, _⟩ := hl.r l[i] (List.getElem_mem _)
    exact ⟨by omega, by omega, hlm _ hr⟩
end
end Pc

set_option Elab.async false
set_option maxRecDepth 100000
set_option maxHeartbeats 4000000
/-! Pm6: straightened drawings, turned ones. -/
namespace Pc
open PySem PySem.Spec PyProof.Rows L2
section
variable {T : Tab} {con : Str → Option D} {rf : Str → Option Str} {k : Nat} {ns : List Int} {cs : Cells}
def four (p : Pt) : Pt := (max (-96) (p.1 / 4 * 4), max (-96) (p.2 / 4 * 4))
theorem four_in {p : Pt} (h : InP p) : InP (four p) := by
  unfold InP In99 four at *
  simp only
  omega
def eLR (r : List Pt) : D := .lst (r.map eP)
@[simp] theorem sub_LR {t t' : Tg} {r : List Pt} {i : Int} : subF cs (t, eLR r) (t', .int i) = (atI (r.map eP) i).map fun d => (t.down, d) := rfl
theorem sto2_rows {rows : List (List Pt)} {r : List Pt} {n i j : Nat} (hi : rows[i]? = some r) (hj : j < r.length) {p : Pt} {env : List Slot} {P : List Slot → Cells → Prop} :
    sto2W n (some (.ow 1 (.lst (rows.map eLR)))) env cs (.int i) (.int j) (eP p) P ↔ P (env.set n (.ow 1 (.lst ((rows.set i (r.set j p)).map eLR)))) cs := by
  have hi2 : i < rows.length := (List.getElem?_eq_some_iff.mp hi).1
  show optW (ixN (rows.map eLR).length i) _ ↔ _
  rw [List.length_map, ixN_nat hi2]
  show (match (rows.map eLR)[i]? with | some (.lst es) => _ | _ => False) ↔ _
  rw [List.getElem?_map, hi]
  show optW (ixN (r.map eP).length j) _ ↔ _
  rw [List.length_map, ixN_nat hj]
  show P (env.set n (.ow 1 (.lst ((rows.map eLR).set i (.lst ((r.map eP).set j (eP p))))))) cs ↔ _
  rw [← List.map_set (f := eP), show D.lst ((r.set j p).map eP) = eLR (r.set j p) from rfl, ← List.map_set]
theorem straightened_ok (h : Has T) (hs : St cs) {l : List (List Str)} (hl : Lt l) {dr : List (List Pt)} (hdr : Dr l dr) {i j : Nat} {q : Int} (hi : i < l.length) (hj : j < l[i].length) (hq : q.natAbs < 100) :
    (callK T con rf (k + 2) "_law_straightened" [eL l, eC (i, j), eDr dr, .int q] cs).W (fun d c => c = cs ∧ ∃ dr', d = eDr dr' ∧ Dr l dr') noE := by
  have l3 := hl.n3
  have dl : dr.length = l.length := by have := congrArg List.length hdr.s; simpa using this
  have hrl : ∀ (n : Nat) (h1 : n < dr.length) (h2 : n < l.length), dr[n].length = l[n].length := fun n h1 h2 => by
    have := congrArg (fun q => q[n]?) hdr.s
    simpa [List.getElem?_eq_getElem h1, List.getElem?_eq_getElem h2] using this
  have hid : i < dr.length := by omega
  have e1 := hrl i hid hi
  obtain ⟨r3, r8, _⟩ := hl.r l[i] (List.getElem_mem hi)
  obtain ⟨b, hb, eb⟩ : ∃ b, b < dr[i].length ∧ ∀ cs, callK T con rf (k + 1) "_law_before" [eL l, eC (i, j)] cs = .ok (eC (i, b)) cs := ⟨_, by rw [e1]; exact Nat.mod_lt _ (by omega), fun cs => before_ok h (List.getElem?_eq_getElem hi) hj⟩
  obtain ⟨a, ha, ea⟩ : ∃ a, a < dr[i].length ∧ ∀ cs, callK T con rf (k + 1) "_law_next" [eL l, eC (i, j)] cs = .ok (eC (i, a)) cs := ⟨_, by rw [e1]; exact Nat.mod_lt _ (by omega), fun cs => next_ok h (List.getElem?_eq_getElem hi) (show 0 < l[i].length by omega)⟩
  rw [w_callK h.straightened]
  simp [Cm.d__law_straightened]
  refine ⟨by omega, ?_⟩
  refine comp_map (fun r => eLR (r.map four)) (fun r hr => ⟨_, rfl, ?_⟩) ?_
  · simp [hs.atom]
    have hr8 : r.length ≤ 8 := by
      obtain ⟨n, hn, rfl⟩ := List.mem_iff_getElem.mp hr
      rw [hrl n hn (by omega)]
      exact (hl.r _ (List.getElem_mem _)).2.1
    refine ⟨by omega, ?_⟩
    refine comp_map (fun p => eP (four p)) (fun p hp => ⟨_, rfl, ?_⟩) ?_
    · simp [fourth_ok h, eP, four]
    · simp [eLR, hs.atom]
  · obtain ⟨rows, hrows⟩ : ∃ rows : List (List Pt), rows = dr.map (List.map four) := ⟨_, rfl⟩
    have hlen : rows.length = dr.length := by simp [hrows]
    have hrow : rows[i]? = some (dr[i].map four) := by simp [hrows, List.getElem?_eq_getElem hid]
    have hF : dr.map (fun r => eLR (r.map four)) = rows.map eLR := by simp [hrows]
    rw [hF]
    have qa : (dr[i].map four)[a]? = some (four dr[i][a]) := by simp [List.getElem?_eq_getElem ha]
    have qb : (dr[i].map four)[b]? = some (four dr[i][b]) := by simp [List.getElem?_eq_getElem hb]
    have m : ∀ x : Int, mulOk x q = true := fun x => mulOk_c (by omega)
    have hjr : j < (dr[i].map four).length := by simp; omega
    simp [hs.atom, eb, ea, hrow, m, List.getElem?_eq_getElem ha, List.getElem?_eq_getElem hb, clip_ok h, sto2_rows hrow hjr]
    refine ⟨by omega, by omega, ?_⟩
    simp only [← List.map_set]
    refine comp_map eR (fun r hr => ⟨_, rfl, ?_⟩) ?_
    · simp [eLR, eR]
    · obtain ⟨rows2, hr2⟩ : ∃ rows2, rows2 = rows.set i ((dr[i].map four).set j (max (-99) (min 99 ((four dr[i][b]).fst + ((four dr[i][a]).fst - (four dr[i][b]).fst) / 4 * q)), max (-99) (min 99 ((four dr[i][b]).snd + ((four dr[i][a]).snd - (four dr[i][b]).snd) / 4 * q)))) := ⟨_, rfl⟩
      rw [← hr2]
      simp
      refine ⟨rows2, rfl, ?_, ?_⟩
      all_goals rw [hr2]
      · rw [← hdr.s]
        apply List.ext_getElem
        · simp [hlen]
        · intro n h1 h2
          simp [List.getElem_set]
          have h3 : n < dr.length := by simpa using h2
          by_cases hin : i = n
          · subst hin
            simp
          · simp [hin, hrows]
      · intro r hr p hp
        rcases List.mem_or_eq_of_mem_set hr with hr | rfl
        · rw [hrows] at hr
          obtain ⟨r0, hr0, rfl⟩ := List.mem_map.mp hr
          obtain ⟨p0, hp0, rfl⟩ := List.mem_map.mp hp
          exact four_in (hdr.p r0 hr0 p0 hp0)
        · rcases List.mem_or_eq_of_mem_set hp with hp | rfl
          · obtain ⟨p0, hp0, rfl⟩ := List.mem_map.mp hp
            exact four_in (hdr.p _ (List.getElem_mem _) p0 hp0)
          · exact clip_in _ _
def tl1 : MSs → MSs
  | .cons _ l => l
  | l => l
theorem turned_rest (h : Has T) (hs : St cs) {m : Nat} {p : Pt} {a b : Int} (hm : 0 < m) (hm2 : m ≤ 1000) (hp1 : -40 ≤ p.1 ∧ p.1 ≤ 40) (hp2 : p.2 = 0) (ha : -2 ≤ a ∧ a ≤ 2) (hb : -2 ≤ b ∧ b ≤ 2) {N B C : List Slot → Cells → Prop} {R : D → Cells → Prop} {E : Str → List (Str × D) → List Slot → Cells → Prop} (hR : ∀ ps c, St c → ps.length = m → (∀ q ∈ ps, InP q) → R (eR ps) c) :
    (evSs (callK T con rf (k + 2)) con rf (tl1 (tl1 Cm.d__law_turned_ring.body)) [.sh (.lst (ns.map .int)), .sh (.cell 0), .sh (.int m), .sh (eP p), .sh (.int a), .sh (.int b), .emp, .emp, .emp] cs).W N B C R E := by
  simp [Cm.d__law_turned_ring, tl1]
  refine ⟨hs.atom, rb (by omega) (by omega), ?_⟩
  obtain ⟨J, hJ⟩ : ∃ J : Nat → List Slot → Cells → Prop, J = (fun i env c => ∃ (ps : List Pt) (s7 s8 : Slot), env = [.sh (.lst (ns.map .int)), .sh (.cell 0), .sh (.int m), .sh (eP p), .sh (.int a), .sh (.int b), .ow 0 (.lst (ps.map eP)), s7, s8] ∧ St c ∧ ps.length = i ∧ ∀ q ∈ ps, InP q) := ⟨_, rfl⟩
  refine for_rng J ?_ ?_ ?_
  · rw [hJ]
    exact ⟨[], _, _, rfl, hs, rfl, by simp⟩
  · intro i hi env cs hh
    rw [hJ] at hh
    obtain ⟨ps, s7, s8, rfl, hs, hps, hin⟩ := hh
    refine ⟨_, rfl, ?_⟩
    simp [ways_eq h, lg_small (show m < 2 ^ 100 by omega), hm]
    refine pick_atI eP wayL (Int.emod_nonneg _ (by decide)) (Int.emod_lt_of_pos _ (by decide)) fun q hq => ?_
    have hq1 : q.1.natAbs ≤ 8 ∧ q.2.natAbs ≤ 8 := (by decide : ∀ p ∈ wayL, p.1.natAbs ≤ 8 ∧ p.2.natAbs ≤ 8) q hq
    have mm : ∀ x y : Int, x.natAbs < 100 → mulOk x y = true := fun x y h => mulOk_s h
    simp [mm _ _ (show q.1.natAbs < 100 by omega), mm _ _ (show q.2.natAbs < 100 by omega)]
    refine ⟨by omega, ?_⟩
    rw [snocP, hJ]
    refine ⟨_, _, _, rfl, hs, by simp [hps], ?_⟩
    intro r hr
    rcases List.mem_append.mp hr with t | t
    · exact hin r t
    · simp at t
      subst t
      have bd : ∀ x y : Int, x.natAbs ≤ 8 → -2 ≤ y → y ≤ 2 → -16 ≤ x * y ∧ x * y ≤ 16 := by
        intro x y hx h1 h2
        have : y = -2 ∨ y = -1 ∨ y = 0 ∨ y = 1 ∨ y = 2 := by omega
        rcases this with rfl | rfl | rfl | rfl | rfl <;> omega
      have b1 := bd q.1 a hq1.1 ha.1 ha.2
      have b2 := bd q.2 b hq1.2 hb.1 hb.2
      have b3 := bd q.1 b hq1.1 hb.1 hb.2
      have b4 := bd q.2 a hq1.2 ha.1 ha.2
      unfold InP In99
      simp only
      omega
  · intro env cs hh
    rw [hJ] at hh
    obtain ⟨ps, s7, s8, rfl, hs, hps, hin⟩ := hh
    simp
    exact hR ps cs hs hps hin
@[simp] theorem gT_P {i j : Nat} {p : Pt} {env : List Slot} {P : List Slot → Prop} : optW (gT [i, j] (eP p) env) P ↔ (i < env.length ∧ j < env.length) ∧ P ((env.set i (.sh (.int p.1))).set j (.sh (.int p.2))) := by
  show optW (gT [i, j] (.tup [.int p.1, .int p.2]) env) P ↔ _
  by_cases h : i < env.length ∧ j < env.length
  · rw [gT_2 h.1 h.2]
    simp [h, optW]
  · have : gT [i, j] (.tup [.int p.1, .int p.2]) env = none := by
      simp only [gT, List.length_cons, List.length_nil, gN, List.zip_cons_cons, List.zip_nil_right, List.foldlM_cons, List.foldlM_nil]
      by_cases hi : i < env.length
      · have hj : ¬ j < env.length := fun z => h ⟨hi, z⟩
        simp [hi, hj]
      · simp [hi]
    rw [this]
    simp [h, optW]
theorem turned_ring_ok (h : Has T) (hn : ns ≠ []) (hs : St cs) {m : Nat} {p : Pt} (hm : 0 < m) (hm2 : m ≤ 1000) (hp1 : -40 ≤ p.1 ∧ p.1 ≤ 40) (hp2 : p.2 = 0) {Q : D → Cells → Prop} {E : EK} (q : ∀ ps c, St c → ps.length = m → (∀ q ∈ ps, InP q) → Q (eR ps) c) :
    (callK T con rf (k + 3) "_law_turned_ring" [.lst (ns.map .int), .cell 0, .int m, eP p] cs).W Q E := by
  rw [w_callK h.turned_ring]
  rw [show Cm.d__law_turned_ring.body = MSs.cons (.par 4 5 (.cons (.bin .Sub (.call "_law_take" (.cons (.var 0) (.cons (.var 1) (.cons (.ci 5) .nil)))) (.ci 2)) (.cons (.bin .Sub (.call "_law_take" (.cons (.var 0) (.cons (.var 1) (.cons (.ci 5) .nil)))) (.ci 2)) .nil))) (tl1 Cm.d__law_turned_ring.body) from rfl]
  rw [show startE Cm.d__law_turned_ring.N [.lst (ns.map .int), .cell 0, .int m, eP p] = [.sh (.lst (ns.map .int)), .sh (.cell 0), .sh (.int m), .sh (eP p), .emp, .emp, .emp, .emp, .emp] from rfl]
  simp
  refine take_st h hn hs (by decide) fun a c ha0 ha1 hs => ?_
  try simp
  refine take_st h hn hs (by decide) fun b c hb0 hb1 hs => ?_
  try simp
  have fin : ∀ {a b : Int} {c : Cells}, St c → -2 ≤ a ∧ a ≤ 2 → -2 ≤ b ∧ b ≤ 2 → ∀ {N B C E}, (evSs (callK T con rf (k + 2)) con rf (tl1 (tl1 Cm.d__law_turned_ring.body)) [.sh (.lst (ns.map .int)), .sh (.cell 0), .sh (.int m), .sh (eP p), .sh (.int a), .sh (.int b), .emp, .emp, .emp] c).W N B C (fun d c => Q d c) E := by
    intro a b c hs ha hb N B C E
    exact turned_rest h hs hm hm2 hp1 hp2 ha hb q
  have wl : ∀ q ∈ [((1, 0) : Pt), (0, 1), (-1, 0), (0, -1)], (-2 ≤ q.1 ∧ q.1 ≤ 2) ∧ -2 ≤ q.2 ∧ q.2 ≤ 2 := by decide
  rw [show tl1 Cm.d__law_turned_ring.body = MSs.cons (.ite (.bo .Or (.cons (.bo .And (.cons (.cmp .Eq (.var 4) (.ci 0)) (.cons (.cmp .Eq (.var 5) (.ci 0)) .nil))) (.cons (.cmp .Eq (.call "_law_take" (.cons (.var 0) (.cons (.var 1) (.cons (.ci 2) .nil)))) (.ci 0)) .nil))) (.cons (.pat (.t [4, 5]) (.sub (.lst (.cons (.tup (.cons (.ci 1) (.cons (.ci 0) .nil))) (.cons (.tup (.cons (.ci 0) (.cons (.ci 1) .nil))) (.cons (.tup (.cons (.neg (.ci 1)) (.cons (.ci 0) .nil))) (.cons (.tup (.cons (.ci 0) (.cons (.neg (.ci 1)) .nil))) .nil))))) (.call "_law_take" (.cons (.var 0) (.cons (.var 1) (.cons (.ci 4) .nil)))))) .nil) .nil) (tl1 (tl1 Cm.d__law_turned_ring.body)) from rfl]
  generalize tl1 (tl1 Cm.d__law_turned_ring.body) = rest at fin
  simp
  repeat' first
    | exact fin hs (by omega) (by omega)
    | refine ⟨fun _ => ?_, fun _ => ?_⟩
    | (refine take_st h hn hs (by decide) fun v c hv0 hv1 hs => ?_
       try simp
       refine pick_atI eP [(1, 0), (0, 1), (-1, 0), (0, -1)] hv0 hv1 fun q hq => ?_
       obtain ⟨h1, h2⟩ := wl q hq
       try simp
       exact fin hs h1 h2)
    | (refine take_st h hn hs (by decide) fun v c hv0 hv1 hs => ?_
       simp)
theorem turned_drawing_ok (h : Has T) (hn : ns ≠ []) (hs : St cs) {l : List (List Str)} (hl : Lt l) (hl2 : l.length ≤ 2) {Q : D → Cells → Prop} {E : EK} (q : ∀ dr c, St c → Dr l dr → Q (eDr dr) c) :
    (callK T con rf (k + 4) "_law_turned_drawing" [.lst (ns.map .int), .cell 0, eL l] cs).W Q E := by
  have l3 := hl.n3
  rw [w_callK h.turned_drawing]
  simp [Cm.d__law_turned_drawing]
  refine ⟨hs.atom, rb (by omega) (by omega), ?_⟩
  obtain ⟨J, hJ⟩ : ∃ J : Nat → List Slot → Cells → Prop, J = (fun i env c => ∃ (d : List (List Pt)) (s4 s5 : Slot), env = [.sh (.lst (ns.map .int)), .sh (.cell 0), .sh (eL l), .ow 0 (.lst (d.map eR)), s4, s5] ∧ St c ∧ d.map List.length = (l.take i).map List.length ∧ ∀ r ∈ d, ∀ p ∈ r, InP p) := ⟨_, rfl⟩
  refine for_rng J ?_ ?_ ?_
  · rw [hJ]
    exact ⟨[], _, _, rfl, hs, by simp, by simp⟩
  · intro i hi env cs hh
    rw [hJ] at hh
    obtain ⟨d, s4, s5, rfl, hs, hd, hp⟩ := hh
    refine ⟨_, rfl, ?_⟩
    have hi : i < l.length := by omega
    obtain ⟨r3, r8, rm⟩ := hl.r l[i] (List.getElem_mem hi)
    have hdl : d.length = i := by have := congrArg List.length hd; simp at this; omega
    have fin : ∀ {ps : List Pt} {s4 s5 : Slot} {c : Cells}, ps.length = l[i].length → (∀ q ∈ ps, InP q) → St c → J (i + 1) [.sh (.lst (ns.map .int)), .sh (.cell 0), .sh (eL l), .ow 0 (.lst (d.map eR ++ [eR ps])), s4, s5] c := by
      intro ps s4 s5 c hps hin hs
      rw [snocE, hJ]
      refine ⟨d ++ [ps], s4, s5, rfl, hs, ?_, ?_⟩
      · rw [List.take_succ_eq_append_getElem hi]
        simp only [List.map_append, hd, List.map_cons, List.map_nil, List.length_map, hps]
      · intro r hr p hpp
        rcases List.mem_append.mp hr with q | q
        · exact hp r q p hpp
        · simp at q
          subst q
          exact hin p hpp
    simp [List.getElem?_eq_getElem hi]
    refine ⟨fun _ => ?_, fun _ => ?_⟩
    · refine turned_ring_ok (p := (0, 0)) h hn hs (by omega) (by omega) (by decide) rfl fun ps c hs hps hin => ?_
      exact ⟨by omega, fin hps hin hs⟩
    · refine turned_ring_ok (p := (80 * (i : Int) - 40, 0)) h hn hs (by omega) (by omega) (by simp only; omega) rfl fun ps c hs hps hin => ?_
      exact ⟨by omega, fin hps hin hs⟩
  · intro env cs hh
    rw [hJ] at hh
    obtain ⟨d, s4, s5, rfl, hs, hd, hp⟩ := hh
    simp
    exact q d cs hs ⟨by simpa using hd, hp⟩
theorem turned_letter_ok (h : Has T) (hn : ns ≠ []) (hs : St cs) {Q : D → Cells → Prop} {E : EK} (q : ∀ l c, St c → Lt l → l.length ≤ 2 → Q (eL l) c) :
    (callK T con rf (k + 3) "_law_turned_letter" [.lst (ns.map .int), .cell 0] cs).W Q E := by
  rw [w_callK h.turned_letter]
  simp [Cm.d__law_turned_letter]
  refine ⟨hs.atom, ?_⟩
  refine take_st h hn hs (by decide) fun v c hv0 hv1 hs => ?_
  try simp
  refine ⟨rb (by omega) (by omega), ?_⟩
  obtain ⟨J, hJ⟩ : ∃ J : Nat → List Slot → Cells → Prop, J = (fun i env c => ∃ (l : List (List Str)) (s3 : Slot), env = [.sh (.lst (ns.map .int)), .sh (.cell 0), .ow 0 (.lst (l.map eM)), s3, .emp] ∧ St c ∧ l.length = i ∧ (∀ r ∈ l, 3 ≤ r.length ∧ r.length ≤ 4 ∧ ∀ m ∈ r, m ∈ manners) ∧ (l.map List.length).sum ≤ 4 * i) := ⟨_, rfl⟩
  refine for_rng J ?_ ?_ ?_
  · rw [hJ]
    exact ⟨[], _, rfl, hs, rfl, by simp, by simp⟩
  · intro i hi env cs hh
    rw [hJ] at hh
    obtain ⟨l, s3, rfl, hs, hll, hr, hsum⟩ := hh
    refine ⟨_, rfl, ?_⟩
    simp
    refine take_st h hn hs (by decide) fun u c hu0 hu1 hs => ?_
    simp [upTo_len]
    refine ⟨rb (by omega) (by omega), by omega, ?_⟩
    refine comp_rng_st .str (fun _ m => m ∈ manners) St hs ?_ ?_
    · intro j hj cs hs
      refine ⟨_, rfl, ?_⟩
      simp
      refine take_st h hn hs (by decide) fun w c hw0 hw hs => ?_
      simp
      refine pick_atI D.str [leftS, anyS] hw0 hw fun m hm => ?_
      simp
      refine ⟨?_, hs⟩
      simp at hm
      rcases hm with rfl | rfl <;> decide
    · intro ys c hys hs
      have hyl : ys.length = (3 + u).toNat := by have := hys.length; simpa using this.symm
      simp
      refine ⟨by omega, ?_⟩
      rw [show (D.tup (ys.map .str)) = eM ys from rfl, snocE, hJ]
      refine ⟨_, _, rfl, hs, by simp [hll], ?_, ?_⟩
      · intro r hr'
        rcases List.mem_append.mp hr' with q | q
        · exact hr r q
        · simp at q
          subst q
          refine ⟨by omega, by omega, fun m hm => ?_⟩
          obtain ⟨_, _, p⟩ := hys.right m hm
          exact p
      · simp
        omega
  · intro env cs hh
    rw [hJ] at hh
    obtain ⟨l, s3, rfl, hs, hll, hr, hsum⟩ := hh
    simp
    refine q l cs hs ⟨by omega, by omega, fun r hr' => ?_, by omega⟩ (by omega)
    obtain ⟨a, b, c⟩ := hr r hr'
    exact ⟨a, by omega, c⟩
end
end Pc

set_option Elab.async false
set_option maxRecDepth 100000
set_option maxHeartbeats 4000000
/-! Pm7: the scene, the numbers. -/
namespace Pc
open PySem PySem.Spec PyProof.Rows L2
section
variable {T : Tab} {con : Str → Option D} {rf : Str → Option Str} {k : Nat} {ns : List Int} {cs : Cells}
theorem Ms.le {l : List (List Str)} {a b : Int} {ms : List (List (List Pt))} (h : Ms l a ms) (hab : a ≤ b) : Ms l b ms := ⟨h.n1, by have := h.n2; omega, h.d⟩
/-- a letter with a drawing: the drawing has at least one ring -/
theorem scene_ok (h : Has T) (hn : ns ≠ []) (hs : St cs) {most : Int} (hm : 0 < most) (hm2 : most ≤ 100) {Q : D → Cells → Prop} {E : EK} (q : ∀ l ms c, St c → Lt l → Ms l most ms → Q (.tup [eL l, eMs ms]) c) :
    (callK T con rf (k + 6) "_law_scene" [.lst (ns.map .int), .cell 0, .int most] cs).W Q E := by
  rw [w_callK h.scene]
  rw [show startE Cm.d__law_scene.N [.lst (ns.map .int), .cell 0, .int most] = [.sh (.lst (ns.map .int)), .sh (.cell 0), .sh (.int most), .emp, .emp, .emp, .emp, .emp, .emp, .emp] from rfl]
  have fin : ∀ {l : List (List Str)} {ms : List (List (List Pt))} {s5 s6 s7 s8 s9 : Slot} {c : Cells}, St c → Lt l → Ms l most ms → ∀ {N B C E}, (evSs (callK T con rf (k + 5)) con rf (tl1 (tl1 (tl1 (tl1 Cm.d__law_scene.body)))) [.sh (.lst (ns.map .int)), .sh (.cell 0), .sh (.int most), .sh (eL l), .sh (eMs ms), s5, s6, s7, s8, s9] c).W N B C (fun d c => Q d c) E := by
    intro l ms s5 s6 s7 s8 s9 c hs hl hms N B C E
    obtain ⟨m0, mt, rfl⟩ : ∃ m0 mt, ms = m0 :: mt := by
      cases ms with
      | nil => exact absurd hms.n1 (by simp)
      | cons a b => exact ⟨a, b, rfl⟩
    have hd0 := hms.d m0 (List.mem_cons_self ..)
    simp [Cm.d__law_scene, tl1]
    refine take_st h hn hs (by decide) fun v c hv0 hv1 hs => ?_
    simp
    refine ⟨fun _ => ?_, fun _ => q l _ c hs hl hms⟩
    simp [eMs]
    refine (fitted_ok h hn hs hl hd0).to ?_
    rintro d c ⟨hs, l', rfl, hl', hd'⟩
    refine q l' (m0 :: mt) c hs hl' ⟨hms.n1, hms.n2, fun d hd => ⟨?_, (hms.d d hd).p⟩⟩
    rw [(hms.d d hd).s, ← hd0.s, hd'.s]
  have fin2 : ∀ {l : List (List Str)} {ms : List (List (List Pt))} {c : Cells}, St c → Lt l → Ms l most ms → ∀ {N B C E}, (evSs (callK T con rf (k + 5)) con rf (tl1 (tl1 (tl1 Cm.d__law_scene.body))) [.sh (.lst (ns.map .int)), .sh (.cell 0), .sh (.int most), .sh (eL l), .sh (eMs ms), .emp, .emp, .emp, .emp, .emp] c).W N B C (fun d c => Q d c) E := by
    intro l ms c hs hl hms N B C E
    rw [show tl1 (tl1 (tl1 Cm.d__law_scene.body)) = .cons (.ite (.cmp .Eq (.call "_law_take" (.cons (.var 0) (.cons (.var 1) (.cons (.ci 3) .nil)))) (.ci 0)) (.cons (.set 5 (.call "_law_pick" (.cons (.var 0) (.cons (.var 1) (.cons (.call "_law_corners" (.cons (.var 3) .nil)) .nil))))) (.cons (.ite (.cmp .Gt (.bf .len (.cons (.sub (.var 3) (.sub (.var 5) (.ci 0))) .nil)) (.ci 3)) (.cons (.set 6 (.bin .Add (.ci 1) (.call "_law_take" (.cons (.var 0) (.cons (.var 1) (.cons (.ci 3) .nil)))))) (.cons (.own 7 (.lst .nil)) (.cons (.loop (.n 8) (.seq (.var 4)) (.cons (.app 7 (.call "_law_straightened" (.cons (.var 3) (.cons (.var 5) (.cons (.var 8) (.cons (.var 6) .nil)))))) (.cons (.set 6 (.sub (.lst (.cons (.var 6) (.cons (.var 6) (.cons (.ci 1) (.cons (.ci 2) (.cons (.ci 3) (.cons (.ci 5) (.cons (.ci 0) .nil)))))))) (.call "_law_take" (.cons (.var 0) (.cons (.var 1) (.cons (.ci 7) .nil)))))) .nil))) (.cons (.set 4 (.bf .tuple (.cons (.var 7) .nil))) .nil)))) .nil) .nil)) .nil) (tl1 (tl1 (tl1 (tl1 Cm.d__law_scene.body)))) from rfl]
    generalize tl1 (tl1 (tl1 (tl1 Cm.d__law_scene.body))) = rest at fin
    simp
    refine take_st h hn hs (by decide) fun v c hv0 hv1 hs => ?_
    simp
    refine ⟨fun _ => ?_, fun _ => fin hs hl hms⟩
    simp [corners_ok h hl]
    have hne : cnL l ≠ [] := by
      have h1 := hl.n1
      have : (0, 0) ∈ cnL l := cnL_mem.mpr ⟨l[0], by simp, by have := (hl.r l[0] (List.getElem_mem _)).1; omega⟩
      intro z
      rw [z] at this
      cases this
    refine (pick_ok h hn hs hne).to ?_
    rintro d c ⟨hs, ⟨ci, cj⟩, hc, rfl⟩
    obtain ⟨r, hr, hcj⟩ := cnL_mem.mp hc
    simp only at hr hcj
    have hil : ci < l.length := (List.getElem?_eq_some_iff.mp hr).1
    have hr' : l[ci] = r := by simpa [List.getElem?_eq_getElem hil] using hr
    simp [hr]
    refine ⟨fun _ => ?_, fun _ => fin hs hl hms⟩
    refine take_st h hn hs (by decide) fun u c hu0 hu1 hs => ?_
    simp [hs.atom, eMs]
    obtain ⟨J, hJ⟩ : ∃ J : Nat → List Slot → Cells → Prop, J = (fun i env c => ∃ (ms' : List (List (List Pt))) (qq : Int) (s8 s9 : Slot), env = [.sh (.lst (ns.map .int)), .sh (.cell 0), .sh (.int most), .sh (eL l), .sh (.tup (ms.map eDr)), .sh (eC (ci, cj)), .sh (.int qq), .ow 0 (.lst (ms'.map eDr)), s8, s9] ∧ St c ∧ ms'.length = i ∧ qq.natAbs < 100 ∧ ∀ d ∈ ms', Dr l d) := ⟨_, rfl⟩
    refine for_lst J ?_ ?_ ?_
    · rw [hJ]
      exact ⟨[], _, _, _, rfl, hs, rfl, by omega, by simp⟩
    · intro i hi env cs hh
      rw [hJ] at hh
      obtain ⟨ms', qq, s8, s9, rfl, hs, hml, hqq, hmd⟩ := hh
      refine ⟨_, rfl, ?_⟩
      have hn2 := hms.n2
      simp
      refine (straightened_ok h hs hl (hms.d ms[i] (List.getElem_mem hi)) hil (by rw [hr']; exact hcj) hqq).to ?_
      rintro d c ⟨rfl, dr', rfl, hdr'⟩
      try simp
      refine ⟨by omega, ?_⟩
      refine take_st h hn hs (by decide) fun w c hw0 hw1 hs => ?_
      simp
      refine pick_atI .int [qq, qq, 1, 2, 3, 5, 0] hw0 hw1 fun q' hq' => ?_
      try simp
      rw [snocE, hJ]
      refine ⟨_, _, _, _, rfl, hs, by simp [hml], ?_, ?_⟩
      · simp at hq'
        omega
      · intro d hd
        rcases List.mem_append.mp hd with t | t
        · exact hmd d t
        · simp at t
          subst t
          exact hdr'
    · intro env cs hh
      rw [hJ] at hh
      obtain ⟨ms', qq, s8, s9, rfl, hs, hml, hqq, hmd⟩ := hh
      simp
      exact fin (ms := ms') hs hl ⟨by rw [hml]; exact hms.n1, by rw [hml]; exact hms.n2, hmd⟩
  rw [show Cm.d__law_scene.body = .cons (.ite (.cmp .Eq (.call "_law_take" (.cons (.var 0) (.cons (.var 1) (.cons (.ci 3) .nil)))) (.ci 0)) (.cons (.set 3 (.call "_law_turned_letter" (.cons (.var 0) (.cons (.var 1) .nil)))) (.cons (.ret (.tup (.cons (.var 3) (.cons (.bf .tuple (.cons (.comp 0 (.n 9) (.rng (.cons (.bin .Add (.ci 1) (.call "_law_take" (.cons (.var 0) (.cons (.var 1) (.cons (.var 2) .nil))))) .nil)) .none (.call "_law_turned_drawing" (.cons (.var 0) (.cons (.var 1) (.cons (.var 3) .nil))))) .nil)) .nil)))) .nil)) .nil) (.cons (.set 3 (.call "_law_letter" (.cons (.var 0) (.cons (.var 1) .nil)))) (.cons (.set 4 (.call "_law_masters" (.cons (.var 0) (.cons (.var 1) (.cons (.var 3) (.cons (.var 2) .nil)))))) (tl1 (tl1 (tl1 Cm.d__law_scene.body))))) from rfl]
  generalize tl1 (tl1 (tl1 Cm.d__law_scene.body)) = rest at fin2
  simp
  refine take_st h hn hs (by decide) fun v c hv0 hv1 hs => ?_
  simp
  refine ⟨fun _ => ?_, fun _ => ?_⟩
  · refine turned_letter_ok h hn hs fun l c hs hl hl2 => ?_
    try simp
    refine take_st h hn hs hm fun u c hu0 hu1 hs => ?_
    simp [upTo_len]
    refine ⟨rb (by omega) (by omega), by omega, ?_⟩
    refine comp_rng_st eDr (fun _ d => Dr l d) St hs ?_ ?_
    · intro i hi cs hs
      refine ⟨_, rfl, ?_⟩
      simp
      refine turned_drawing_ok h hn hs hl hl2 fun dr c hs hdr => ?_
      try simp
      exact ⟨⟨dr, rfl, hdr⟩, hs⟩
    · intro ys c hys hs
      have hyl : ys.length = (1 + u).toNat := by have := hys.length; simpa using this.symm
      simp
      refine q l ys c hs hl ⟨by omega, by omega, fun d hd => ?_⟩
      obtain ⟨_, _, p⟩ := hys.right d hd
      exact p
  · refine (letter_ok h hn hs).to ?_
    rintro d c ⟨hs, l, rfl, hl⟩
    try simp
    refine (masters_ok h hn hs hl hm hm2).to ?_
    rintro d c ⟨hs, ms, rfl, hms⟩
    try simp
    exact fin2 hs hl hms
theorem cut63 {α : Type} {xs : List α} (h : xs.length ≤ 63) : cutL xs none (some 63) = xs := by
  unfold cutL
  rw [show HT.sIx xs.length xs.length (some 63) = min 63 xs.length from HT.sIx_nat _ _ 63, HT.sIx_none]
  rw [Nat.min_eq_right h]
  simp
/-- the numbers of a script -/
theorem numbers_ok0 (hT : T "_law_numbers" = some Cm.d__law_numbers) {zs : List Int} (hz : zs.length ≤ 63) (hc : atomC cs = true) {Q : D → Cells → Prop} {E : EK} (q : ∀ ns : List Int, ns ≠ [] → Q (.lst (ns.map .int)) cs) :
    (callK T con rf (k + 1) "_law_numbers" [.frz (zs.map .int)] cs).W Q E := by
  rw [w_callK hT]
  simp [Cm.d__law_numbers, hc]
  rw [cut63 (by simpa using hz)]
  obtain ⟨J, hJ⟩ : ∃ J : Nat → List Slot → Cells → Prop, J = (fun i env c => ∃ (ns : List Int) (s2 s3 s4 s5 : Slot), env = [.sh (.frz (zs.map .int)), .ow 0 (.lst (ns.map .int)), s2, s3, s4, s5] ∧ c = cs ∧ ns.length ≤ 60 * i) := ⟨_, rfl⟩
  refine for_lst J ?_ ?_ ?_
  · rw [hJ]
    exact ⟨[], _, _, _, _, rfl, rfl, by simp⟩
  · intro i hi env c hh
    rw [hJ] at hh
    obtain ⟨ns, s2, s3, s4, s5, rfl, rfl, hl⟩ := hh
    refine ⟨_, rfl, ?_⟩
    simp
    refine ⟨fun _ => ?_, fun _ => ?_⟩
    · refine ⟨rb (by decide) (by decide), ?_⟩
      obtain ⟨J2, hJ2⟩ : ∃ J : Nat → List Slot → Cells → Prop, J = (fun j env c' => ∃ (ns : List Int) (z w : Int) (s4 s5 : Slot), env = [.sh (.frz (zs.map .int)), .ow 0 (.lst (ns.map .int)), .sh (.int z), .sh (.int w), s4, s5] ∧ c' = c ∧ ns.length ≤ 60 * i + j) := ⟨_, rfl⟩
      have fin : ∀ {ns : List Int} {z w : Int} {s4 s5 : Slot} {n : Nat}, ns.length ≤ 60 * i + n → n ≤ 60 → J (i + 1) [.sh (.frz (zs.map .int)), .ow 0 (.lst (ns.map .int)), .sh (.int z), .sh (.int w), s4, s5] c := by
        intro ns z w s4 s5 n h1 h2
        rw [hJ]
        exact ⟨ns, _, _, _, _, rfl, rfl, by omega⟩
      refine for_rng J2 ?_ ?_ ?_
      · rw [hJ2]
        exact ⟨ns, _, _, _, _, rfl, rfl, by omega⟩
      · intro j hj env c' hh
        rw [hJ2] at hh
        obtain ⟨ns, z, w, s4, s5, rfl, rfl, hl⟩ := hh
        refine ⟨_, rfl, ?_⟩
        have hi : i < zs.length := hi
        have hj : j < 60 := hj
        simp
        refine ⟨fun _ => fin hl (by omega), fun _ => ⟨by omega, ?_⟩⟩
        rw [snocE, hJ2]
        exact ⟨_, _, _, _, _, rfl, rfl, by simp; omega⟩
      · intro env c' hh
        rw [hJ2] at hh
        obtain ⟨ns, z, w, s4, s5, rfl, rfl, hl⟩ := hh
        exact fin hl (by decide)
    · refine ⟨rb (by decide) (by decide), ?_⟩
      obtain ⟨J2, hJ2⟩ : ∃ J : Nat → List Slot → Cells → Prop, J = (fun j env c' => ∃ (ns : List Int) (z : Int) (s3 s4 s5 : Slot), env = [.sh (.frz (zs.map .int)), .ow 0 (.lst (ns.map .int)), .sh (.int z), s3, s4, s5] ∧ c' = c ∧ ns.length ≤ 60 * i + j) := ⟨_, rfl⟩
      refine for_rng J2 ?_ ?_ ?_
      · rw [hJ2]
        exact ⟨ns, _, _, _, _, rfl, rfl, by omega⟩
      · intro j hj env c' hh
        rw [hJ2] at hh
        obtain ⟨ns, z, s3, s4, s5, rfl, rfl, hl⟩ := hh
        refine ⟨_, rfl, ?_⟩
        have hi : i < zs.length := hi
        have hj : j < 4 := hj
        simp
        refine ⟨by omega, ?_⟩
        rw [snocE, hJ2]
        exact ⟨_, _, _, _, _, rfl, rfl, by simp; omega⟩
      · intro env c' hh
        rw [hJ2] at hh
        obtain ⟨ns, z, s3, s4, s5, rfl, rfl, hl⟩ := hh
        rw [hJ]
        exact ⟨ns, _, _, _, _, rfl, rfl, by have : ns.length ≤ 60 * i + 4 := hl; omega⟩
  · intro env c hh
    rw [hJ] at hh
    obtain ⟨ns, s2, s3, s4, s5, rfl, rfl, hl⟩ := hh
    simp
    refine ⟨fun h0 => ?_, fun h0 => q ns h0⟩
    subst h0
    exact ⟨by decide, q [0] (by simp)⟩
theorem numbers_ok (h : Has T) {zs : List Int} (hz : zs.length ≤ 63) (hc : atomC cs = true) {Q : D → Cells → Prop} {E : EK} (q : ∀ ns : List Int, ns ≠ [] → Q (.lst (ns.map .int)) cs) :
    (callK T con rf (k + 1) "_law_numbers" [.frz (zs.map .int)] cs).W Q E := numbers_ok0 h.numbers hz hc q
end
end Pc

set_option Elab.async false
set_option maxRecDepth 100000
set_option maxHeartbeats 4000000
/-! Pm8: nested data, the same handed as lists and tuples, and the law's comparing. -/
namespace Pc
open PySem PySem.Spec PyProof.Rows L2
open PyData (strOk)
section
variable {kk : Nat} {g : GS} {mc me : ES} {env : List Slot} {Q : Vl → Cells → Prop} {cs : Cells}
theorem comp_map0 {ds : List D} (F : D → D)
    (st : ∀ x ∈ ds, ∃ env1, g x env = some env1 ∧ (mc env1 cs).W (fun z c => tstW (truthD z.2) ((me env1 c).W (fun y c1 => (okTag kk y.1 = true ∧ (kk = 0 ∨ atomC c1 = true)) ∧ y.2 = F x ∧ c1 = cs) noE) False) noE)
    (en : Q (.fr kk, .lst (ds.map F)) cs) : compW kk g mc me env ds cs Q := by
  have := comp_map (f := id) (xs := ds) (kk := kk) (g := g) (mc := mc) (me := me) (env := env) (Q := Q) F st en
  simpa using this
theorem comp_st0 {ds : List D} (P : D → D → Prop) (I : Cells → Prop) (h0 : I cs)
    (st : ∀ x ∈ ds, ∀ cs, I cs → ∃ env1, g x env = some env1 ∧ (mc env1 cs).W (fun z c => tstW (truthD z.2) ((me env1 c).W (fun y c1 => (okTag kk y.1 = true ∧ (kk = 0 ∨ atomC c1 = true)) ∧ P x y.2 ∧ I c1) noE) False) noE)
    (en : ∀ ys c, All2 P ds ys → I c → Q (.fr kk, .lst ys) c) : compW kk g mc me env ds cs Q := by
  have := comp_st (f := id) (xs := ds) (kk := kk) (g := g) (mc := mc) (me := me) (env := env) (Q := Q) id P I h0 (fun x hx cs hI => ?_) (fun ys c h hI => by simpa using en ys c h hI)
  · simpa using this
  · obtain ⟨env1, e1, w⟩ := st x hx cs hI
    refine ⟨env1, e1, w.mono (fun z c h => ?_) fun _ _ _ z => z⟩
    cases ht : truthD z.2 with
    | none => rw [ht] at h; exact h.elim
    | some b =>
      rw [ht] at h
      cases b with
      | false => exact h.elim
      | true =>
        refine Rs.W.mono h (fun y c1 hy => ⟨hy.1, ⟨y.2, rfl, hy.2.1⟩, hy.2.2⟩) fun _ _ _ z => z
end
section
variable {N B C : List Slot → Cells → Prop} {R : D → Cells → Prop} {E : Str → List (Str × D) → List Slot → Cells → Prop} {env : List Slot} {cs : Cells}
theorem for_lst0 {ds : List D} {g : GS} {mb : SS} (J : Nat → List Slot → Cells → Prop) (h0 : J 0 env cs)
    (st : ∀ i (h : i < ds.length) env cs, J i env cs → ∃ env1, g ds[i] env = some env1 ∧ (mb env1 cs).W (J (i + 1)) N (J (i + 1)) R E)
    (en : ∀ env cs, J ds.length env cs → N env cs) : (forGo g mb ds env cs).W N B C R E := by
  have := for_lst (f := id) (xs := ds) (g := g) (mb := mb) (N := N) (B := B) (C := C) (R := R) (E := E) J h0 st en
  simpa using this
end
/-- nested tuples of numbers and texts (and, where f says so, None, True and False), n deep, b long -/
def D.tu (f : Bool) (b : Nat) : Nat → D → Bool
  | _, .non => f
  | _, .bl _ => f
  | _, .int _ => true
  | _, .str x => strOk x && decide (x.length ≤ 100)
  | n + 1, .tup ds => decide (ds.length ≤ b) && ds.all (D.tu f b n)
  | _, _ => false
theorem tu_tup {f : Bool} {b n : Nat} {ds : List D} : D.tu f b (n + 1) (.tup ds) = true ↔ ds.length ≤ b ∧ ∀ d ∈ ds, D.tu f b n d = true := by
  simp [D.tu]
theorem tu_mono {f f' : Bool} {b b' : Nat} (hf : f = true → f' = true) (hb : b ≤ b') : ∀ {n n' : Nat} {d : D}, n ≤ n' → D.tu f b n d = true → D.tu f' b' n' d = true
  | n, n', .non, _, h => by simp [D.tu] at h ⊢; exact hf h
  | n, n', .bl _, _, h => by simp [D.tu] at h ⊢; exact hf h
  | n, n', .int _, _, h => by simp [D.tu]
  | n, n', .str x, _, h => by simpa [D.tu] using h
  | 0, n', .tup ds, _, h => by simp [D.tu] at h
  | n + 1, 0, .tup ds, hn, h => by omega
  | n + 1, n' + 1, .tup ds, hn, h => by
    rw [tu_tup] at h ⊢
    exact ⟨by omega, fun d hd => tu_mono hf hb (by omega) (h.2 d hd)⟩
  | n, n', .ty _, _, h => by simp [D.tu] at h
  | n, n', .fn _, _, h => by simp [D.tu] at h
  | n, n', .cell _, _, h => by simp [D.tu] at h
  | n, n', .lst _, _, h => by simp [D.tu] at h
  | n, n', .frz _, _, h => by simp [D.tu] at h
  | n, n', .tpc _, _, h => by simp [D.tu] at h
  | n, n', .dK _ _, _, h => by simp [D.tu] at h
  | n, n', .dT _ _, _, h => by simp [D.tu] at h
  | n, n', .dI _ _, _, h => by simp [D.tu] at h
  | n, n', .obj _ _ _ _ _, _, h => by simp [D.tu] at h
  | n, n', .cls _ _ _ _, _, h => by simp [D.tu] at h
theorem tu_ty {f : Bool} {b n : Nat} {d : D} (h : D.tu f b n d = true) : d.typed = true := by
  cases d <;> first | rfl | (simp [D.tu] at h)
mutual
/-- h is d, some tuples as lists -/
def Sim : D → D → Prop
  | h, .tup ds => ∃ hs, (h = .tup hs ∨ h = .lst hs) ∧ SimL hs ds
  | h, d => h = d
def SimL : List D → List D → Prop
  | hs, [] => hs = []
  | hs, d :: ds => ∃ h hs', hs = h :: hs' ∧ Sim h d ∧ SimL hs' ds
end
theorem simL_iff : ∀ {hs ds : List D}, SimL hs ds ↔ All2 (fun d h => Sim h d) ds hs
  | hs, [] => by
    unfold SimL
    exact ⟨fun h => by rw [h]; exact .nil, fun h => by cases h; rfl⟩
  | hs, d :: ds => by
    unfold SimL
    constructor
    · rintro ⟨h, hs', rfl, h1, h2⟩
      exact .cons h1 (simL_iff.mp h2)
    · intro h
      cases h with
      | cons h1 h2 => exact ⟨_, _, rfl, h1, simL_iff.mpr h2⟩
theorem sim_tup {h : D} {ds : List D} : Sim h (.tup ds) ↔ ∃ hs, (h = .tup hs ∨ h = .lst hs) ∧ All2 (fun d h => Sim h d) ds hs := by
  have e : Sim h (.tup ds) = (∃ hs, (h = .tup hs ∨ h = .lst hs) ∧ SimL hs ds) := by rw [Sim]
  rw [e]
  simp only [simL_iff]
theorem sim_ty {f : Bool} {b n : Nat} {h d : D} (hs : Sim h d) (ht : D.tu f b n d = true) : h.typed = true := by
  cases d
  case tup ds =>
    obtain ⟨hs, h | h, _⟩ := sim_tup.mp hs <;> subst h <;> rfl
  all_goals
    unfold Sim at hs
    subst hs
    exact tu_ty ht
mutual
theorem sim_refl : ∀ d : D, Sim d d
  | .tup ds => sim_tup.mpr ⟨ds, .inl rfl, simAll_refl ds⟩
  | .non => rfl
  | .bl _ => rfl
  | .int _ => rfl
  | .str _ => rfl
  | .ty _ => rfl
  | .fn _ => rfl
  | .cell _ => rfl
  | .lst _ => rfl
  | .frz _ => rfl
  | .tpc _ => rfl
  | .dK _ _ => rfl
  | .dT _ _ => rfl
  | .dI _ _ => rfl
  | .obj _ _ _ _ _ => rfl
  | .cls _ _ _ _ => rfl
theorem simAll_refl : ∀ ds : List D, All2 (fun d h => Sim h d) ds ds
  | [] => .nil
  | d :: ds => .cons (sim_refl d) (simAll_refl ds)
end
section
variable {T : Tab} {con : Str → Option D} {rf : Str → Option Str} {k : Nat} {ns : List Int} {cs : Cells}
theorem listed_ok (hT : T "_law_listed" = some Cm.d__law_listed) {f : Bool} {b : Nat} (hb : b ≤ 1000) : ∀ (n : Nat) {d : D}, D.tu f b n d = true → ∃ h, (∀ cs, callK T con rf (k + n + 1) "_law_listed" [d] cs = .ok h cs) ∧ Sim h d := by
  intro n
  induction n with
  | zero =>
    intro d hd
    have hty := tu_ty hd
    have ht : d.isTup = false := by cases d <;> first | rfl | (simp [D.tu] at hd)
    refine ⟨d, fun cs => Rs.W.eq ?_, sim_refl d⟩
    rw [w_callK hT]
    simp [Cm.d__law_listed, hty, ht]
  | succ n ih =>
    intro d hd
    have hty := tu_ty hd
    cases ht : d.isTup with
    | false =>
      refine ⟨d, fun cs => Rs.W.eq ?_, sim_refl d⟩
      rw [w_callK hT]
      simp [Cm.d__law_listed, hty, ht]
    | true =>
      cases d <;> try (simp [D.isTup] at ht; done)
      rename_i ds
      rw [tu_tup] at hd
      have ih' : ∀ x ∈ ds, ∃ h, (∀ cs, callK T con rf (k + n + 1) "_law_listed" [x] cs = .ok h cs) ∧ Sim h x := fun x hx => ih (hd.2 x hx)
      obtain ⟨F, hF⟩ : ∃ F : D → D, ∀ x ∈ ds, (∀ cs, callK T con rf (k + n + 1) "_law_listed" [x] cs = .ok (F x) cs) ∧ Sim (F x) x := by
        classical
        exact ⟨fun x => if h : x ∈ ds then (ih' x h).choose else x, fun x hx => by simp only [hx, dif_pos]; exact (ih' x hx).choose_spec⟩
      refine ⟨.lst (ds.map F), fun cs => Rs.W.eq ?_, sim_tup.mpr ⟨_, .inr rfl, ?_⟩⟩
      · rw [show k + (n + 1) + 1 = (k + n + 1) + 1 by omega, w_callK hT]
        simp [Cm.d__law_listed, D.isTup]
        refine ⟨by omega, ?_⟩
        refine comp_map0 F (fun x hx => ⟨_, rfl, ?_⟩) ?_
        · simp [(hF x hx).1]
        · simp
      · clear hd ih' hty ht
        induction ds with
        | nil => exact .nil
        | cons d ds ihd => exact .cons (hF d (List.mem_cons_self ..)).2 (ihd fun x hx => hF x (List.mem_cons_of_mem _ hx))
/-- lists back to tuples -/
theorem tupled_ok (hT : T "_law_tupled" = some Cm.d__law_tupled) {f : Bool} {b : Nat} (hb : b ≤ 1000) : ∀ (n : Nat) {d h : D}, D.tu f b n d = true → Sim h d → ∀ cs, callK T con rf (k + n + 1) "_law_tupled" [h] cs = .ok d cs := by
  intro n
  induction n with
  | zero =>
    intro d h hd hs cs
    have hty := sim_ty hs hd
    have ht : h = d ∧ d.isTup = false ∧ d.isLst = false := by cases d <;> first | (simp [D.tu] at hd; done) | exact ⟨hs, rfl, rfl⟩
    obtain ⟨rfl, h1, h2⟩ := ht
    refine Rs.W.eq ?_
    rw [w_callK hT]
    simp [Cm.d__law_tupled, hty, h1, h2]
  | succ n ih =>
    intro d h hd hs cs
    have hty := sim_ty hs hd
    cases ht : d.isTup with
    | false =>
      have ht : h = d ∧ d.isTup = false ∧ d.isLst = false := by cases d <;> first | (simp [D.tu] at hd; done) | (simp [D.isTup] at ht; done) | exact ⟨hs, rfl, rfl⟩
      obtain ⟨rfl, h1, h2⟩ := ht
      refine Rs.W.eq ?_
      rw [w_callK hT]
      simp [Cm.d__law_tupled, hty, h1, h2]
    | true =>
      cases d <;> try (simp [D.isTup] at ht; done)
      rename_i ds
      rw [tu_tup] at hd
      obtain ⟨hs', hh, ha⟩ := sim_tup.mp hs
      have hl := ha.length
      have key : ∀ cs, compW 0 (gN 1) (sRet (.bl true)) (sCall 1 (callK T con rf (k + n + 1) "_law_tupled") (aCons (sVar 1) aNil)) [.sh h, .emp] hs' cs (fun x c => optW (tupleF [x]) fun r => r.fst.plain = true ∧ r.snd = .tup ds ∧ c = cs) := by
        intro cs
        refine comp_lst (f := id) (xs := hs') (fun i es c => es = ds.take i ∧ c = cs) ⟨by simp, rfl⟩ ?_ ?_ |> (fun h => by simpa using h)
        · rintro i hi es c ⟨rfl, rfl⟩
          have hi2 : i < ds.length := by omega
          refine ⟨_, rfl, ?_⟩
          have := ih (hd.2 ds[i] (List.getElem_mem hi2)) (ha.get i hi2 hi)
          simp [this]
        · rintro es c ⟨rfl, rfl⟩
          simp
          rw [← hl]
          simp
      refine Rs.W.eq ?_
      rw [show k + (n + 1) + 1 = (k + n + 1) + 1 by omega, w_callK hT]
      rcases hh with rfl | rfl
      · simp [Cm.d__law_tupled, D.isTup, D.isLst]
        exact ⟨by omega, key cs⟩
      · simp [Cm.d__law_tupled, D.isTup, D.isLst]
        exact ⟨by omega, key cs⟩
theorem either_ok (h : Has T) (hT : T "_law_either" = some Cm.d__law_either) (hn : ns ≠ []) {f : Bool} {b : Nat} (hb : b ≤ 1000) : ∀ (n : Nat) {d : D} {cs : Cells}, St cs → D.tu f b n d = true → (callK T con rf (k + n + 3) "_law_either" [.lst (ns.map .int), .cell 0, d] cs).W (fun h c => St c ∧ Sim h d) noE := by
  intro n
  induction n with
  | zero =>
    intro d cs hs hd
    have hty := tu_ty hd
    have ht : d.isTup = false := by cases d <;> first | rfl | (simp [D.tu] at hd)
    rw [w_callK hT]
    simp [Cm.d__law_either, hty, ht]
    exact ⟨hs, sim_refl d⟩
  | succ n ih =>
    intro d cs hs hd
    have hty := tu_ty hd
    cases ht : d.isTup with
    | false =>
      rw [w_callK hT]
      simp [Cm.d__law_either, hty, ht]
      exact ⟨hs, sim_refl d⟩
    | true =>
      cases d <;> try (simp [D.isTup] at ht; done)
      rename_i ds
      rw [tu_tup] at hd
      rw [show k + (n + 1) + 3 = (k + n + 3) + 1 by omega, w_callK hT]
      simp [Cm.d__law_either, D.isTup]
      refine ⟨by omega, ?_⟩
      refine comp_st0 (fun d h => Sim h d) St hs ?_ ?_
      · intro x hx cs hs
        refine ⟨_, rfl, ?_⟩
        simp
        refine (ih hs (hd.2 x hx)).to fun h c hh => ?_
        simp [hh.1, hh.2]
      · intro ys c hys hs
        simp
        refine take_st h hn hs (by decide) fun v c h0 h1 hs => ?_
        simp
        exact ⟨fun _ => ⟨hs, sim_tup.mpr ⟨ys, .inr rfl, hys⟩⟩, fun _ => ⟨hs, sim_tup.mpr ⟨ys, .inl rfl, hys⟩⟩⟩
theorem handed_ok (h : Has T) (h1 : T "_law_listed" = some Cm.d__law_listed) (h2 : T "_law_either" = some Cm.d__law_either) (h3 : T "_law_handed" = some Cm.d__law_handed) (hn : ns ≠ []) {f : Bool} {b n : Nat} (hb : b ≤ 1000) {d : D} {cs : Cells} (hs : St cs) (hd : D.tu f b n d = true) {Q : D → Cells → Prop} {E : EK} (q : ∀ h c, St c → Sim h d → Q h c) :
    (callK T con rf (k + n + 4) "_law_handed" [.lst (ns.map .int), .cell 0, d] cs).W Q E := by
  rw [w_callK h3]
  simp [Cm.d__law_handed]
  refine take_st h hn hs (by decide) fun v c v0 v1 hs => ?_
  simp
  refine ⟨fun _ => ?_, fun _ => ⟨fun _ => ?_, fun _ => ?_⟩⟩
  · refine (either_ok h h2 hn hb n hs hd).to fun h' c hh => ?_
    exact q _ _ hh.1 hh.2
  · obtain ⟨h', e, sm⟩ := listed_ok (k := k + 2) (con := con) (rf := rf) h1 hb n hd
    rw [show k + n + 3 = k + 2 + n + 1 by omega, e]
    exact q _ _ hs sm
  · exact q _ _ hs (sim_refl d)
theorem so_ok (hT : T "_law_so" = some Cm.d__law_so) {f : Bool} {b : Nat} (hb : b ≤ 1000) : ∀ (n : Nat) {d : D}, D.tu f b n d = true → ∀ cs, callK T con rf (k + n + 1) "_law_so" [d, d] cs = .ok (.bl true) cs := by
  have atom : ∀ (n : Nat) {d : D}, D.tu f b n d = true → d.isTup = false → ∀ cs, callK T con rf (k + n + 1) "_law_so" [d, d] cs = .ok (.bl true) cs := by
    intro n d hd ht cs
    have hty := tu_ty hd
    refine Rs.W.eq ?_
    rw [w_callK hT]
    cases d <;> try (simp [D.tu] at hd; done)
    case tup => simp [D.isTup] at ht
    case non => simp [Cm.d__law_so, D.isNon]
    case bl v => simp [Cm.d__law_so, D.isNon, D.isTup, D.isBl]
    case int v => simp [Cm.d__law_so, D.isNon, D.isTup, D.isBl, D.isInt']
    case str x =>
      have ok : strOk x = true := by simp [D.tu] at hd; exact hd.1
      simp [Cm.d__law_so, D.isNon, D.isTup, D.isBl, D.isInt', D.isStr, ok]
  intro n
  induction n with
  | zero =>
    intro d hd cs
    exact atom 0 hd (by cases d <;> first | rfl | (simp [D.tu] at hd)) cs
  | succ n ih =>
    intro d hd cs
    cases ht : d.isTup with
    | false => exact atom (n + 1) hd ht cs
    | true =>
      cases d <;> try (simp [D.isTup] at ht; done)
      rename_i ds
      rw [tu_tup] at hd
      refine Rs.W.eq ?_
      rw [show k + (n + 1) + 1 = (k + n + 1) + 1 by omega, w_callK hT]
      simp [Cm.d__law_so, D.isTup, D.isNon]
      refine ⟨rb (by omega) (by omega), ?_⟩
      obtain ⟨J, hJ⟩ : ∃ J : Nat → List Slot → Cells → Prop, J = (fun i env c => ∃ s2 : Slot, env = [.sh (.tup ds), .sh (.tup ds), s2] ∧ c = cs) := ⟨_, rfl⟩
      refine for_rng J ?_ ?_ ?_
      · rw [hJ]
        exact ⟨_, rfl, rfl⟩
      · intro i hi env c hh
        rw [hJ] at hh
        obtain ⟨s2, rfl, rfl⟩ := hh
        refine ⟨_, rfl, ?_⟩
        have hi : i < ds.length := by omega
        simp [List.getElem?_eq_getElem hi, ih (hd.2 ds[i] (List.getElem_mem hi))]
        rw [hJ]
        exact ⟨_, rfl, rfl⟩
      · intro env c hh
        rw [hJ] at hh
        obtain ⟨s2, rfl, rfl⟩ := hh
        simp
end
end Pc

set_option Elab.async false
set_option maxRecDepth 100000
set_option maxHeartbeats 4000000
/-! Pm9: the program's looks at letters and drawings. -/
namespace Pc
open PySem PySem.Spec PyProof.Rows L2
open PyData (strOk)
/-- the things of a sequence -/
def D.items : D → Option (List D)
  | .tup ds => some ds
  | .lst ds => some ds
  | _ => none
@[simp] theorem it_t {ds : List D} : (D.tup ds).items = some ds := rfl
@[simp] theorem it_l {ds : List D} : (D.lst ds).items = some ds := rfl
/-- nested sequences of numbers, texts, None, True, False -/
def D.nd : Nat → D → Bool
  | _, .non => true
  | _, .bl _ => true
  | _, .int _ => true
  | _, .str x => strOk x && decide (x.length ≤ 100)
  | n + 1, .tup ds => decide (ds.length ≤ 1000) && ds.all (D.nd n)
  | n + 1, .lst ds => decide (ds.length ≤ 1000) && ds.all (D.nd n)
  | _, _ => false
theorem nd_items {n : Nat} {d : D} {ds : List D} (h : D.nd n d = true) (e : d.items = some ds) : ∃ m, n = m + 1 ∧ ds.length ≤ 1000 ∧ ∀ x ∈ ds, D.nd m x = true := by
  cases d <;> simp [D.items] at e
  all_goals
    subst e
    cases n with
    | zero => simp [D.nd] at h
    | succ n =>
      simp [D.nd] at h
      exact ⟨n, rfl, h.1, h.2⟩
theorem nd_ty {n : Nat} {d : D} (h : D.nd n d = true) : d.typed = true := by
  cases d <;> first | rfl | (simp [D.nd] at h)
theorem nd_seq {n : Nat} {d : D} (h : D.nd n d = true) : (d.isLst || d.isTup) = d.items.isSome := by
  cases d <;> first | rfl | (simp [D.nd] at h)
theorem nd_none {n : Nat} {d : D} (h : D.nd n d = true) (e : d.items = none) : d.isLst = false ∧ d.isTup = false := by
  cases d <;> first | (exact ⟨rfl, rfl⟩) | (simp [D.nd] at h; done) | (simp [D.items] at e)
mutual
theorem nd_py : ∀ (n : Nat) (d : D), D.nd n d = true → d.isData = true ∧ d.py.canLay0 = true ∧ d.py.depth ≤ n
  | n, .non, _ => ⟨rfl, by simp [D.py, PyData.canLay0], by simp [D.py, PyData.depth]⟩
  | n, .bl _, _ => ⟨rfl, by simp [D.py, PyData.canLay0], by simp [D.py, PyData.depth]⟩
  | n, .int _, _ => ⟨rfl, by simp [D.py, PyData.canLay0], by simp [D.py, PyData.depth]⟩
  | n, .str x, h => ⟨rfl, by simp [D.nd] at h; simpa [D.py, PyData.canLay0] using h.1, by simp [D.py, PyData.depth]⟩
  | n + 1, .tup ds, h => by
    simp [D.nd] at h
    obtain ⟨a, b, c⟩ := nd_pyAll n ds h.2
    exact ⟨by simpa [D.isData] using a, by simpa [D.py, PyData.canLay0] using b, by simp [D.py, PyData.depth]; exact c⟩
  | n + 1, .lst ds, h => by
    simp [D.nd] at h
    obtain ⟨a, b, c⟩ := nd_pyAll n ds h.2
    exact ⟨by simpa [D.isData] using a, by simpa [D.py, PyData.canLay0] using b, by simp [D.py, PyData.depth]; exact c⟩
  | 0, .tup ds, h => by simp [D.nd] at h
  | 0, .lst ds, h => by simp [D.nd] at h
  | n, .ty _, h => by simp [D.nd] at h
  | n, .fn _, h => by simp [D.nd] at h
  | n, .cell _, h => by simp [D.nd] at h
  | n, .frz _, h => by simp [D.nd] at h
  | n, .tpc _, h => by simp [D.nd] at h
  | n, .dK _ _, h => by simp [D.nd] at h
  | n, .dT _ _, h => by simp [D.nd] at h
  | n, .dI _ _, h => by simp [D.nd] at h
  | n, .obj _ _ _ _ _, h => by simp [D.nd] at h
  | n, .cls _ _ _ _, h => by simp [D.nd] at h
theorem nd_pyAll : ∀ (n : Nat) (ds : List D), (∀ d ∈ ds, D.nd n d = true) → D.allData ds = true ∧ PyData.canLayAll0 (D.pyAll ds) = true ∧ PyData.depthAll (D.pyAll ds) ≤ n
  | n, [], _ => ⟨rfl, by simp [D.pyAll, PyData.canLayAll0], by simp [D.pyAll, PyData.depthAll]⟩
  | n, d :: ds, h => by
    obtain ⟨a, b, c⟩ := nd_py n d (h d (List.mem_cons_self ..))
    obtain ⟨a', b', c'⟩ := nd_pyAll n ds fun x hx => h x (List.mem_cons_of_mem _ hx)
    exact ⟨by simp [D.allData, a, a'], by simp [D.pyAll, PyData.canLayAll0, b, b'], by simp [D.pyAll, PyData.depthAll]; omega⟩
end
theorem nd_ok {n : Nat} {d : D} (h : D.nd n d = true) (hn : n ≤ 60) : d.ok = true := by
  obtain ⟨a, b, c⟩ := nd_py n d h
  simp [D.ok, a, SeqAt.shaped, b]
  omega
mutual
theorem sim_nd {f : Bool} {b : Nat} (hb : b ≤ 1000) : ∀ (n : Nat) (d h : D), D.tu f b n d = true → Sim h d → D.nd n h = true
  | n, .tup ds, h, ht, hs => by
    cases n with
    | zero => simp [D.tu] at ht
    | succ n =>
      rw [tu_tup] at ht
      obtain ⟨hs', hh, ha⟩ := sim_tup.mp hs
      have hl := ha.length
      have := simAll_nd hb n ds hs' ht.2 ha
      rcases hh with rfl | rfl
      · simp [D.nd]; exact ⟨by omega, this⟩
      · simp [D.nd]; exact ⟨by omega, this⟩
  | n, .non, h, ht, hs => by unfold Sim at hs; subst hs; simp [D.nd]
  | n, .bl _, h, ht, hs => by unfold Sim at hs; subst hs; simp [D.nd]
  | n, .int _, h, ht, hs => by unfold Sim at hs; subst hs; simp [D.nd]
  | n, .str _, h, ht, hs => by unfold Sim at hs; subst hs; simpa [D.nd, D.tu] using ht
  | n, .ty _, h, ht, hs => by simp [D.tu] at ht
  | n, .fn _, h, ht, hs => by simp [D.tu] at ht
  | n, .cell _, h, ht, hs => by simp [D.tu] at ht
  | n, .lst _, h, ht, hs => by simp [D.tu] at ht
  | n, .frz _, h, ht, hs => by simp [D.tu] at ht
  | n, .tpc _, h, ht, hs => by simp [D.tu] at ht
  | n, .dK _ _, h, ht, hs => by simp [D.tu] at ht
  | n, .dT _ _, h, ht, hs => by simp [D.tu] at ht
  | n, .dI _ _, h, ht, hs => by simp [D.tu] at ht
  | n, .obj _ _ _ _ _, h, ht, hs => by simp [D.tu] at ht
  | n, .cls _ _ _ _, h, ht, hs => by simp [D.tu] at ht
theorem simAll_nd {f : Bool} {b : Nat} (hb : b ≤ 1000) : ∀ (n : Nat) (ds hs : List D), (∀ d ∈ ds, D.tu f b n d = true) → All2 (fun d h => Sim h d) ds hs → ∀ h ∈ hs, D.nd n h = true
  | n, [], _, _, .nil, h, hm => by cases hm
  | n, d :: ds, x :: hs, ht, .cons h1 h2, h, hm => by
    rcases List.mem_cons.mp hm with q | q
    · rw [q]
      exact sim_nd hb n d x (ht d (List.mem_cons_self ..)) h1
    · exact simAll_nd hb n ds hs (fun y hy => ht y (List.mem_cons_of_mem _ hy)) h2 h q
end
/-! the program's looks, plainly -/
def rowIs (lo hi : Nat) (d : D) : Bool := match d.items with
  | some ds => decide (lo ≤ ds.length) && decide (ds.length ≤ hi)
  | none => false
def manIs : D → Bool
  | .str x => manners.contains x
  | _ => false
def ringIs (d : D) : Bool := rowIs 3 8 d && (d.items.getD []).all manIs
def lenD (d : D) : Nat := (d.items.getD []).length
def letIs (d : D) : Bool := rowIs 1 3 d && (d.items.getD []).all ringIs && decide (((d.items.getD []).map lenD).sum ≤ 10)
structure HasP (T : Tab) (con : Str → Option D) : Prop where
  row : T "is_row" = some Cm.d_is_row
  whole : T "is_whole" = some Cm.d_is_whole
  between : T "is_whole_between" = some Cm.d_is_whole_between
  ring : T "_is_ring" = some Cm.d__is_ring
  letter : T "is_letter" = some Cm.d_is_letter
  need : T "need_letter" = some Cm.d_need_letter
  coord : T "is_coordinate" = some Cm.d_is_coordinate
  c1 : con "FEWEST_IN_RING" = some (.int 3)
  c2 : con "MOST_IN_RING" = some (.int 8)
  c3 : con "MANNERS" = some (.tpc (manners.map D.str))
  c4 : con "MOST_RINGS" = some (.int 3)
  c5 : con "MOST_CORNERS" = some (.int 10)
  c6 : con "FARTHEST" = some (.int 99)
section
variable {T : Tab} {con : Str → Option D} {rf : Str → Option Str} {k : Nat} {cs : Cells}
theorem row_ok (P : HasP T con) {n : Nat} {d : D} (hd : D.nd n d = true) {lo hi : Nat} : callK T con rf (k + 1) "is_row" [d, .int lo, .int hi] cs = .ok (.bl (rowIs lo hi d)) cs := by
  refine Rs.W.eq ?_
  rw [w_callK P.row]
  simp [Cm.d_is_row, nd_ty hd]
  unfold rowIs
  cases e : d.items with
  | none =>
    obtain ⟨h1, h2⟩ := nd_none hd e
    simp [h1, h2]
  | some ds =>
    have hsq : d.isLst = true ∨ d.isTup = true := by have := nd_seq hd; rw [e] at this; simpa using this
    have hlen : lenF [((Tg.st, d) : Vl)] = some (.st, .int ds.length) := by
      cases d <;> simp [D.items] at e <;> subst e <;> rfl
    simp [hlen]
    refine ⟨fun _ => ⟨fun h1 => by simp [h1], fun h1 => by omega⟩, fun h1 h2 => ?_⟩
    rw [h1, h2] at hsq
    simp at hsq
def wholeIs : D → Bool
  | .int _ => true
  | _ => false
def inIs (lo hi : Int) : D → Bool
  | .int i => decide (lo ≤ i) && decide (i ≤ hi)
  | _ => false
theorem whole_ok (P : HasP T con) {n : Nat} {d : D} (hd : D.nd n d = true) : callK T con rf (k + 1) "is_whole" [d] cs = .ok (.bl (wholeIs d)) cs := by
  refine Rs.W.eq ?_
  rw [w_callK P.whole]
  simp [Cm.d_is_whole, nd_ty hd]
  cases d <;> first | (simp [D.nd] at hd; done) | simp [D.isInt', D.isBl, wholeIs]
theorem between_ok (P : HasP T con) {n : Nat} {d : D} (hd : D.nd n d = true) {lo hi : Int} : callK T con rf (k + 2) "is_whole_between" [d, .int lo, .int hi] cs = .ok (.bl (inIs lo hi d)) cs := by
  refine Rs.W.eq ?_
  rw [w_callK P.between]
  simp [Cm.d_is_whole_between, whole_ok P hd]
  cases d <;> try simp [wholeIs, inIs]
  refine ⟨fun h => by simp [h], fun h => by omega⟩
theorem coord_ok (P : HasP T con) {n : Nat} {d : D} (hd : D.nd n d = true) : callK T con rf (k + 3) "is_coordinate" [d] cs = .ok (.bl (inIs (-99) 99 d)) cs := by
  refine Rs.W.eq ?_
  rw [w_callK P.coord]
  simp [Cm.d_is_coordinate, P.c6, between_ok P hd]
theorem man_eq {n : Nat} {d : D} (hd : D.nd n d = true) : anyEqv (manners.map D.str) d = manIs d := by
  cases d <;> try (simp [anyEqv, manIs, D.eqv, D.py, PyData.eqv]; done)
  rename_i x
  simp only [anyEqv, List.any_map, manIs]
  unfold manners
  simp only [List.any_cons, List.any_nil, Function.comp, D.eqv, D.py, PyData.eqv, List.contains_cons, List.contains_nil]
  simp only [Bool.or_false, BEq.comm]
theorem manners_ok : (D.tpc (manners.map D.str)).ok = true := (nd_ok (d := .tup (manners.map D.str)) (n := 1) (by decide +kernel) (by decide) :)
theorem in_man {n : Nat} {d : D} (hd : D.nd n d = true) (hn : n ≤ 60) {t : Tg} : inD (.st, d) (t, .tpc (manners.map D.str)) = some (.st, .bl (manIs d)) := by
  show (if _ then _ else _) = _
  rw [if_pos ⟨rfl, nd_ok hd hn, manners_ok⟩, man_eq hd]
theorem ring_ok (P : HasP T con) {n : Nat} {d : D} (hd : D.nd n d = true) (hn : n ≤ 60) : callK T con rf (k + 2) "_is_ring" [d] cs = .ok (.bl (ringIs d)) cs := by
  refine Rs.W.eq ?_
  rw [w_callK P.ring]
  have r := fun cs => row_ok P (k := k) (rf := rf) (cs := cs) hd (lo := 3) (hi := 8)
  simp at r
  simp [Cm.d__is_ring, P.c1, P.c2, r]
  unfold ringIs
  refine ⟨fun h => by simp [h], fun h => ?_⟩
  rw [h]
  cases e : d.items with
  | none => unfold rowIs at h; rw [e] at h; cases h
  | some ds =>
    obtain ⟨m, rfl, hl, hx⟩ := nd_items hd e
    have hseq : seqK ((Tg.st, d) : Vl) = some ds := by
      cases d <;> simp [D.items] at e <;> subst e <;> rfl
    simp [hseq]
    refine ⟨by omega, ?_⟩
    refine comp_map0 (fun x => .bl (manIs x)) (fun x hxm => ⟨_, rfl, ?_⟩) ?_
    · simp [P.c3, in_man (hx x hxm) (by omega)]
    · simp [blsOf_map]
theorem letterP_ok (P : HasP T con) {n : Nat} {d : D} (hd : D.nd n d = true) (hn : n ≤ 60) : callK T con rf (k + 3) "is_letter" [d] cs = .ok (.bl (letIs d)) cs := by
  refine Rs.W.eq ?_
  rw [w_callK P.letter]
  have r := fun cs => row_ok P (k := k + 1) (rf := rf) (cs := cs) hd (lo := 1) (hi := 3)
  simp at r
  simp [Cm.d_is_letter, P.c4, P.c5, r]
  unfold letIs
  cases h : rowIs 1 3 d with
  | false => simp
  | true =>
    cases e : d.items with
    | none => unfold rowIs at h; rw [e] at h; cases h
    | some ds =>
      obtain ⟨m, rfl, hl, hx⟩ := nd_items hd e
      have hseq : seqK ((Tg.st, d) : Vl) = some ds := by
        cases d <;> simp [D.items] at e <;> subst e <;> rfl
      simp [hseq]
      refine ⟨by omega, ?_⟩
      refine comp_map0 (fun x => .bl (ringIs x)) (fun x hxm => ⟨_, rfl, ?_⟩) ?_
      · simp [ring_ok P (hx x hxm) (show m ≤ 60 by omega)]
      · simp [blsOf_map]
        refine ⟨fun x hxm hf hall => absurd (hall x hxm) (by simp [hf]), fun hall => ⟨by omega, ?_⟩⟩
        refine comp_map0 (fun x => .int (lenD x)) (fun x hxm => ⟨_, rfl, ?_⟩) ?_
        · have hr := hall x hxm
          unfold ringIs rowIs at hr
          cases e2 : x.items with
          | none => rw [e2] at hr; cases hr
          | some es =>
            have : lenF [((Tg.st, x) : Vl)] = some (.st, .int es.length) := by
              cases x <;> simp [D.items] at e2 <;> subst e2 <;> rfl
            simp [this, lenD, e2]
        · have e1 : intsOf (ds.map fun x => D.int (lenD x)) = some (ds.map fun x => (lenD x : Int)) := by
            rw [show (ds.map fun x => D.int (lenD x)) = (ds.map fun x => (lenD x : Int)).map D.int by simp [Function.comp_def], intsOf_map]
          have e2 : (ds.map fun x => (lenD x : Int)).sum = ((ds.map lenD).sum : Nat) := by
            clear hall hx hseq hl e h r hd e1
            induction ds with
            | nil => rfl
            | cons a l ih => simp [ih]
          have e3 : ds.all ringIs = true := List.all_eq_true.mpr hall
          simp [e1, e2, e3]
          omega
theorem need_ok (P : HasP T con) {n : Nat} {d : D} (hd : D.nd n d = true) (hn : n ≤ 60) {at_ : Int} (h : letIs d = true) : callK T con rf (k + 4) "need_letter" [d, .int at_] cs = .ok .non cs := by
  refine Rs.W.eq ?_
  rw [w_callK P.need]
  simp [Cm.d_need_letter, letterP_ok P hd hn, h]
theorem need_exc (P : HasP T con) (hrf : rf "BadValue" = some "at") {n : Nat} {d : D} (hd : D.nd n d = true) (hn : n ≤ 60) {at_ : Int} (h : letIs d = false) {Q : D → Cells → Prop} {E : EK} (e : E "BadValue" [("at", .int at_)] cs) : (callK T con rf (k + 4) "need_letter" [d, .int at_] cs).W Q E := by
  rw [w_callK P.need]
  simp [Cm.d_need_letter, letterP_ok P hd hn, h, hrf]
  exact e
end
end Pc

set_option Elab.async false
set_option maxRecDepth 100000
set_option maxHeartbeats 4000000
/-! Pm10: the program's looks at drawings. -/
namespace Pc
open PySem PySem.Spec PyProof.Rows L2
open PyData (strOk)
def placeD (fs : List Str) : Def := ⟨["value", "is_number"], ["value", "is_number", "worth"], (.cons (.ret (.bo .And (.cons (.call "is_row" (.cons (.var 0) (.cons (.ci 2) (.cons (.ci 2) .nil)))) (.cons (.bf .all (.cons (.comp 0 (.n 2) (.seq (.var 0)) .none (.callv 1 fs (.cons (.var 2) .nil))) .nil)) .nil)))) .nil)⟩
def placeIs (p : D → Bool) (d : D) : Bool := rowIs 2 2 d && (d.items.getD []).all p
def ropIs (p : D → Bool) (m : Nat) (d : D) : Bool := rowIs m m d && (d.items.getD []).all (placeIs p)
def hasIs (p : D → Bool) (ls : List Nat) (d : D) : Bool := rowIs ls.length ls.length d && (ls.zip (d.items.getD [])).all fun q => ropIs p q.1 q.2
theorem row_some {lo hi : Nat} {d : D} (h : rowIs lo hi d = true) : ∃ ds, d.items = some ds ∧ lo ≤ ds.length ∧ ds.length ≤ hi ∧ seqK ((Tg.st, d) : Vl) = some ds ∧ lenF [((Tg.st, d) : Vl)] = some (.st, .int ds.length) := by
  unfold rowIs at h
  cases e : d.items with
  | none => rw [e] at h; cases h
  | some ds =>
    rw [e] at h
    simp at h
    refine ⟨ds, rfl, h.1, h.2, ?_, ?_⟩
    · cases d <;> simp [D.items] at e <;> subst e <;> rfl
    · cases d <;> simp [D.items] at e <;> subst e <;> rfl
section
variable {T : Tab} {con : Str → Option D} {rf : Str → Option Str} {k : Nat} {cs : Cells}
theorem place_ok (P : HasP T con) {fs : List Str} (hP : T "is_place" = some (placeD fs)) {f : Str} (hf : fs.contains f = true) {p : D → Bool} (hp : ∀ (n : Nat) (d : D) (cs : Cells), D.nd n d = true → n ≤ 60 → callK T con rf (k + 1) f [d] cs = .ok (.bl (p d)) cs)
    {n : Nat} {d : D} (hd : D.nd n d = true) (hn : n ≤ 60) : callK T con rf (k + 2) "is_place" [d, .fn f] cs = .ok (.bl (placeIs p d)) cs := by
  refine Rs.W.eq ?_
  rw [w_callK hP]
  have hf' : f ∈ fs := by simpa using hf
  have r := fun cs => row_ok P (k := k) (rf := rf) (cs := cs) hd (lo := 2) (hi := 2)
  simp at r
  simp [placeD, r]
  unfold placeIs
  refine ⟨fun h2 => ?_, fun h2 => by simp [h2]⟩
  obtain ⟨es, e', _, _, hseq', _⟩ := row_some h2
  obtain ⟨n'', rfl, hl', hx'⟩ := nd_items hd e'
  rw [h2]
  simp [hseq', e']
  refine ⟨by omega, ?_⟩
  refine comp_map0 (fun x => .bl (p x)) (fun y hym => ⟨_, rfl, ?_⟩) ?_
  · simp [hf', hp _ y _ (hx' y hym) (by omega)]
  · simp [blsOf_map]
theorem rop_ok (P : HasP T con) {fs : List Str} (hP : T "is_place" = some (placeD fs)) (hT : T "_is_ring_of_places" = some Cm.d__is_ring_of_places) {f : Str} (hf : fs.contains f = true) {p : D → Bool} (hp : ∀ (n : Nat) (d : D) (cs : Cells), D.nd n d = true → n ≤ 60 → callK T con rf (k + 1) f [d] cs = .ok (.bl (p d)) cs)
    {n : Nat} {d : D} (hd : D.nd n d = true) (hn : n ≤ 60) {m : Nat} : callK T con rf (k + 3) "_is_ring_of_places" [d, .int m, .fn f] cs = .ok (.bl (ropIs p m d)) cs := by
  refine Rs.W.eq ?_
  rw [w_callK hT]
  simp [Cm.d__is_ring_of_places, row_ok P hd]
  unfold ropIs
  refine ⟨fun h => ?_, fun h => by simp [h]⟩
  obtain ⟨ds, e, _, _, hseq, _⟩ := row_some h
  obtain ⟨n', rfl, hl, hx⟩ := nd_items hd e
  rw [h]
  simp [hseq, e]
  refine ⟨by omega, ?_⟩
  refine comp_map0 (fun x => .bl (placeIs p x)) (fun x hxm => ⟨_, rfl, ?_⟩) ?_
  · simp [place_ok P hP hf hp (hx x hxm) (show n' ≤ 60 by omega)]
  · simp [blsOf_map]
theorem has_ok (P : HasP T con) {fs : List Str} (hP : T "is_place" = some (placeD fs)) (hR : T "_is_ring_of_places" = some Cm.d__is_ring_of_places) (hT : T "has_places" = some Cm.d_has_places) {f : Str} (hf : fs.contains f = true) {p : D → Bool} (hp : ∀ (n : Nat) (d : D) (cs : Cells), D.nd n d = true → n ≤ 60 → callK T con rf (k + 1) f [d] cs = .ok (.bl (p d)) cs)
    {n : Nat} {d : D} (hd : D.nd n d = true) (hn : n ≤ 60) {l : D} {lsd : List D} {ls : List Nat} (hl : l.items = some lsd) (hls : All2 (fun r m => ∃ es, r.items = some es ∧ es.length = m) lsd ls) : callK T con rf (k + 4) "has_places" [l, d, .fn f] cs = .ok (.bl (hasIs p ls d)) cs := by
  have hll := hls.length
  have hseql : seqK ((Tg.st, l) : Vl) = some lsd ∧ lenF [((Tg.st, l) : Vl)] = some (.st, .int ls.length) := by
    rw [← hll]
    cases l <;> simp [D.items] at hl <;> subst hl <;> exact ⟨rfl, rfl⟩
  refine Rs.W.eq ?_
  rw [w_callK hT]
  simp [Cm.d_has_places, hseql, row_ok P hd]
  unfold hasIs
  refine ⟨fun h => by simp [h], fun h => ?_⟩
  obtain ⟨ds, e, h1, h2, hseq, _⟩ := row_some h
  obtain ⟨n', rfl, hlen, hx⟩ := nd_items hd e
  rw [h]
  simp [hseq, e]
  refine ⟨by omega, ?_⟩
  have zl : (lsd.zip ds).length = (ls.zip ds).length := by simp; omega
  have key : ∀ (P : List D → Prop), P ((ls.zip ds).map fun q => D.bl (ropIs p q.1 q.2)) → ∀ {g : GS} {me : ES} {env : List Slot} {R : Cells → Prop}, (∀ c, c = cs → R c) → (∀ i (h : i < lsd.length) (h2 : i < ds.length) (h3 : i < ls.length), ∃ env1, g (.tup [lsd[i], ds[i]]) env = some env1 ∧ (me env1 cs).W (fun y c1 => y.1.plain = true ∧ y.2 = .bl (ropIs p ls[i] ds[i]) ∧ c1 = cs) noE) →
      compW 0 g (sRet (.bl true)) me env ((lsd.zip ds).map fun q => .tup [q.1, q.2]) cs (fun x c => x.1 = .fr 0 ∧ (∃ es, x.2 = .lst es ∧ P es) ∧ R c) := by
    intro P hP g me env R hR st
    refine comp_lst (fun i es c => es = ((ls.zip ds).take i).map (fun q => D.bl (ropIs p q.1 q.2)) ∧ c = cs) ⟨by simp, rfl⟩ ?_ ?_
    · rintro i hi es c ⟨rfl, rfl⟩
      have hi1 : i < lsd.length := by simp at hi; omega
      have hi2 : i < ds.length := by simp at hi; omega
      have hi3 : i < ls.length := by omega
      obtain ⟨env1, e1, w⟩ := st i hi1 hi2 hi3
      refine ⟨env1, by simpa using e1, ?_⟩
      simp
      refine w.mono (fun y c1 hy => ?_) fun _ _ _ z => z
      refine ⟨hy.1, ?_, hy.2.2⟩
      have hiz : i < (ls.zip ds).length := by simp; omega
      rw [List.take_succ_eq_append_getElem (by simpa using hiz), hy.2.1]
      simp
    · rintro es c ⟨rfl, rfl⟩
      refine ⟨rfl, ⟨_, rfl, ?_⟩, hR _ rfl⟩
      rw [zl, List.take_length]
      exact hP
  have := key (fun es => es = (ls.zip ds).map fun q => D.bl (ropIs p q.1 q.2)) rfl (g := gT [3, 4]) (me := sCall 3 (callK T con rf (k + 3) "_is_ring_of_places") (aCons (sVar 4) (aCons (appA (aCons (sVar 3) aNil) lenF) (aCons (sVar 2) aNil)))) (env := [.sh l, .sh d, .sh (.fn f), .emp, .emp]) (R := fun c => c = cs) (fun c h => h) ?_
  · unfold compW at this ⊢
    revert this
    generalize compGo 0 (gT [3, 4]) (sRet (.bl true)) (sCall 3 (callK T con rf (k + 3) "_is_ring_of_places") (aCons (sVar 4) (aCons (appA (aCons (sVar 3) aNil) lenF) (aCons (sVar 2) aNil)))) [.sh l, .sh d, .sh (.fn f), .emp, .emp] ((lsd.zip ds).map fun q => .tup [q.1, q.2]) cs = r
    intro this
    cases r with
    | ok es c =>
      obtain ⟨_, ⟨es', he, rfl⟩, rfl⟩ := this
      cases he
      simp [blsOf_map]
    | _ => exact this.elim
  · intro i h1 h2 h3
    refine ⟨_, gT_2 (by simp) (by simp), ?_⟩
    obtain ⟨es, he, hm⟩ := hls.get i h1 h3
    have hlenr : lenF [((Tg.st, lsd[i]) : Vl)] = some (.st, .int ls[i]) := by
      rw [← hm]
      generalize lsd[i] = r at he
      cases r <;> simp [D.items] at he <;> subst he <;> rfl
    simp [hlenr, rop_ok P hP hR hf hp (hx ds[i] (List.getElem_mem _)) (show n' ≤ 60 by omega)]
end
end Pc

set_option Elab.async false
set_option maxRecDepth 100000
set_option maxHeartbeats 4000000
/-! Pm11: the law's own looks, and that handing on as lists changes nothing. -/
namespace Pc
open PySem PySem.Spec PyProof.Rows L2
open PyData (strOk)
theorem sim_cases {f : Bool} {b n : Nat} {h d : D} (ht : D.tu f b n d = true) (hs : Sim h d) : (d.items = none ∧ h = d) ∨ ∃ ds hs, d = .tup ds ∧ h.items = some hs ∧ All2 (fun d h => Sim h d) ds hs := by
  cases d <;> try (left; unfold Sim at hs; exact ⟨rfl, hs⟩)
  case tup ds =>
    right
    obtain ⟨hs', hh, ha⟩ := sim_tup.mp hs
    rcases hh with rfl | rfl
    · exact ⟨ds, hs', rfl, rfl, ha⟩
    · exact ⟨ds, hs', rfl, rfl, ha⟩
  case lst => simp [D.tu] at ht
theorem sim_row {f : Bool} {b n : Nat} {h d : D} (ht : D.tu f b n d = true) (hs : Sim h d) (lo hi : Nat) : rowIs lo hi h = rowIs lo hi d := by
  rcases sim_cases ht hs with ⟨_, rfl⟩ | ⟨ds, hs', rfl, e, ha⟩
  · rfl
  · unfold rowIs
    rw [e]
    show (decide (lo ≤ hs'.length) && decide (hs'.length ≤ hi)) = (decide (lo ≤ ds.length) && decide (ds.length ≤ hi))
    rw [ha.length]
theorem all2_all {α β : Type} {P : α → β → Prop} {as : List α} {bs : List β} {p : α → Bool} {q : β → Bool} (h : All2 P as bs) (e : ∀ a b, a ∈ as → P a b → q b = p a) : bs.all q = as.all p := by
  induction h with
  | nil => rfl
  | cons h1 h2 ih => rw [List.all_cons, List.all_cons, e _ _ (List.mem_cons_self ..) h1, ih fun a b m => e a b (List.mem_cons_of_mem _ m)]
theorem sim_all {f : Bool} {b n : Nat} {h d : D} (ht : D.tu f b n d = true) (hs : Sim h d) {p : D → Bool} (hp : ∀ (n : Nat) (h d : D), D.tu f b n d = true → Sim h d → p h = p d) : (h.items.getD []).all p = (d.items.getD []).all p := by
  rcases sim_cases ht hs with ⟨_, rfl⟩ | ⟨ds, hs', rfl, e, ha⟩
  · rfl
  · rw [e]
    cases n with
    | zero => simp [D.tu] at ht
    | succ n =>
      rw [tu_tup] at ht
      exact all2_all ha fun a b m s => hp n b a (ht.2 a m) s
theorem sim_man {f : Bool} {b : Nat} (n : Nat) (h d : D) (ht : D.tu f b n d = true) (hs : Sim h d) : manIs h = manIs d := by
  rcases sim_cases ht hs with ⟨_, rfl⟩ | ⟨ds, hs', rfl, e, ha⟩
  · rfl
  · cases h <;> simp [D.items] at e <;> rfl
theorem sim_in {f : Bool} {b : Nat} {lo hi : Int} (n : Nat) (h d : D) (ht : D.tu f b n d = true) (hs : Sim h d) : inIs lo hi h = inIs lo hi d := by
  rcases sim_cases ht hs with ⟨_, rfl⟩ | ⟨ds, hs', rfl, e, ha⟩
  · rfl
  · cases h <;> simp [D.items] at e <;> rfl
theorem sim_ring {f : Bool} {b : Nat} (n : Nat) (h d : D) (ht : D.tu f b n d = true) (hs : Sim h d) : ringIs h = ringIs d := by
  unfold ringIs
  rw [sim_row ht hs, sim_all ht hs sim_man]
theorem sim_len {f : Bool} {b n : Nat} {h d : D} (ht : D.tu f b n d = true) (hs : Sim h d) : lenD h = lenD d := by
  rcases sim_cases ht hs with ⟨_, rfl⟩ | ⟨ds, hs', rfl, e, ha⟩
  · rfl
  · unfold lenD
    rw [e]
    exact ha.length.symm
theorem sim_let {f : Bool} {b n : Nat} {h d : D} (ht : D.tu f b n d = true) (hs : Sim h d) : letIs h = letIs d := by
  unfold letIs
  rw [sim_row ht hs, sim_all ht hs sim_ring]
  congr 2
  rcases sim_cases ht hs with ⟨_, rfl⟩ | ⟨ds, hs', rfl, e, ha⟩
  · rfl
  · rw [e]
    cases n with
    | zero => simp [D.tu] at ht
    | succ n =>
      rw [tu_tup] at ht
      have h2 := ht.2
      show ((hs'.map lenD).sum ≤ 10) = ((ds.map lenD).sum ≤ 10)
      have : hs'.map lenD = ds.map lenD := by
        clear ht e hs
        induction ha with
        | nil => rfl
        | cons h1 h3 ih => rw [List.map_cons, List.map_cons, sim_len (h2 _ (List.mem_cons_self ..)) h1, ih fun x hx => h2 x (List.mem_cons_of_mem _ hx)]
      rw [this]
theorem sim_place {f : Bool} {b : Nat} {p : D → Bool} (hp : ∀ (n : Nat) (h d : D), D.tu f b n d = true → Sim h d → p h = p d) (n : Nat) (h d : D) (ht : D.tu f b n d = true) (hs : Sim h d) : placeIs p h = placeIs p d := by
  unfold placeIs
  rw [sim_row ht hs, sim_all ht hs hp]
theorem sim_rop {f : Bool} {b : Nat} {p : D → Bool} (hp : ∀ (n : Nat) (h d : D), D.tu f b n d = true → Sim h d → p h = p d) {m : Nat} (n : Nat) (h d : D) (ht : D.tu f b n d = true) (hs : Sim h d) : ropIs p m h = ropIs p m d := by
  unfold ropIs
  rw [sim_row ht hs, sim_all ht hs (sim_place hp)]
theorem sim_has {f : Bool} {b n : Nat} {h d : D} (ht : D.tu f b n d = true) (hs : Sim h d) {p : D → Bool} (hp : ∀ (n : Nat) (h d : D), D.tu f b n d = true → Sim h d → p h = p d) {ls : List Nat} : hasIs p ls h = hasIs p ls d := by
  unfold hasIs
  rw [sim_row ht hs]
  congr 1
  rcases sim_cases ht hs with ⟨_, rfl⟩ | ⟨ds, hs', rfl, e, ha⟩
  · rfl
  · rw [e]
    cases n with
    | zero => simp [D.tu] at ht
    | succ n =>
      rw [tu_tup] at ht
      have h2 := ht.2
      show ((ls.zip hs').all _) = ((ls.zip ds).all _)
      clear ht e hs
      induction ha generalizing ls with
      | nil => rfl
      | cons h1 h3 ih =>
        cases ls with
        | nil => rfl
        | cons m ls =>
          rw [List.zip_cons_cons, List.zip_cons_cons, List.all_cons, List.all_cons, ih fun x hx => h2 x (List.mem_cons_of_mem _ hx)]
          congr 1
          exact sim_rop hp n _ _ (h2 _ (List.mem_cons_self ..)) h1
theorem nd_tu {f : Bool} {b : Nat} (hb : b ≤ 1000) {n : Nat} {d : D} (h : D.tu f b n d = true) : D.nd n d = true := sim_nd hb n d d h (sim_refl d)
theorem tu_seq {f : Bool} {b n : Nat} {d : D} (h : D.tu f b n d = true) : d.isTup = d.items.isSome := by
  cases d <;> first | rfl | (simp [D.tu] at h)
theorem notin_man {n : Nat} {d : D} (hd : D.nd n d = true) (hn : n ≤ 60) {t : Tg} : notInD (.st, d) (t, .tup [.str ("any" : Str), .str ("left" : Str), .str ("right" : Str), .str ("straight" : Str)]) = some (.st, .bl (!manIs d)) := by
  have := in_man hd hn (t := t)
  unfold notInD
  rw [show inD (Tg.st, d) (t, .tup [.str ("any" : Str), .str ("left" : Str), .str ("right" : Str), .str ("straight" : Str)]) = some (.st, .bl (manIs d)) from this]
def psum (ds : List D) (i : Nat) : Int := (((ds.take i).map lenD).sum : Nat)
theorem psum_succ {ds : List D} {i : Nat} (h : i < ds.length) : psum ds (i + 1) = psum ds i + (lenD ds[i] : Nat) := by
  unfold psum
  rw [List.take_succ_eq_append_getElem h]
  simp only [List.map_append, List.map_cons, List.map_nil, List.sum_append, List.sum_cons, List.sum_nil]
  omega
section
variable {T : Tab} {con : Str → Option D} {rf : Str → Option Str} {k : Nat} {cs : Cells}
theorem lawlet_ok (hT : T "_law_is_letter" = some Cm.d__law_is_letter) {f : Bool} {b n : Nat} (hb : b ≤ 1000) {d : D} (hd : D.tu f b n d = true) (hn : n ≤ 60) : callK T con rf (k + 1) "_law_is_letter" [d] cs = .ok (.bl (letIs d)) cs := by
  refine Rs.W.eq ?_
  rw [w_callK hT]
  have hty := tu_ty hd
  cases ht : d.isTup with
  | false =>
    simp [Cm.d__law_is_letter, hty, ht]
    have := tu_seq hd
    rw [ht] at this
    unfold letIs rowIs
    cases e : d.items with
    | none => rfl
    | some _ => rw [e] at this; cases this
  | true =>
    cases d <;> try (simp [D.isTup] at ht; done)
    rename_i ds
    cases n with
    | zero => simp [D.tu] at hd
    | succ n =>
    rw [tu_tup] at hd
    simp [Cm.d__law_is_letter, D.isTup]
    have bad : ∀ i (h : i < ds.length), ringIs ds[i] = false → letIs (.tup ds) = false := by
      intro i h hr
      have : ds.all ringIs = false := by
        cases e : ds.all ringIs with
        | false => rfl
        | true => rw [List.all_eq_true.mp e _ (List.getElem_mem h)] at hr; cases hr
      unfold letIs
      simp only [it_t, Option.getD_some, this, Bool.and_false, Bool.false_and]
    refine ⟨fun h1 => ⟨fun h3 => ?_, fun h3 => ?_⟩, fun h1 => ?_⟩
    · unfold letIs rowIs
      simp
      omega
    · obtain ⟨J, hJ⟩ : ∃ J : Nat → List Slot → Cells → Prop, J = (fun i env c => ∃ s2 s3 : Slot, env = [.sh (.tup ds), .sh (.int (psum ds i)), s2, s3] ∧ c = cs ∧ ∀ x ∈ ds.take i, ringIs x = true) := ⟨_, rfl⟩
      refine for_lst0 J ?_ ?_ ?_
      · rw [hJ]
        exact ⟨_, _, rfl, rfl, by simp⟩
      · intro i hi env c hh
        rw [hJ] at hh
        obtain ⟨s2, s3, rfl, rfl, hall⟩ := hh
        refine ⟨_, rfl, ?_⟩
        have hr := hd.2 ds[i] (List.getElem_mem hi)
        have bad := bad i hi
        have fin : ∀ {s2 s3 : Slot}, ringIs ds[i] = true → J (i + 1) [.sh (.tup ds), .sh (.int (psum ds i + (lenD ds[i] : Nat))), s2, s3] c := by
          intro s2 s3 h
          rw [hJ]
          refine ⟨s2, s3, ?_, rfl, ?_⟩
          · rw [psum_succ hi]
          · intro x hx
            rw [List.take_succ_eq_append_getElem hi] at hx
            rcases List.mem_append.mp hx with q | q
            · exact hall x q
            · simp at q; subst q; exact h
        generalize ds[i] = r at hr bad fin
        have rty := tu_ty hr
        cases hrt : r.isTup with
        | false =>
          simp [rty, hrt]
          refine bad ?_
          have := tu_seq hr
          rw [hrt] at this
          unfold ringIs rowIs
          cases e : r.items with
          | none => rfl
          | some _ => rw [e] at this; cases this
        | true =>
          cases r <;> try (simp [D.isTup] at hrt; done)
          rename_i es
          cases n with
          | zero => simp [D.tu] at hr
          | succ n =>
          rw [tu_tup] at hr
          simp [D.isTup]
          refine ⟨fun h3 => ⟨fun h8 => ?_, fun h8 => ?_⟩, fun h3 => ?_⟩
          · refine bad ?_
            unfold ringIs rowIs
            simp
            omega
          · obtain ⟨J2, hJ2⟩ : ∃ J : Nat → List Slot → Cells → Prop, J = (fun j env c' => ∃ s3 : Slot, env = [.sh (.tup ds), .sh (.int (psum ds i)), .sh (.tup es), s3] ∧ c' = c ∧ ∀ x ∈ es.take j, manIs x = true) := ⟨_, rfl⟩
            refine for_lst0 J2 ?_ ?_ ?_
            · rw [hJ2]
              exact ⟨_, rfl, rfl, by simp⟩
            · intro j hj env c' hh
              rw [hJ2] at hh
              obtain ⟨s3, rfl, rfl, hall2⟩ := hh
              refine ⟨_, rfl, ?_⟩
              have hx := hr.2 es[j] (List.getElem_mem hj)
              have hxn := nd_tu hb hx
              have bad2 : manIs es[j] = false → letIs (.tup ds) = false := by
                intro hm
                refine bad ?_
                have : es.all manIs = false := by
                  cases e : es.all manIs with
                  | false => rfl
                  | true => rw [List.all_eq_true.mp e _ (List.getElem_mem hj)] at hm; cases hm
                unfold ringIs
                simp only [it_t, Option.getD_some, this, Bool.and_false]
              have fin2 : manIs es[j] = true → ∀ {s3 : Slot}, J2 (j + 1) [.sh (.tup ds), .sh (.int (psum ds i)), .sh (.tup es), s3] c' := by
                intro hm s3
                rw [hJ2]
                refine ⟨s3, rfl, rfl, ?_⟩
                intro x hx
                rw [List.take_succ_eq_append_getElem hj] at hx
                rcases List.mem_append.mp hx with q | q
                · exact hall2 x q
                · simp at q; subst q; exact hm
              have nm : manIs es[j] = true → es[j].isStr = true := by
                generalize es[j] = x
                cases x <;> first | (intro _; rfl) | (intro z; simp [manIs] at z)
              simp [tu_ty hx, notin_man hxn (show n ≤ 60 by omega)]
              cases hm : manIs es[j] with
              | true => simp [nm hm]; exact fin2 hm
              | false => simp [bad2 hm]; intro z1 z2; rw [z1] at z2; cases z2
            · intro env c' hh
              rw [hJ2] at hh
              obtain ⟨s3, rfl, rfl, hall2⟩ := hh
              simp
              refine fin ?_
              have : es.all manIs = true := List.all_eq_true.mpr (by simpa using hall2)
              unfold ringIs rowIs
              simp only [it_t, Option.getD_some, this, Bool.and_true, Bool.and_eq_true, decide_eq_true_eq]
              omega
          · refine bad ?_
            unfold ringIs rowIs
            simp
            omega
      · intro env c hh
        rw [hJ] at hh
        obtain ⟨s2, s3, rfl, rfl, hall⟩ := hh
        simp
        have : ds.all ringIs = true := List.all_eq_true.mpr (by simpa using hall)
        unfold letIs rowIs
        simp only [it_t, Option.getD_some, this, Bool.and_true]
        have hp : psum ds ds.length = ((ds.map lenD).sum : Nat) := by unfold psum; rw [List.take_length]
        rw [hp]
        have h1' : 1 ≤ ds.length := by omega
        have h3' : ds.length ≤ 3 := by omega
        simp only [h1', h3', decide_true, Bool.and_true, Bool.true_and]
        congr 1
        apply propext
        omega
    · unfold letIs rowIs
      simp
      omega
theorem lawwhole_ok (hT : T "_law_whole" = some Cm.d__law_whole) {n : Nat} {d : D} (hd : D.nd n d = true) : callK T con rf (k + 1) "_law_whole" [d] cs = .ok (.bl (wholeIs d)) cs := by
  refine Rs.W.eq ?_
  rw [w_callK hT]
  simp [Cm.d__law_whole, nd_ty hd]
  cases d <;> first | (simp [D.nd] at hd; done) | simp [D.isInt', D.isBl, wholeIs]
theorem whole_or (d : D) : (∃ i, d = .int i) ∨ (wholeIs d = false ∧ ∀ lo hi, inIs lo hi d = false) := by
  cases d <;> first | exact .inl ⟨_, rfl⟩ | exact .inr ⟨rfl, fun _ _ => rfl⟩
theorem lawplace_ok (hW : T "_law_whole" = some Cm.d__law_whole) (hT : T "_law_is_place" = some Cm.d__law_is_place) {f : Bool} {b n : Nat} (hb : b ≤ 1000) {d : D} (hd : D.tu f b n d = true) : callK T con rf (k + 2) "_law_is_place" [d] cs = .ok (.bl (placeIs (inIs (-99) 99) d)) cs := by
  refine Rs.W.eq ?_
  rw [w_callK hT]
  have hty := tu_ty hd
  cases ht : d.isTup with
  | false =>
    simp [Cm.d__law_is_place, hty, ht]
    have := tu_seq hd
    rw [ht] at this
    unfold placeIs rowIs
    cases e : d.items with
    | none => rfl
    | some _ => rw [e] at this; cases this
  | true =>
    cases d <;> try (simp [D.isTup] at ht; done)
    rename_i ds
    cases n with
    | zero => simp [D.tu] at hd
    | succ n =>
    rw [tu_tup] at hd
    by_cases h2 : ds.length = 2
    · match ds, h2, hd with
      | [x, y], _, hd =>
        have hx := nd_tu hb (hd.2 x (by simp))
        have hy := nd_tu hb (hd.2 y (by simp))
        simp [Cm.d__law_is_place, D.isTup, lawwhole_ok hW hx, lawwhole_ok hW hy]
        unfold placeIs rowIs
        rcases whole_or x with ⟨u, rfl⟩ | ⟨a, a'⟩ <;> rcases whole_or y with ⟨v, rfl⟩ | ⟨b, b'⟩
        · simp [wholeIs, inIs]
          by_cases a1 : -99 ≤ u <;> by_cases a2 : u ≤ 99 <;> by_cases a3 : -99 ≤ v <;> by_cases a4 : v ≤ 99 <;> simp [a1, a2, a3, a4] <;> omega
        · simp [b, b']
          simp [wholeIs]
        · simp [a, a']
        · simp [a, a', b, b']
    · have h2' : ¬ (ds.length : Int) = 2 := by omega
      simp [Cm.d__law_is_place, D.isTup, h2']
      unfold placeIs rowIs
      simp
      omega
end
end Pc

set_option Elab.async false
set_option maxRecDepth 100000
set_option maxHeartbeats 4000000
/-! Pm13a: letters and drawings told apart, the whole law. -/
namespace Pc
open PySem PySem.Spec PyProof.Rows L2
open PyData (strOk)
section
variable {call : Str → List D → Cells → Rs D} {con : Str → Option D} {rf : Str → Option Str} {N B C : List Slot → Cells → Prop} {R : D → Cells → Prop} {E : Str → List (Str × D) → List Slot → Cells → Prop} {x : Slot} {env : List Slot} {cs : Cells}
theorem cellEnd_W {r : Rt} (h : r.W (fun _ _ => False) (fun _ _ => False) (fun _ _ => False) (fun d c => ∃ b, d = .bl b ∧ R (.bl b) []) (fun _ _ _ _ => False)) : (cellEnd r).W N B C R E := by
  cases r with
  | ret d c =>
    obtain ⟨b, rfl, hb⟩ := h
    exact hb
  | _ => exact h.elim
theorem x_cell {i : Nat} {z : Int} {l : MSs} (hp : plainE env = true) (hi : i < env.length) (h : (evSs call con rf l (env.set i (.sh (.cell 0))) [[.int z]]).W (fun _ _ => False) (fun _ _ => False) (fun _ _ => False) (fun d c => ∃ b, d = .bl b ∧ R (.bl b) []) (fun _ _ _ _ => False)) :
    (evSs call con rf (.cell i (.lst (.cons (.ci z) .nil)) l) env []).W N B C R E := by
  have e : evSs call con rf (.cell i (.lst (.cons (.ci z) .nil)) l) = sCell i (evE call con (.lst (.cons (.ci z) .nil))) (evSs call con rf l) := by simp only [evSs]
  rw [e]
  have e2 : evE call con (.lst (.cons (.ci z) .nil)) env [] = .ok (.fr 0, .lst [.int z]) [] := by
    simp only [evE, evA]
    rfl
  unfold sCell
  rw [e2]
  simp only [hp, hi, and_self, if_true]
  exact cellEnd_W h
end
theorem man_str : ∀ m ∈ manners, strOk m = true ∧ m.length ≤ 100 := by decide +kernel
theorem tu_eL {f : Bool} {b : Nat} (hb : 10 ≤ b) {l : List (List Str)} (hl : Lt l) : D.tu f b 2 (eL l) = true := by
  refine tu_tup.mpr ⟨by have := hl.n3; simp; omega, fun d hd => ?_⟩
  obtain ⟨r, hr, rfl⟩ := List.mem_map.mp hd
  obtain ⟨h1, h2, h3⟩ := hl.r r hr
  refine tu_tup.mpr ⟨by simp; omega, fun d hd => ?_⟩
  obtain ⟨m, hm, rfl⟩ := List.mem_map.mp hd
  obtain ⟨a, c⟩ := man_str m (h3 m hm)
  simp [D.tu, a, c]
theorem tu_eDr {f : Bool} {b : Nat} (hb : 10 ≤ b) {l : List (List Str)} (hl : Lt l) {d : List (List Pt)} (hd : Dr l d) : D.tu f b 3 (eDr d) = true := by
  have hlen : d.length = l.length := by have := congrArg List.length hd.s; simpa using this
  refine tu_tup.mpr ⟨by have := hl.n3; simp; omega, fun x hx => ?_⟩
  obtain ⟨r, hr, rfl⟩ := List.mem_map.mp hx
  obtain ⟨i, hi, rfl⟩ := List.mem_iff_getElem.mp hr
  have hrl : d[i].length = l[i].length := by
    have := congrArg (fun q => q[i]?) hd.s
    simpa [List.getElem?_eq_getElem hi, List.getElem?_eq_getElem (show i < l.length by omega)] using this
  obtain ⟨h1, h2, _⟩ := hl.r l[i] (List.getElem_mem _)
  refine tu_tup.mpr ⟨by simp; omega, fun x hx => ?_⟩
  obtain ⟨p, hp, rfl⟩ := List.mem_map.mp hx
  refine tu_tup.mpr ⟨by simp; omega, fun x hx => ?_⟩
  simp at hx
  rcases hx with rfl | rfl <;> simp [D.tu]
theorem letIs_eL {l : List (List Str)} (hl : Lt l) : letIs (eL l) = true := by
  have h1 := hl.n1
  have h3 := hl.n3
  have hs := hl.sum
  have e : lenD ∘ eM = List.length := by
    funext r
    show ((r.map D.str)).length = r.length
    simp
  have ha : (l.map eM).all ringIs = true := by
    refine List.all_eq_true.mpr fun d hd => ?_
    obtain ⟨r, hr, rfl⟩ := List.mem_map.mp hd
    obtain ⟨a, b, c⟩ := hl.r r hr
    have hm : (r.map D.str).all manIs = true := by
      refine List.all_eq_true.mpr fun d hd => ?_
      obtain ⟨m, hm, rfl⟩ := List.mem_map.mp hd
      simpa [manIs] using c m hm
    unfold ringIs rowIs eM
    simp only [it_t, Option.getD_some, hm, List.length_map, Bool.and_true, Bool.and_eq_true, decide_eq_true_eq]
    omega
  unfold letIs rowIs eL
  simp only [it_t, Option.getD_some, ha, List.length_map, List.map_map, e, Bool.and_true, Bool.and_eq_true, decide_eq_true_eq]
  omega
theorem items_eL {h : D} {l : List (List Str)} (hl : Lt l) (hs : Sim h (eL l)) : ∃ lsd, h.items = some lsd ∧ All2 (fun r m => ∃ es, r.items = some es ∧ es.length = m) lsd (l.map List.length) := by
  obtain ⟨hs', hh, ha⟩ := sim_tup.mp (show Sim h (.tup (l.map eM)) from hs)
  refine ⟨hs', by rcases hh with rfl | rfl <;> rfl, ?_⟩
  clear hh hs hl
  induction l generalizing hs' with
  | nil => cases ha; exact .nil
  | cons r l ih =>
    cases ha with
    | cons h1 h2 =>
      refine .cons ?_ (ih _ h2)
      obtain ⟨es, he, ha2⟩ := sim_tup.mp (show Sim _ (.tup (r.map .str)) from h1)
      refine ⟨es, by rcases he with rfl | rfl <;> rfl, ?_⟩
      have := ha2.length
      simpa using this.symm
end Pc

set_option Elab.async false
set_option maxRecDepth 100000
set_option maxHeartbeats 4000000
/-! Px0: errors as values, forward. -/
namespace Pc
open PySem PySem.Spec PyProof.Rows L2
section
variable {call : Str → List D → Cells → Rs D} {con : Str → Option D} {rf : Str → Option Str} {env : List Slot} {cs : Cells} {t t' : Tg} {c f g x y : Str} {m m' : List (Str × Bool)} {b b' : List (String × Bool)} {ks ks' : List Str} {ds : List D} {d : D}
@[simp] theorem e_new {k : NK} {l : MEs} : evE call con (.new k x l) = sNw k (con x) (evA call con l) := by simp only [evE]
@[simp] theorem e_un1 {h : U1} {a : ME} : evE call con (.un1 h a) = sUn h.fn (evE call con a) := by simp only [evE]
@[simp] theorem s_rais0' : evS call con rf (.rais0 x) = sRais0 x (con x) := by simp only [evS]
@[simp] theorem s_tryi' {p : MSs} {zs : List Str} {i : Nat} : evS call con rf (.tryi p x y zs i) = sTryI con x y zs i (evSs call con rf p) := by simp only [evS]
@[simp] theorem nw_p {ms : AS} : sNw .pos (some (.cls c m b [f])) ms = appA ms (mkF c m b f) := rfl
@[simp] theorem nw_k {ms : AS} : sNw (.kw g) (some (.cls c m b [f])) ms = if f = g then appA ms (mkF c m b f) else fun _ _ => .bad := rfl
@[simp] theorem nw_n {ms : AS} {Q : Vl → Cells → Prop} {E : EK} : (sNw .no (some (.cls c m b [])) ms env cs).W Q E ↔ Q (.st, .obj c m b [] []) cs := Iff.rfl
@[simp] theorem mk_1 : mkF c m b f [(t, d)] = if t.plain = true then some (.st, .obj c m b [f] [d]) else none := rfl
@[simp] theorem u1_a : U1.fn (.attr f) = attrD f := rfl
@[simp] theorem at_o : attrD f (t, .obj c m b [f] [d]) = some (.st, d) := by simp [attrD]
@[simp] theorem bf_isx : BF.fn .isx = isxF := rfl
@[simp] theorem isx_c : isxF [(t, .obj c m b ks ds), (t', .cls y m' b' ks')] = (m.lookup y).map fun r => (.st, .bl r) := rfl
@[simp] theorem isx_f : isxF [(t, .obj c m b ks ds), (t', .fn y)] = (m.lookup y).map fun r => (.st, .bl r) := rfl
@[simp] theorem isx_t {n : String} : isxF [(t, .obj c m b ks ds), (t', .ty n)] = (b.lookup n).map fun r => (.st, .bl r) := rfl
@[simp] theorem t_rais0 {N B C : List Slot → Cells → Prop} {R : D → Cells → Prop} {E : Str → List (Str × D) → List Slot → Cells → Prop} : (sRais0 x (some (.cls c m b [])) env cs).W N B C R E ↔ E x [] env cs := Iff.rfl
/-- the catch -/
theorem t_tryi {x' : Str} {mb : SS} {zs : List Str} {i : Nat} (hx : con x = some (.fn x')) (hy : con y = some (.cls c m b ks)) {N B C : List Slot → Cells → Prop} {R : D → Cells → Prop} {E : Str → List (Str × D) → List Slot → Cells → Prop}
    (h : (mb env cs).W N B C R fun z _ env c => zs.contains z = true ∧ i < env.length ∧ ∃ c' m b ks r, con z = some (.cls c' m b ks) ∧ m.lookup x = some true ∧ m.lookup y = some r ∧ R (.bl r) c) : (sTryI con x y zs i mb env cs).W N B C R E := by
  unfold sTryI
  rw [hx, hy, if_pos ⟨rfl, rfl⟩]
  cases e : mb env cs with
  | nx env2 c => rw [e] at h; exact h
  | brk env2 c => rw [e] at h; exact h
  | cnt env2 c => rw [e] at h; exact h
  | ret d c => rw [e] at h; exact h
  | bad => rw [e] at h; exact h.elim
  | exc z fs env2 c2 =>
    rw [e] at h
    obtain ⟨h1, h2, c', m', b', ks', r, h3, h4, h5, h6⟩ := h
    unfold excI
    simp only
    rw [if_pos ⟨h1, h2⟩, h3]
    simp only
    rw [if_pos h4, h5]
    exact h6
end
end Pc

set_option Elab.async false
set_option maxRecDepth 100000
/-! CmX: the words of k00 -/
namespace Cx0
open PySem Pc
def d__law_of : Def := ⟨["value"], ["value", "made"], (.cons (.set 1 (.lst (.cons (.bf .isx (.cons (.var 0) (.cons (.con "BadValue") .nil))) (.cons (.bf .isx (.cons (.var 0) (.cons (.con "BadText") .nil))) (.cons (.bf .isx (.cons (.var 0) (.cons (.con "BadLevels") .nil))) .nil))))) (.cons (.ret (.bin .Add (.var 1) (.lst (.cons (.bf .isx (.cons (.var 0) (.cons (.con "NoMaster") .nil))) (.cons (.bf .isx (.cons (.var 0) (.cons (.con "TakenName") .nil))) (.cons (.bf .isx (.cons (.var 0) (.cons (.con "TooMany") .nil))) .nil)))))) .nil))⟩
def d__law_foreign : Def := ⟨["value"], ["value"], (.cons (.ite (.bo .Or (.cons (.bf .isx (.cons (.var 0) (.cons (.ty "ValueError") .nil))) (.cons (.bf .isx (.cons (.var 0) (.cons (.ty "LookupError") .nil))) .nil))) (.cons (.ret (.cb true)) .nil) .nil) (.cons (.ret (.bo .Or (.cons (.bf .isx (.cons (.var 0) (.cons (.ty "ArithmeticError") .nil))) (.cons (.not (.bf .isx (.cons (.var 0) (.cons (.ty "Exception") .nil)))) .nil)))) .nil))⟩
def d__law_caught : Def := ⟨["at"], ["at", "wrong"], (.cons (.tryi (.cons (.ite (.cmp .Eq (.var 0) (.ci 0)) (.cons (.rais0 "TooMany") .nil) .nil) (.cons (.rais "NoMaster" (.cons (.var 0) .nil)) .nil)) "FormError" "NoMaster" ["NoMaster", "TooMany"] 1) .nil)⟩
def d_law : Def := ⟨["script"], ["script", "row", "spot", "at", "other", "made", "every", "k", "one"], (.cons (.set 1 (.call "_law_numbers" (.cons (.var 0) .nil))) (.cell 2 (.lst (.cons (.ci 0) .nil)) (.cons (.set 3 (.bin .Sub (.call "_law_take" (.cons (.var 1) (.cons (.var 2) (.cons (.ci 997) .nil)))) (.ci 9))) (.cons (.set 4 (.sub (.lst (.cons .cn (.cons (.neg (.var 3)) (.cons (.cs "x") (.cons (.tup (.cons (.var 3) (.cons (.ci 2) .nil))) (.cons (.cb true) .nil)))))) (.call "_law_take" (.cons (.var 1) (.cons (.var 2) (.cons (.ci 5) .nil)))))) (.cons (.loop (.n 5) (.seq (.lst (.cons (.new .pos "BadValue" (.cons (.var 3) .nil)) (.cons (.new .pos "BadText" (.cons (.var 3) .nil)) (.cons (.new .pos "BadLevels" (.cons (.var 3) .nil)) (.cons (.new (.kw "at") "BadValue" (.cons (.var 3) .nil)) (.cons (.new (.kw "at") "BadText" (.cons (.var 3) .nil)) (.cons (.new (.kw "at") "BadLevels" (.cons (.var 3) .nil)) .nil)))))))) (.cons (.ite (.not (.call "_law_so" (.cons (.un1 (.attr "at") (.var 5)) (.cons (.var 3) .nil)))) (.cons (.ret (.cb false)) .nil) .nil) .nil)) (.cons (.loop (.n 5) (.seq (.lst (.cons (.new .pos "NoMaster" (.cons (.var 4) .nil)) (.cons (.new (.kw "name") "NoMaster" (.cons (.var 4) .nil)) (.cons (.new .pos "TakenName" (.cons (.var 4) .nil)) (.cons (.new (.kw "name") "TakenName" (.cons (.var 4) .nil)) .nil)))))) (.cons (.ite (.not (.call "_law_so" (.cons (.un1 (.attr "name") (.var 5)) (.cons (.var 4) .nil)))) (.cons (.ret (.cb false)) .nil) .nil) .nil)) (.cons (.set 6 (.lst (.cons (.new .pos "BadValue" (.cons (.var 3) .nil)) (.cons (.new .pos "BadText" (.cons (.var 3) .nil)) (.cons (.new .pos "BadLevels" (.cons (.var 3) .nil)) (.cons (.new .pos "NoMaster" (.cons (.var 4) .nil)) (.cons (.new .pos "TakenName" (.cons (.var 4) .nil)) (.cons (.new .no "TooMany" .nil) .nil)))))))) (.cons (.loop (.n 7) (.rng (.cons (.ci 6) .nil)) (.cons (.ite (.bo .Or (.cons (.cmp .NotEq (.call "_law_of" (.cons (.sub (.var 6) (.var 7)) .nil)) (.comp 0 (.n 8) (.rng (.cons (.ci 6) .nil)) .none (.cmp .Eq (.var 8) (.var 7)))) (.cons (.call "_law_foreign" (.cons (.sub (.var 6) (.var 7)) .nil)) (.cons (.not (.bf .isx (.cons (.sub (.var 6) (.var 7)) (.cons (.con "FormError") .nil)))) .nil)))) (.cons (.ret (.cb false)) .nil) .nil) .nil)) (.cons (.ret (.bo .And (.cons (.not (.call "_law_caught" (.cons (.ci 0) .nil))) (.cons (.call "_law_caught" (.cons (.bin .Add (.ci 1) (.call "_law_take" (.cons (.var 1) (.cons (.var 2) (.cons (.ci 9) .nil))))) .nil)) .nil)))) .nil)))))))))⟩
end Cx0

set_option Elab.async false
set_option maxRecDepth 100000
set_option maxHeartbeats 4000000
/-! Px1: the law k00. -/
namespace Pc
open PySem PySem.Spec PyProof.Rows L2
def errN : List Str := ["BadLevels", "BadText", "BadValue", "FormError", "NoMaster", "TakenName", "TooMany"]
def msOf (x : Str) : List (Str × Bool) := errN.map fun y => (y, x == y || y == "FormError")
def bsE : List (String × Bool) := [("ArithmeticError", false), ("Exception", true), ("LookupError", false), ("ValueError", false)]
/-- the words of this law -/
structure Has00 (T : Tab) (con : Str → Option D) : Prop where
  numbers : T "_law_numbers" = some Cm.d__law_numbers
  draw : T "_law_draw" = some Cm.d__law_draw
  take : T "_law_take" = some Cm.d__law_take
  so : T "_law_so" = some Cm.d__law_so
  of_ : T "_law_of" = some Cx0.d__law_of
  foreign : T "_law_foreign" = some Cx0.d__law_foreign
  caught : T "_law_caught" = some Cx0.d__law_caught
  cV : con "BadValue" = some (.cls "BadValue" (msOf "BadValue") bsE ["at"])
  cT : con "BadText" = some (.cls "BadText" (msOf "BadText") bsE ["at"])
  cL : con "BadLevels" = some (.cls "BadLevels" (msOf "BadLevels") bsE ["at"])
  cN : con "NoMaster" = some (.cls "NoMaster" (msOf "NoMaster") bsE ["name"])
  cK : con "TakenName" = some (.cls "TakenName" (msOf "TakenName") bsE ["name"])
  cM : con "TooMany" = some (.cls "TooMany" (msOf "TooMany") bsE [])
  cF : con "FormError" = some (.fn "FormError")
theorem ms_look : ∀ x ∈ errN, ∀ y ∈ errN, (msOf x).lookup y = some (x == y || y == "FormError") := by decide +kernel
section
variable {T : Tab} {con : Str → Option D} {rf : Str → Option Str} {k : Nat} {ns : List Int} {cs : Cells}
theorem take_st0 (hD : T "_law_draw" = some Cm.d__law_draw) (hT : T "_law_take" = some Cm.d__law_take) {lim : Int} (hn : ns ≠ []) (hs : St cs) (hl : 0 < lim) {Q : D → Cells → Prop} {E : EK} (q : ∀ v c, 0 ≤ v → v < lim → St c → Q (.int v) c) :
    (callK T con rf (k + 2) "_law_take" [.lst (ns.map .int), .cell 0, .int lim] cs).W Q E := by
  obtain ⟨n, h0, rfl⟩ := hs
  refine (take_ok hD hT hn h0 hl).to fun d c ⟨hc, v, hd, h1, h2⟩ => ?_
  subst hd
  exact q v c h1 h2 ⟨n + 1, by omega, hc⟩
theorem of_ok (H : Has00 T con) {x : Str} (hx : x ∈ errN) {ks : List Str} {ds : List D} : callK T con rf (k + 1) "_law_of" [.obj x (msOf x) bsE ks ds] cs = .ok (.lst [.bl (x == "BadValue"), .bl (x == "BadText"), .bl (x == "BadLevels"), .bl (x == "NoMaster"), .bl (x == "TakenName"), .bl (x == "TooMany")]) cs := by
  refine Rs.W.eq ?_
  rw [w_callK H.of_]
  have l1 := ms_look x hx "BadValue" (by decide)
  have l2 := ms_look x hx "BadText" (by decide)
  have l3 := ms_look x hx "BadLevels" (by decide)
  have l4 := ms_look x hx "NoMaster" (by decide)
  have l5 := ms_look x hx "TakenName" (by decide)
  have l6 := ms_look x hx "TooMany" (by decide)
  have n1 : (("BadValue" : Str) == "FormError") = false := by decide
  have n2 : (("BadText" : Str) == "FormError") = false := by decide
  have n3 : (("BadLevels" : Str) == "FormError") = false := by decide
  have n4 : (("NoMaster" : Str) == "FormError") = false := by decide
  have n5 : (("TakenName" : Str) == "FormError") = false := by decide
  have n6 : (("TooMany" : Str) == "FormError") = false := by decide
  simp [Cx0.d__law_of, H.cV, H.cT, H.cL, H.cN, H.cK, H.cM, l1, l2, l3, l4, l5, l6, n1, n2, n3, n4, n5, n6]
def EV (j : Nat) : Str := ["BadValue", "BadText", "BadLevels", "NoMaster", "TakenName", "TooMany"].getD j ""
def oneAt (j : Nat) : List D := [.bl (decide (0 = j)), .bl (decide (1 = j)), .bl (decide (2 = j)), .bl (decide (3 = j)), .bl (decide (4 = j)), .bl (decide (5 = j))]
theorem of_at (H : Has00 T con) {j : Nat} (hj : j < 6) {ks : List Str} {ds : List D} : callK T con rf (k + 1) "_law_of" [.obj (EV j) (msOf (EV j)) bsE ks ds] cs = .ok (.lst (oneAt j)) cs := by
  match j, hj with
  | 0, _ => exact of_ok H (x := "BadValue") (by decide)
  | 1, _ => exact of_ok H (x := "BadText") (by decide)
  | 2, _ => exact of_ok H (x := "BadLevels") (by decide)
  | 3, _ => exact of_ok H (x := "NoMaster") (by decide)
  | 4, _ => exact of_ok H (x := "TakenName") (by decide)
  | 5, _ => exact of_ok H (x := "TooMany") (by decide)
theorem look_F {j : Nat} (hj : j < 6) : (msOf (EV j)).lookup ("FormError" : Str) = some true := (by decide +kernel : ∀ j < 6, (msOf (EV j)).lookup ("FormError" : Str) = some true) j hj
theorem ne_one {j : Nat} : neD (.st, .lst (oneAt j)) (.fr 0, .lst (oneAt j)) = some (.st, .bl false) := by
  have ok : (D.lst (oneAt j)).ok = true := nd_ok (n := 1) (by simp [D.nd, oneAt]) (by decide)
  unfold neD
  rw [if_pos ⟨rfl, rfl, ok, ok⟩]
  simp [D.eqv, oneAt, D.py, D.pyAll, PyData.eqv, PyData.eqvAll]
theorem foreign_ok (H : Has00 T con) {x : Str} {ks : List Str} {ds : List D} : callK T con rf (k + 1) "_law_foreign" [.obj x (msOf x) bsE ks ds] cs = .ok (.bl false) cs := by
  refine Rs.W.eq ?_
  rw [w_callK H.foreign]
  have l1 : bsE.lookup ("ValueError") = some false := by decide
  have l2 : bsE.lookup ("LookupError") = some false := by decide
  have l3 : bsE.lookup ("ArithmeticError") = some false := by decide
  have l4 : bsE.lookup ("Exception") = some true := by decide
  simp [Cx0.d__law_foreign, l1, l2, l3, l4]
theorem caught_ok (H : Has00 T con) (hrf : rf "NoMaster" = some ("name" : Str)) {i : Int} : callK T con rf (k + 1) "_law_caught" [.int i] cs = .ok (.bl (decide (i ≠ 0))) cs := by
  refine Rs.W.eq ?_
  rw [w_callK H.caught]
  simp [Cx0.d__law_caught]
  refine t_tryi H.cF H.cN ?_
  have l1 : (msOf "NoMaster").lookup ("FormError" : Str) = some true := by decide
  have l2 : (msOf "TooMany").lookup ("FormError" : Str) = some true := by decide
  have l3 : (msOf "NoMaster").lookup ("NoMaster" : Str) = some true := by decide
  have l4 : (msOf "TooMany").lookup ("NoMaster" : Str) = some false := by decide
  simp [hrf, H.cM, H.cN]
  exact ⟨fun h => ⟨_, _, ⟨rfl, rfl⟩, l2, .inl ⟨l4, h⟩⟩, fun h => ⟨_, _, ⟨rfl, rfl⟩, l1, .inr ⟨l3, h⟩⟩⟩
theorem k00_law (H : Has00 T con) (hl : T "law" = some Cx0.d_law) (hrf : rf "NoMaster" = some ("name" : Str)) {zs : List Int} (hz : zs.length ≤ 63) : callK T con rf (k + 20) "law" [.frz (zs.map .int)] [] = .ok (.bl true) [] := by
  refine Rs.W.eq ?_
  rw [w_callK hl]
  rw [show startE Cx0.d_law.N [.frz (zs.map .int)] = [.sh (.frz (zs.map .int)), .emp, .emp, .emp, .emp, .emp, .emp, .emp, .emp] from rfl]
  rw [show Cx0.d_law.body = .cons (.set 1 (.call "_law_numbers" (.cons (.var 0) .nil))) (tl1 Cx0.d_law.body) from rfl]
  simp
  refine numbers_ok0 H.numbers hz rfl fun ns hn => ?_
  try simp
  rw [show tl1 Cx0.d_law.body = .cell 2 (.lst (.cons (.ci 0) .nil)) (match tl1 Cx0.d_law.body with | .cell _ _ l => l | l => l) from rfl]
  refine x_cell rfl (by simp) ?_
  simp [Cx0.d_law, tl1]
  have hs : St [[.int 0]] := ⟨0, by decide, rfl⟩
  refine take_st0 (k := k + 17) H.draw H.take hn hs (by decide) fun v c h0 h1 hs => ?_
  simp
  obtain ⟨a, ha⟩ : ∃ a : Int, a = v - 9 := ⟨_, rfl⟩
  rw [← ha]
  refine take_st0 (k := k + 17) H.draw H.take hn hs (by decide) fun u c h0 h1 hs => ?_
  have soA : ∀ cs, callK T con rf (k + 19) "_law_so" [.int a, .int a] cs = .ok (.bl true) cs := fun cs => so_ok (k := k + 18) (b := 10) (f := true) H.so (by decide) 0 (by simp [D.tu]) cs
  obtain ⟨o, ho, to⟩ : ∃ o : D, atI [D.non, .int (-a), .str "x", .tup [.int a, .int 2], .bl true] u = some o ∧ D.tu true 10 1 o = true := by
    obtain ⟨n, rfl⟩ : ∃ n : Nat, u = n := ⟨u.toNat, by omega⟩
    have hn : n < 5 := by omega
    rw [atI_nat]
    match n, hn with
    | 0, _ => exact ⟨_, rfl, rfl⟩
    | 1, _ => exact ⟨_, rfl, rfl⟩
    | 2, _ => exact ⟨_, rfl, by decide +kernel⟩
    | 3, _ => exact ⟨_, rfl, rfl⟩
    | 4, _ => exact ⟨_, rfl, rfl⟩
  have soO : ∀ cs, callK T con rf (k + 19) "_law_so" [o, o] cs = .ok (.bl true) cs := fun cs => so_ok (k := k + 17) (b := 10) (f := true) H.so (by decide) 1 to cs
  simp
  try simp [H.cV, H.cT, H.cL, H.cN, H.cK, H.cM, ho]
  have e1 : [D.obj ("BadValue" : Str) (msOf "BadValue") bsE ["at"] [.int a], .obj ("BadText" : Str) (msOf "BadText") bsE ["at"] [.int a], .obj ("BadLevels" : Str) (msOf "BadLevels") bsE ["at"] [.int a], .obj ("BadValue" : Str) (msOf "BadValue") bsE ["at"] [.int a], .obj ("BadText" : Str) (msOf "BadText") bsE ["at"] [.int a], .obj ("BadLevels" : Str) (msOf "BadLevels") bsE ["at"] [.int a]] =
    (["BadValue", "BadText", "BadLevels", "BadValue", "BadText", "BadLevels"] : List Str).map fun x => .obj x (msOf x) bsE ["at"] [.int a] := rfl
  rw [e1]
  refine for_lst (fun i env c' => ∃ s5 : Slot, env = [.sh (.frz (zs.map .int)), .sh (.lst (ns.map .int)), .sh (.cell 0), .sh (.int a), .sh o, s5, .emp, .emp, .emp] ∧ c' = c) ⟨_, rfl, rfl⟩ ?_ ?_
  · rintro i hi env c' ⟨s5, rfl, rfl⟩
    refine ⟨_, rfl, ?_⟩
    simp [soA]
  rintro env c' ⟨s5, rfl, rfl⟩
  simp [H.cN, H.cK]
  have e2 : [D.obj ("NoMaster" : Str) (msOf "NoMaster") bsE ["name"] [o], .obj ("NoMaster" : Str) (msOf "NoMaster") bsE ["name"] [o], .obj ("TakenName" : Str) (msOf "TakenName") bsE ["name"] [o], .obj ("TakenName" : Str) (msOf "TakenName") bsE ["name"] [o]] =
    (["NoMaster", "NoMaster", "TakenName", "TakenName"] : List Str).map fun x => .obj x (msOf x) bsE ["name"] [o] := rfl
  rw [e2]
  refine for_lst (fun i env c'' => ∃ s5 : Slot, env = [.sh (.frz (zs.map .int)), .sh (.lst (ns.map .int)), .sh (.cell 0), .sh (.int a), .sh o, s5, .emp, .emp, .emp] ∧ c'' = c') ⟨_, rfl, rfl⟩ ?_ ?_
  · rintro i hi env c'' ⟨s5, rfl, rfl⟩
    refine ⟨_, rfl, ?_⟩
    simp [soO]
  rintro env c'' ⟨s5, rfl, rfl⟩
  simp [H.cV, H.cT, H.cL, H.cN, H.cK, H.cM]
  refine ⟨rb (by decide) (by decide), ?_⟩
  have ⟨oc, hoc⟩ : ∃ f : Nat → List Str × List D, f = fun j => (if j < 3 then ([("at" : Str)], [D.int a]) else if j < 5 then ([("name" : Str)], [o]) else (([] : List Str), ([] : List D))) := ⟨fun j => (if j < 3 then ([("at" : Str)], [D.int a]) else if j < 5 then ([("name" : Str)], [o]) else (([] : List Str), ([] : List D))), rfl⟩
  have e3 : [D.obj ("BadValue" : Str) (msOf "BadValue") bsE ["at"] [.int a], .obj ("BadText" : Str) (msOf "BadText") bsE ["at"] [.int a], .obj ("BadLevels" : Str) (msOf "BadLevels") bsE ["at"] [.int a], .obj ("NoMaster" : Str) (msOf "NoMaster") bsE ["name"] [o], .obj ("TakenName" : Str) (msOf "TakenName") bsE ["name"] [o], .obj ("TooMany" : Str) (msOf "TooMany") bsE [] []] =
    (List.range 6).map fun j => .obj (EV j) (msOf (EV j)) bsE (oc j).1 (oc j).2 := by rw [hoc]; rfl
  rw [e3]
  clear e1 e2 e3 hoc
  obtain ⟨ev, hev⟩ : ∃ l : List D, l = (List.range 6).map fun j => .obj (EV j) (msOf (EV j)) bsE (oc j).1 (oc j).2 := ⟨_, rfl⟩
  have hat : ∀ j : Nat, j < 6 → atI ev (j : Int) = some (.obj (EV j) (msOf (EV j)) bsE (oc j).1 (oc j).2) := fun j hj => by
    rw [atI_nat, hev, List.getElem?_map, List.getElem?_range hj]
    rfl
  rw [← hev]
  clear hev
  refine for_rng (fun i env c => ∃ s7 : Slot, env = [.sh (.frz (zs.map .int)), .sh (.lst (ns.map .int)), .sh (.cell 0), .sh (.int a), .sh o, s5, .sh (.lst ev), s7, .emp] ∧ c = c'') ⟨_, rfl, rfl⟩ ?_ ?_
  · rintro i hi env c3 ⟨s7, rfl, rfl⟩
    refine ⟨_, rfl, ?_⟩
    simp [hat i hi, of_at (k := k + 18) H hi, foreign_ok (k := k + 18) H]
    refine ⟨rb (by decide) (by decide), by rw [upTo_len]; decide, ?_⟩
    rw [upTo_eq]
    refine comp_map (fun n : Nat => .bl (decide (n = i))) (fun n hn => ⟨_, rfl, ?_⟩) ?_
    · simp
      try omega
    · have e : (List.range 6).map (fun n : Nat => D.bl (decide (n = i))) = oneAt i := rfl
      rw [e, ne_one]
      simp [H.cF, look_F hi]
  rintro env c3 ⟨s7, rfl, rfl⟩
  simp [caught_ok (k := k + 18) H hrf]
  refine take_st0 (k := k + 17) H.draw H.take hn hs (by decide) fun w c h0 h1 hs => ?_
  simp [caught_ok (k := k + 18) H hrf]
  omega
end
end Pc

namespace K00
open PySem Pc
def top (i : Nat) : Stmt := PySem.Challenge.pw_keptform_k00_errors.main.body.getD i (.Pass ⟨0, 0, 0, 0⟩)
def d__law_so : Def := ⟨["found", "meant"], ["found", "meant", "k"], (.cons (.ite (.cmp .Is (.var 1) .cn) (.cons (.ret (.cmp .Is (.var 0) .cn)) .nil) .nil) (.cons (.ite (.bf .isinstance (.cons (.var 1) (.cons (.ty "tuple") .nil))) (.cons (.ite (.bo .Or (.cons (.not (.bf .isinstance (.cons (.var 0) (.cons (.ty "tuple") .nil)))) (.cons (.cmp .NotEq (.bf .len (.cons (.var 0) .nil)) (.bf .len (.cons (.var 1) .nil))) .nil))) (.cons (.ret (.cb false)) .nil) .nil) (.cons (.loop (.n 2) (.rng (.cons (.bf .len (.cons (.var 1) .nil)) .nil)) (.cons (.ite (.not (.call "_law_so" (.cons (.sub (.var 0) (.var 2)) (.cons (.sub (.var 1) (.var 2)) .nil)))) (.cons (.ret (.cb false)) .nil) .nil) .nil)) (.cons (.ret (.cb true)) .nil))) .nil) (.cons (.ite (.bo .Or (.cons (.bf .isinstance (.cons (.var 1) (.cons (.ty "bool") .nil))) (.cons (.bf .isinstance (.cons (.var 0) (.cons (.ty "bool") .nil))) .nil))) (.cons (.ret (.bo .And (.cons (.bf .isinstance (.cons (.var 1) (.cons (.ty "bool") .nil))) (.cons (.bf .isinstance (.cons (.var 0) (.cons (.ty "bool") .nil))) (.cons (.cmp .Eq (.var 0) (.var 1)) .nil))))) .nil) .nil) (.cons (.ite (.bf .isinstance (.cons (.var 1) (.cons (.ty "int") .nil))) (.cons (.ret (.bo .And (.cons (.bf .isinstance (.cons (.var 0) (.cons (.ty "int") .nil))) (.cons (.cmp .Eq (.var 0) (.var 1)) .nil)))) .nil) .nil) (.cons (.ret (.bo .And (.cons (.bf .isinstance (.cons (.var 1) (.cons (.ty "str") .nil))) (.cons (.bf .isinstance (.cons (.var 0) (.cons (.ty "str") .nil))) (.cons (.cmp .Eq (.var 0) (.var 1)) .nil))))) .nil)))))⟩
def d__law_numbers : Def := ⟨["script"], ["script", "row", "cell", "left", "k", "mixed"], (.cons (.own 1 (.lst .nil)) (.cons (.loop (.n 2) (.seq (.slice (.var 0) .none (.some (.ci 63)))) (.cons (.ite (.cmp .GtE (.var 2) (.bin .Pow (.ci 10) (.ci 18))) (.cons (.set 3 (.var 2)) (.cons (.loop (.n 4) (.rng (.cons (.ci 60) .nil)) (.cons (.ite (.cmp .Eq (.var 3) (.ci 0)) (.cons .brk .nil) .nil) (.cons (.app 1 (.bin .Mod (.bf .int (.cons (.var 3) .nil)) (.ci 997))) (.cons (.set 3 (.bin .FloorDiv (.var 3) (.ci 997))) .nil)))) .nil)) (.cons (.loop (.n 4) (.rng (.cons (.ci 4) .nil)) (.cons (.set 5 (.bin .Mod (.bf .int (.cons (.bin .Add (.bin .Add (.bin .Mult (.var 2) (.ci 48271)) (.bin .Mult (.var 4) (.ci 69621))) (.ci 11)) .nil)) (.ci 2147483647))) (.cons (.app 1 (.bin .Mod (.bf .int (.cons (.bin .Add (.bin .Mult (.var 5) (.ci 16807)) (.var 4)) .nil)) (.ci 2147483629))) .nil))) .nil)) .nil)) (.cons (.ite (.cmp .Eq (.bf .len (.cons (.var 1) .nil)) (.ci 0)) (.cons (.app 1 (.ci 0)) .nil) .nil) (.cons (.frz 1 (.ret (.var 1))) .nil))))⟩
def d__law_draw : Def := ⟨["row", "at", "limit"], ["row", "at", "limit", "mixed"], (.cons (.ite (.cmp .Lt (.var 1) (.bf .len (.cons (.var 0) .nil))) (.cons (.ret (.bin .Mod (.bf .int (.cons (.sub (.var 0) (.var 1)) .nil)) (.var 2))) .nil) .nil) (.cons (.set 3 (.bin .Mod (.bf .int (.cons (.bin .Add (.bin .Add (.bin .Mult (.sub (.var 0) (.bin .Mod (.bf .int (.cons (.var 1) .nil)) (.bf .len (.cons (.var 0) .nil)))) (.ci 40692)) (.bin .Mult (.var 1) (.ci 7919))) (.ci 3)) .nil)) (.ci 2147483399))) (.cons (.ret (.bin .Mod (.bf .int (.cons (.bin .Mod (.bf .int (.cons (.bin .Add (.bin .Mult (.var 3) (.ci 48271)) (.var 1)) .nil)) (.ci 2147483647)) .nil)) (.var 2))) .nil)))⟩
def d__law_take : Def := ⟨["row", "spot", "limit"], ["row", "spot", "limit"], (.cons (.sto 1 (.ci 0) (.bin .Add (.sub (.var 1) (.ci 0)) (.ci 1))) (.cons (.ret (.call "_law_draw" (.cons (.var 0) (.cons (.bin .Sub (.sub (.var 1) (.ci 0)) (.ci 1)) (.cons (.var 2) .nil))))) .nil))⟩
def d__law_of : Def := ⟨["value"], ["value", "made"], (.cons (.set 1 (.lst (.cons (.bf .isx (.cons (.var 0) (.cons (.con "BadValue") .nil))) (.cons (.bf .isx (.cons (.var 0) (.cons (.con "BadText") .nil))) (.cons (.bf .isx (.cons (.var 0) (.cons (.con "BadLevels") .nil))) .nil))))) (.cons (.ret (.bin .Add (.var 1) (.lst (.cons (.bf .isx (.cons (.var 0) (.cons (.con "NoMaster") .nil))) (.cons (.bf .isx (.cons (.var 0) (.cons (.con "TakenName") .nil))) (.cons (.bf .isx (.cons (.var 0) (.cons (.con "TooMany") .nil))) .nil)))))) .nil))⟩
def d__law_foreign : Def := ⟨["value"], ["value"], (.cons (.ite (.bo .Or (.cons (.bf .isx (.cons (.var 0) (.cons (.ty "ValueError") .nil))) (.cons (.bf .isx (.cons (.var 0) (.cons (.ty "LookupError") .nil))) .nil))) (.cons (.ret (.cb true)) .nil) .nil) (.cons (.ret (.bo .Or (.cons (.bf .isx (.cons (.var 0) (.cons (.ty "ArithmeticError") .nil))) (.cons (.not (.bf .isx (.cons (.var 0) (.cons (.ty "Exception") .nil)))) .nil)))) .nil))⟩
def d__law_caught : Def := ⟨["at"], ["at", "wrong"], (.cons (.tryi (.cons (.ite (.cmp .Eq (.var 0) (.ci 0)) (.cons (.rais0 "TooMany") .nil) .nil) (.cons (.rais "NoMaster" (.cons (.var 0) .nil)) .nil)) "FormError" "NoMaster" ["NoMaster", "TooMany"] 1) .nil)⟩
def d_law : Def := ⟨["script"], ["script", "row", "spot", "at", "other", "made", "every", "k", "one"], (.cons (.set 1 (.call "_law_numbers" (.cons (.var 0) .nil))) (.cell 2 (.lst (.cons (.ci 0) .nil)) (.cons (.set 3 (.bin .Sub (.call "_law_take" (.cons (.var 1) (.cons (.var 2) (.cons (.ci 997) .nil)))) (.ci 9))) (.cons (.set 4 (.sub (.lst (.cons .cn (.cons (.neg (.var 3)) (.cons (.cs "x") (.cons (.tup (.cons (.var 3) (.cons (.ci 2) .nil))) (.cons (.cb true) .nil)))))) (.call "_law_take" (.cons (.var 1) (.cons (.var 2) (.cons (.ci 5) .nil)))))) (.cons (.loop (.n 5) (.seq (.lst (.cons (.new .pos "BadValue" (.cons (.var 3) .nil)) (.cons (.new .pos "BadText" (.cons (.var 3) .nil)) (.cons (.new .pos "BadLevels" (.cons (.var 3) .nil)) (.cons (.new (.kw "at") "BadValue" (.cons (.var 3) .nil)) (.cons (.new (.kw "at") "BadText" (.cons (.var 3) .nil)) (.cons (.new (.kw "at") "BadLevels" (.cons (.var 3) .nil)) .nil)))))))) (.cons (.ite (.not (.call "_law_so" (.cons (.un1 (.attr "at") (.var 5)) (.cons (.var 3) .nil)))) (.cons (.ret (.cb false)) .nil) .nil) .nil)) (.cons (.loop (.n 5) (.seq (.lst (.cons (.new .pos "NoMaster" (.cons (.var 4) .nil)) (.cons (.new (.kw "name") "NoMaster" (.cons (.var 4) .nil)) (.cons (.new .pos "TakenName" (.cons (.var 4) .nil)) (.cons (.new (.kw "name") "TakenName" (.cons (.var 4) .nil)) .nil)))))) (.cons (.ite (.not (.call "_law_so" (.cons (.un1 (.attr "name") (.var 5)) (.cons (.var 4) .nil)))) (.cons (.ret (.cb false)) .nil) .nil) .nil)) (.cons (.set 6 (.lst (.cons (.new .pos "BadValue" (.cons (.var 3) .nil)) (.cons (.new .pos "BadText" (.cons (.var 3) .nil)) (.cons (.new .pos "BadLevels" (.cons (.var 3) .nil)) (.cons (.new .pos "NoMaster" (.cons (.var 4) .nil)) (.cons (.new .pos "TakenName" (.cons (.var 4) .nil)) (.cons (.new .no "TooMany" .nil) .nil)))))))) (.cons (.loop (.n 7) (.rng (.cons (.ci 6) .nil)) (.cons (.ite (.bo .Or (.cons (.cmp .NotEq (.call "_law_of" (.cons (.sub (.var 6) (.var 7)) .nil)) (.comp 0 (.n 8) (.rng (.cons (.ci 6) .nil)) .none (.cmp .Eq (.var 8) (.var 7)))) (.cons (.call "_law_foreign" (.cons (.sub (.var 6) (.var 7)) .nil)) (.cons (.not (.bf .isx (.cons (.sub (.var 6) (.var 7)) (.cons (.con "FormError") .nil)))) .nil)))) (.cons (.ret (.cb false)) .nil) .nil) .nil)) (.cons (.ret (.bo .And (.cons (.not (.call "_law_caught" (.cons (.ci 0) .nil))) (.cons (.call "_law_caught" (.cons (.bin .Add (.ci 1) (.call "_law_take" (.cons (.var 1) (.cons (.var 2) (.cons (.ci 9) .nil))))) .nil)) .nil)))) .nil)))))))))⟩
def rows : List Pc.Row := [(("_law_so" : Str), d__law_so, top 9), (("_law_numbers" : Str), d__law_numbers, top 10), (("_law_draw" : Str), d__law_draw, top 11), (("_law_take" : Str), d__law_take, top 12), (("_law_of" : Str), d__law_of, top 13), (("_law_foreign" : Str), d__law_foreign, top 14), (("_law_caught" : Str), d__law_caught, top 15), (("law" : Str), d_law, top 16)]
def cst : List (Str × D) := [(("BadLevels" : Str), (.cls "BadLevels" [("BadLevels", true), ("BadText", false), ("BadValue", false), ("FormError", true), ("NoMaster", false), ("TakenName", false), ("TooMany", false)] [("ArithmeticError", false), ("Exception", true), ("LookupError", false), ("ValueError", false)] ["at"] : D)), (("BadText" : Str), (.cls "BadText" [("BadLevels", false), ("BadText", true), ("BadValue", false), ("FormError", true), ("NoMaster", false), ("TakenName", false), ("TooMany", false)] [("ArithmeticError", false), ("Exception", true), ("LookupError", false), ("ValueError", false)] ["at"] : D)), (("BadValue" : Str), (.cls "BadValue" [("BadLevels", false), ("BadText", false), ("BadValue", true), ("FormError", true), ("NoMaster", false), ("TakenName", false), ("TooMany", false)] [("ArithmeticError", false), ("Exception", true), ("LookupError", false), ("ValueError", false)] ["at"] : D)), (("FormError" : Str), (.fn "FormError" : D)), (("NoMaster" : Str), (.cls "NoMaster" [("BadLevels", false), ("BadText", false), ("BadValue", false), ("FormError", true), ("NoMaster", true), ("TakenName", false), ("TooMany", false)] [("ArithmeticError", false), ("Exception", true), ("LookupError", false), ("ValueError", false)] ["name"] : D)), (("TakenName" : Str), (.cls "TakenName" [("BadLevels", false), ("BadText", false), ("BadValue", false), ("FormError", true), ("NoMaster", false), ("TakenName", true), ("TooMany", false)] [("ArithmeticError", false), ("Exception", true), ("LookupError", false), ("ValueError", false)] ["name"] : D)), (("TooMany" : Str), (.cls "TooMany" [("BadLevels", false), ("BadText", false), ("BadValue", false), ("FormError", true), ("NoMaster", false), ("TakenName", false), ("TooMany", true)] [("ArithmeticError", false), ("Exception", true), ("LookupError", false), ("ValueError", false)] [] : D))]
def fre_ : List Str := ["ArithmeticError", "Exception", "LookupError", "ValueError", "bool", "int", "isinstance", "len", "range", "str", "tuple"]
def imps : List (Str × IM) := []
def kwf_ : Str → Bool := fun x => ([] : List Str).contains x
def errs : List (Str × Str) := [("NoMaster", "name")]
def rf_ : Str → Option Str := fun x => List.lookup x errs
theorem s__law_so : Said (tabL rows) (conU cst) rf_ fre_ kwf_ (impL imps) "_law_so" d__law_so (top 9) := ⟨⟨rfl, rfl, rfl, by decide +kernel, rfl, by decide +kernel, by decide +kernel⟩, by decide, by decide +kernel, fun _ _ _ _ _ _ us hl => match us, hl with | [_, _], _ => rfl, fun q => absurd q (by decide +kernel)⟩
theorem s__law_numbers : Said (tabL rows) (conU cst) rf_ fre_ kwf_ (impL imps) "_law_numbers" d__law_numbers (top 10) := ⟨⟨rfl, rfl, rfl, by decide +kernel, rfl, by decide +kernel, by decide +kernel⟩, by decide, by decide +kernel, fun _ _ _ _ _ _ us hl => match us, hl with | [_], _ => rfl, fun q => absurd q (by decide +kernel)⟩
theorem s__law_draw : Said (tabL rows) (conU cst) rf_ fre_ kwf_ (impL imps) "_law_draw" d__law_draw (top 11) := ⟨⟨rfl, rfl, rfl, by decide +kernel, rfl, by decide +kernel, by decide +kernel⟩, by decide, by decide +kernel, fun _ _ _ _ _ _ us hl => match us, hl with | [_, _, _], _ => rfl, fun q => absurd q (by decide +kernel)⟩
theorem s__law_take : Said (tabL rows) (conU cst) rf_ fre_ kwf_ (impL imps) "_law_take" d__law_take (top 12) := ⟨⟨rfl, rfl, rfl, by decide +kernel, rfl, by decide +kernel, by decide +kernel⟩, by decide, by decide +kernel, fun _ _ _ _ _ _ us hl => match us, hl with | [_, _, _], _ => rfl, fun q => absurd q (by decide +kernel)⟩
theorem s__law_of : Said (tabL rows) (conU cst) rf_ fre_ kwf_ (impL imps) "_law_of" d__law_of (top 13) := ⟨⟨rfl, rfl, rfl, by decide +kernel, rfl, by decide +kernel, by decide +kernel⟩, by decide, by decide +kernel, fun _ _ _ _ _ _ us hl => match us, hl with | [_], _ => rfl, fun q => absurd q (by decide +kernel)⟩
theorem s__law_foreign : Said (tabL rows) (conU cst) rf_ fre_ kwf_ (impL imps) "_law_foreign" d__law_foreign (top 14) := ⟨⟨rfl, rfl, rfl, by decide +kernel, rfl, by decide +kernel, by decide +kernel⟩, by decide, by decide +kernel, fun _ _ _ _ _ _ us hl => match us, hl with | [_], _ => rfl, fun q => absurd q (by decide +kernel)⟩
theorem s__law_caught : Said (tabL rows) (conU cst) rf_ fre_ kwf_ (impL imps) "_law_caught" d__law_caught (top 15) := ⟨⟨rfl, rfl, rfl, by decide +kernel, rfl, by decide +kernel, by decide +kernel⟩, by decide, by decide +kernel, fun _ _ _ _ _ _ us hl => match us, hl with | [_], _ => rfl, fun q => absurd q (by decide +kernel)⟩
theorem s_law : Said (tabL rows) (conU cst) rf_ fre_ kwf_ (impL imps) "law" d_law (top 16) := ⟨⟨rfl, rfl, rfl, by decide +kernel, rfl, by decide +kernel, by decide +kernel⟩, by decide, by decide +kernel, fun _ _ _ _ _ _ us hl => match us, hl with | [_], _ => rfl, fun q => absurd q (by decide +kernel)⟩
theorem all_said : AllL (fun p : Pc.Row => Said (tabL rows) (conU cst) rf_ fre_ kwf_ (impL imps) p.1 p.2.1 p.2.2) rows := ⟨s__law_so, s__law_numbers, s__law_draw, s__law_take, s__law_of, s__law_foreign, s__law_caught, s_law, trivial⟩
theorem tx_all {K : PySem.W.Frag} {mg : Str → Option Value} {h : Heap} (KX : K.In h) (G : h.Ns mainGlobals mg) (D0 : DefAt K "_law_so" (top 9)) (D1 : DefAt K "_law_numbers" (top 10)) (D2 : DefAt K "_law_draw" (top 11)) (D3 : DefAt K "_law_take" (top 12)) (D4 : DefAt K "_law_of" (top 13)) (D5 : DefAt K "_law_foreign" (top 14)) (D6 : DefAt K "_law_caught" (top 15)) (D7 : DefAt K "law" (top 16)) (C0 : ConAt K "BadLevels" (.cls "BadLevels" [("BadLevels", true), ("BadText", false), ("BadValue", false), ("FormError", true), ("NoMaster", false), ("TakenName", false), ("TooMany", false)] [("ArithmeticError", false), ("Exception", true), ("LookupError", false), ("ValueError", false)] ["at"])) (C1 : ConAt K "BadText" (.cls "BadText" [("BadLevels", false), ("BadText", true), ("BadValue", false), ("FormError", true), ("NoMaster", false), ("TakenName", false), ("TooMany", false)] [("ArithmeticError", false), ("Exception", true), ("LookupError", false), ("ValueError", false)] ["at"])) (C2 : ConAt K "BadValue" (.cls "BadValue" [("BadLevels", false), ("BadText", false), ("BadValue", true), ("FormError", true), ("NoMaster", false), ("TakenName", false), ("TooMany", false)] [("ArithmeticError", false), ("Exception", true), ("LookupError", false), ("ValueError", false)] ["at"])) (C3 : ConAt K "FormError" (.fn "FormError")) (C4 : ConAt K "NoMaster" (.cls "NoMaster" [("BadLevels", false), ("BadText", false), ("BadValue", false), ("FormError", true), ("NoMaster", true), ("TakenName", false), ("TooMany", false)] [("ArithmeticError", false), ("Exception", true), ("LookupError", false), ("ValueError", false)] ["name"])) (C5 : ConAt K "TakenName" (.cls "TakenName" [("BadLevels", false), ("BadText", false), ("BadValue", false), ("FormError", true), ("NoMaster", false), ("TakenName", true), ("TooMany", false)] [("ArithmeticError", false), ("Exception", true), ("LookupError", false), ("ValueError", false)] ["name"])) (C6 : ConAt K "TooMany" (.cls "TooMany" [("BadLevels", false), ("BadText", false), ("BadValue", false), ("FormError", true), ("NoMaster", false), ("TakenName", false), ("TooMany", true)] [("ArithmeticError", false), ("Exception", true), ("LookupError", false), ("ValueError", false)] [])) (F0 : PySem.W.nsIn K mainGlobals "ArithmeticError" = some none) (F1 : PySem.W.nsIn K mainGlobals "Exception" = some none) (F2 : PySem.W.nsIn K mainGlobals "LookupError" = some none) (F3 : PySem.W.nsIn K mainGlobals "ValueError" = some none) (F4 : PySem.W.nsIn K mainGlobals "bool" = some none) (F5 : PySem.W.nsIn K mainGlobals "int" = some none) (F6 : PySem.W.nsIn K mainGlobals "isinstance" = some none) (F7 : PySem.W.nsIn K mainGlobals "len" = some none) (F8 : PySem.W.nsIn K mainGlobals "range" = some none) (F9 : PySem.W.nsIn K mainGlobals "str" = some none) (F10 : PySem.W.nsIn K mainGlobals "tuple" = some none) (B0 : ∃ qual C F fI, PySem.PcX.BadT K mg "NoMaster" "name" qual C F fI) : Txt K mg (tabL rows) (conL cst) (conU cst) rf_ fre_ kwf_ (impL imps) ∧ Bts K mg rf_ :=
  ⟨txt_list KX G all_said ⟨D0, D1, D2, D3, D4, D5, D6, D7, trivial⟩ ⟨C0, C1, C2, C3, C4, C5, C6, trivial⟩ ⟨F0, F1, F2, F3, F4, F5, F6, F7, F8, F9, F10, trivial⟩ trivial, bts_of (l := errs) ⟨⟨by decide, B0⟩, trivial⟩⟩

end K00
namespace K00
open PySem Pc
theorem has : Has00 (tabL rows) (conL cst) := ⟨rfl, rfl, rfl, rfl, rfl, rfl, rfl, rfl, rfl, rfl, rfl, rfl, rfl, rfl⟩
theorem math : ∀ ns : List Int, ns.length ≤ 63 → (∀ z ∈ ns, Builtin.Int.intBits z ≤ 1048576) → callK (tabL rows) (conL cst) rf_ 20 "law" [.frz (ns.map .int)] [] = .ok (.bl true) [] := fun ns h _ => k00_law (k := 0) has rfl rfl h
end K00
open PySem PySem.W PyProof.Rows
set_option maxRecDepth 100000 in
set_option maxHeartbeats 8000000 in
theorem PySem.Challenge.cw_keptform_k00_errors_holds : PySem.Challenge.rw_keptform_k00_errors.Holds := by
  w_on
  o_law
  k_head
  (case hw => w_witness2)
  k_fill
  refine Pc.law_walk (l := PySem.Challenge.rw_keptform_k00_errors) (T := Pc.tabL K00.rows) (con := Pc.conL K00.cst) (conS := Pc.conU K00.cst) (rf := K00.rf_) (fre := K00.fre_) (kwf := K00.kwf_) (imp := Pc.impL K00.imps) 20 (dl := K00.d_law) rfl rfl ⟨rfl, by decide, by decide⟩ (fun w h Y => PySem.W.kIn_of Y) rfl rfl rfl ?tx K00.math
  case tx =>
    intro w mg h KX G
    refine' K00.tx_all KX G ?D0 ?D1 ?D2 ?D3 ?D4 ?D5 ?D6 ?D7 ?C0 ?C1 ?C2 ?C3 ?C4 ?C5 ?C6 ?F0 ?F1 ?F2 ?F3 ?F4 ?F5 ?F6 ?F7 ?F8 ?F9 ?F10 ?B0
    (case D0 => refine' Pc.def_at ?a ?l ?c ?k; (case a => k_is); (case l => k_is); (case c => k_is); (case k => k_is))
    (case D1 => refine' Pc.def_at ?a ?l ?c ?k; (case a => k_is); (case l => k_is); (case c => k_is); (case k => k_is))
    (case D2 => refine' Pc.def_at ?a ?l ?c ?k; (case a => k_is); (case l => k_is); (case c => k_is); (case k => k_is))
    (case D3 => refine' Pc.def_at ?a ?l ?c ?k; (case a => k_is); (case l => k_is); (case c => k_is); (case k => k_is))
    (case D4 => refine' Pc.def_at ?a ?l ?c ?k; (case a => k_is); (case l => k_is); (case c => k_is); (case k => k_is))
    (case D5 => refine' Pc.def_at ?a ?l ?c ?k; (case a => k_is); (case l => k_is); (case c => k_is); (case k => k_is))
    (case D6 => refine' Pc.def_at ?a ?l ?c ?k; (case a => k_is); (case l => k_is); (case c => k_is); (case k => k_is))
    (case D7 => refine' Pc.def_at ?a ?l ?c ?k; (case a => k_is); (case l => k_is); (case c => k_is); (case k => k_is))
    (case C0 => refine' Pc.con_cls ⟨⟨?hg, ?hk, ?hs, ?hd, ?ha, ?hn, ?ht, ?hm⟩, ⟨⟨_, ?o0a, ?o0b, ?o0c, ?o0d, ?o0e, ?o0f⟩, ⟨_, ?o1a, ?o1b, ?o1c, ?o1d, ?o1e, ?o1f⟩, ⟨_, ?o2a, ?o2b, ?o2c, ?o2d, ?o2e, ?o2f⟩, ⟨_, ?o3a, ?o3b, ?o3c, ?o3d, ?o3e, ?o3f⟩, ⟨_, ?o4a, ?o4b, ?o4c, ?o4d, ?o4e, ?o4f⟩, ⟨_, ?o5a, ?o5b, ?o5c, ?o5d, ?o5e, ?o5f⟩, ⟨_, ?o6a, ?o6b, ?o6c, ?o6d, ?o6e, ?o6f⟩, trivial⟩, ⟨?b0, ?b1, ?b2, ?b3, trivial⟩, ?gC, ?mk⟩; (case gC => k_is); (case hg => first | k_is | rfl | decide +kernel); (case hk => first | k_is | rfl | decide +kernel); (case hs => first | k_is | rfl | decide +kernel); (case hd => first | k_is | rfl | decide +kernel); (case ha => first | k_is | rfl | decide +kernel); (case hn => first | k_is | rfl | decide +kernel); (case ht => first | k_is | rfl | decide +kernel); (case hm => first | k_is | rfl | decide +kernel); (case o0a => first | k_is | kit_is | rfl | decide +kernel); (case o0b => first | k_is | kit_is | rfl | decide +kernel); (case o0c => first | k_is | kit_is | rfl | decide +kernel); (case o0d => first | k_is | kit_is | rfl | decide +kernel); (case o0e => first | k_is | kit_is | rfl | decide +kernel); (case o0f => first | k_is | kit_is | rfl | decide +kernel); (case o1a => first | k_is | kit_is | rfl | decide +kernel); (case o1b => first | k_is | kit_is | rfl | decide +kernel); (case o1c => first | k_is | kit_is | rfl | decide +kernel); (case o1d => first | k_is | kit_is | rfl | decide +kernel); (case o1e => first | k_is | kit_is | rfl | decide +kernel); (case o1f => first | k_is | kit_is | rfl | decide +kernel); (case o2a => first | k_is | kit_is | rfl | decide +kernel); (case o2b => first | k_is | kit_is | rfl | decide +kernel); (case o2c => first | k_is | kit_is | rfl | decide +kernel); (case o2d => first | k_is | kit_is | rfl | decide +kernel); (case o2e => first | k_is | kit_is | rfl | decide +kernel); (case o2f => first | k_is | kit_is | rfl | decide +kernel); (case o3a => first | k_is | kit_is | rfl | decide +kernel); (case o3b => first | k_is | kit_is | rfl | decide +kernel); (case o3c => first | k_is | kit_is | rfl | decide +kernel); (case o3d => first | k_is | kit_is | rfl | decide +kernel); (case o3e => first | k_is | kit_is | rfl | decide +kernel); (case o3f => first | k_is | kit_is | rfl | decide +kernel); (case o4a => first | k_is | kit_is | rfl | decide +kernel); (case o4b => first | k_is | kit_is | rfl | decide +kernel); (case o4c => first | k_is | kit_is | rfl | decide +kernel); (case o4d => first | k_is | kit_is | rfl | decide +kernel); (case o4e => first | k_is | kit_is | rfl | decide +kernel); (case o4f => first | k_is | kit_is | rfl | decide +kernel); (case o5a => first | k_is | kit_is | rfl | decide +kernel); (case o5b => first | k_is | kit_is | rfl | decide +kernel); (case o5c => first | k_is | kit_is | rfl | decide +kernel); (case o5d => first | k_is | kit_is | rfl | decide +kernel); (case o5e => first | k_is | kit_is | rfl | decide +kernel); (case o5f => first | k_is | kit_is | rfl | decide +kernel); (case o6a => first | k_is | kit_is | rfl | decide +kernel); (case o6b => first | k_is | kit_is | rfl | decide +kernel); (case o6c => first | k_is | kit_is | rfl | decide +kernel); (case o6d => first | k_is | kit_is | rfl | decide +kernel); (case o6e => first | k_is | kit_is | rfl | decide +kernel); (case o6f => first | k_is | kit_is | rfl | decide +kernel); (case b0 => first | kit_is | k_is | rfl | decide +kernel); (case b1 => first | kit_is | k_is | rfl | decide +kernel); (case b2 => first | kit_is | k_is | rfl | decide +kernel); (case b3 => first | kit_is | k_is | rfl | decide +kernel); (case mk => intro mg h KX G; refine' ⟨_, _, _, Pc.bad_of KX G ?ff ?aC ?aF ?cl ?sa ?ga ?gg ?nN ?iC ?tC ?kC ?exC ?tyC ?hdC ?isC ?sC ?rF ?sF ?cF ?fn ?cd ?hlin⟩; (case ff => first | exact .inl rfl | exact .inr rfl); (case aC => first | k_is | rfl | decide +kernel); (case aF => first | k_is | rfl | decide +kernel); (case cl => first | k_is | rfl | decide +kernel); (case sa => first | k_is | rfl | decide +kernel); (case ga => first | k_is | rfl | decide +kernel); (case gg => first | k_is | rfl | decide +kernel); (case nN => first | k_is | rfl | decide +kernel); (case iC => first | k_is | rfl | decide +kernel); (case tC => first | k_is | rfl | decide +kernel); (case kC => first | k_is | rfl | decide +kernel); (case exC => first | k_is | rfl | decide +kernel); (case tyC => first | k_is | rfl | decide +kernel); (case hdC => first | k_is | rfl | decide +kernel); (case isC => first | k_is | rfl | decide +kernel); (case sC => first | k_is | rfl | decide +kernel); (case rF => first | k_is | rfl | decide +kernel); (case sF => first | k_is | rfl | decide +kernel); (case cF => first | k_is | rfl | decide +kernel); (case fn => first | k_is | rfl | decide +kernel); (case cd => first | k_is | rfl | decide +kernel); (case hlin => first | rfl | decide)))
    (case C1 => refine' Pc.con_cls ⟨⟨?hg, ?hk, ?hs, ?hd, ?ha, ?hn, ?ht, ?hm⟩, ⟨⟨_, ?o0a, ?o0b, ?o0c, ?o0d, ?o0e, ?o0f⟩, ⟨_, ?o1a, ?o1b, ?o1c, ?o1d, ?o1e, ?o1f⟩, ⟨_, ?o2a, ?o2b, ?o2c, ?o2d, ?o2e, ?o2f⟩, ⟨_, ?o3a, ?o3b, ?o3c, ?o3d, ?o3e, ?o3f⟩, ⟨_, ?o4a, ?o4b, ?o4c, ?o4d, ?o4e, ?o4f⟩, ⟨_, ?o5a, ?o5b, ?o5c, ?o5d, ?o5e, ?o5f⟩, ⟨_, ?o6a, ?o6b, ?o6c, ?o6d, ?o6e, ?o6f⟩, trivial⟩, ⟨?b0, ?b1, ?b2, ?b3, trivial⟩, ?gC, ?mk⟩; (case gC => k_is); (case hg => first | k_is | rfl | decide +kernel); (case hk => first | k_is | rfl | decide +kernel); (case hs => first | k_is | rfl | decide +kernel); (case hd => first | k_is | rfl | decide +kernel); (case ha => first | k_is | rfl | decide +kernel); (case hn => first | k_is | rfl | decide +kernel); (case ht => first | k_is | rfl | decide +kernel); (case hm => first | k_is | rfl | decide +kernel); (case o0a => first | k_is | kit_is | rfl | decide +kernel); (case o0b => first | k_is | kit_is | rfl | decide +kernel); (case o0c => first | k_is | kit_is | rfl | decide +kernel); (case o0d => first | k_is | kit_is | rfl | decide +kernel); (case o0e => first | k_is | kit_is | rfl | decide +kernel); (case o0f => first | k_is | kit_is | rfl | decide +kernel); (case o1a => first | k_is | kit_is | rfl | decide +kernel); (case o1b => first | k_is | kit_is | rfl | decide +kernel); (case o1c => first | k_is | kit_is | rfl | decide +kernel); (case o1d => first | k_is | kit_is | rfl | decide +kernel); (case o1e => first | k_is | kit_is | rfl | decide +kernel); (case o1f => first | k_is | kit_is | rfl | decide +kernel); (case o2a => first | k_is | kit_is | rfl | decide +kernel); (case o2b => first | k_is | kit_is | rfl | decide +kernel); (case o2c => first | k_is | kit_is | rfl | decide +kernel); (case o2d => first | k_is | kit_is | rfl | decide +kernel); (case o2e => first | k_is | kit_is | rfl | decide +kernel); (case o2f => first | k_is | kit_is | rfl | decide +kernel); (case o3a => first | k_is | kit_is | rfl | decide +kernel); (case o3b => first | k_is | kit_is | rfl | decide +kernel); (case o3c => first | k_is | kit_is | rfl | decide +kernel); (case o3d => first | k_is | kit_is | rfl | decide +kernel); (case o3e => first | k_is | kit_is | rfl | decide +kernel); (case o3f => first | k_is | kit_is | rfl | decide +kernel); (case o4a => first | k_is | kit_is | rfl | decide +kernel); (case o4b => first | k_is | kit_is | rfl | decide +kernel); (case o4c => first | k_is | kit_is | rfl | decide +kernel); (case o4d => first | k_is | kit_is | rfl | decide +kernel); (case o4e => first | k_is | kit_is | rfl | decide +kernel); (case o4f => first | k_is | kit_is | rfl | decide +kernel); (case o5a => first | k_is | kit_is | rfl | decide +kernel); (case o5b => first | k_is | kit_is | rfl | decide +kernel); (case o5c => first | k_is | kit_is | rfl | decide +kernel); (case o5d => first | k_is | kit_is | rfl | decide +kernel); (case o5e => first | k_is | kit_is | rfl | decide +kernel); (case o5f => first | k_is | kit_is | rfl | decide +kernel); (case o6a => first | k_is | kit_is | rfl | decide +kernel); (case o6b => first | k_is | kit_is | rfl | decide +kernel); (case o6c => first | k_is | kit_is | rfl | decide +kernel); (case o6d => first | k_is | kit_is | rfl | decide +kernel); (case o6e => first | k_is | kit_is | rfl | decide +kernel); (case o6f => first | k_is | kit_is | rfl | decide +kernel); (case b0 => first | kit_is | k_is | rfl | decide +kernel); (case b1 => first | kit_is | k_is | rfl | decide +kernel); (case b2 => first | kit_is | k_is | rfl | decide +kernel); (case b3 => first | kit_is | k_is | rfl | decide +kernel); (case mk => intro mg h KX G; refine' ⟨_, _, _, Pc.bad_of KX G ?ff ?aC ?aF ?cl ?sa ?ga ?gg ?nN ?iC ?tC ?kC ?exC ?tyC ?hdC ?isC ?sC ?rF ?sF ?cF ?fn ?cd ?hlin⟩; (case ff => first | exact .inl rfl | exact .inr rfl); (case aC => first | k_is | rfl | decide +kernel); (case aF => first | k_is | rfl | decide +kernel); (case cl => first | k_is | rfl | decide +kernel); (case sa => first | k_is | rfl | decide +kernel); (case ga => first | k_is | rfl | decide +kernel); (case gg => first | k_is | rfl | decide +kernel); (case nN => first | k_is | rfl | decide +kernel); (case iC => first | k_is | rfl | decide +kernel); (case tC => first | k_is | rfl | decide +kernel); (case kC => first | k_is | rfl | decide +kernel); (case exC => first | k_is | rfl | decide +kernel); (case tyC => first | k_is | rfl | decide +kernel); (case hdC => first | k_is | rfl | decide +kernel); (case isC => first | k_is | rfl | decide +kernel); (case sC => first | k_is | rfl | decide +kernel); (case rF => first | k_is | rfl | decide +kernel); (case sF => first | k_is | rfl | decide +kernel); (case cF => first | k_is | rfl | decide +kernel); (case fn => first | k_is | rfl | decide +kernel); (case cd => first | k_is | rfl | decide +kernel); (case hlin => first | rfl | decide)))
    (case C2 => refine' Pc.con_cls ⟨⟨?hg, ?hk, ?hs, ?hd, ?ha, ?hn, ?ht, ?hm⟩, ⟨⟨_, ?o0a, ?o0b, ?o0c, ?o0d, ?o0e, ?o0f⟩, ⟨_, ?o1a, ?o1b, ?o1c, ?o1d, ?o1e, ?o1f⟩, ⟨_, ?o2a, ?o2b, ?o2c, ?o2d, ?o2e, ?o2f⟩, ⟨_, ?o3a, ?o3b, ?o3c, ?o3d, ?o3e, ?o3f⟩, ⟨_, ?o4a, ?o4b, ?o4c, ?o4d, ?o4e, ?o4f⟩, ⟨_, ?o5a, ?o5b, ?o5c, ?o5d, ?o5e, ?o5f⟩, ⟨_, ?o6a, ?o6b, ?o6c, ?o6d, ?o6e, ?o6f⟩, trivial⟩, ⟨?b0, ?b1, ?b2, ?b3, trivial⟩, ?gC, ?mk⟩; (case gC => k_is); (case hg => first | k_is | rfl | decide +kernel); (case hk => first | k_is | rfl | decide +kernel); (case hs => first | k_is | rfl | decide +kernel); (case hd => first | k_is | rfl | decide +kernel); (case ha => first | k_is | rfl | decide +kernel); (case hn => first | k_is | rfl | decide +kernel); (case ht => first | k_is | rfl | decide +kernel); (case hm => first | k_is | rfl | decide +kernel); (case o0a => first | k_is | kit_is | rfl | decide +kernel); (case o0b => first | k_is | kit_is | rfl | decide +kernel); (case o0c => first | k_is | kit_is | rfl | decide +kernel); (case o0d => first | k_is | kit_is | rfl | decide +kernel); (case o0e => first | k_is | kit_is | rfl | decide +kernel); (case o0f => first | k_is | kit_is | rfl | decide +kernel); (case o1a => first | k_is | kit_is | rfl | decide +kernel); (case o1b => first | k_is | kit_is | rfl | decide +kernel); (case o1c => first | k_is | kit_is | rfl | decide +kernel); (case o1d => first | k_is | kit_is | rfl | decide +kernel); (case o1e => first | k_is | kit_is | rfl | decide +kernel); (case o1f => first | k_is | kit_is | rfl | decide +kernel); (case o2a => first | k_is | kit_is | rfl | decide +kernel); (case o2b => first | k_is | kit_is | rfl | decide +kernel); (case o2c => first | k_is | kit_is | rfl | decide +kernel); (case o2d => first | k_is | kit_is | rfl | decide +kernel); (case o2e => first | k_is | kit_is | rfl | decide +kernel); (case o2f => first | k_is | kit_is | rfl | decide +kernel); (case o3a => first | k_is | kit_is | rfl | decide +kernel); (case o3b => first | k_is | kit_is | rfl | decide +kernel); (case o3c => first | k_is | kit_is | rfl | decide +kernel); (case o3d => first | k_is | kit_is | rfl | decide +kernel); (case o3e => first | k_is | kit_is | rfl | decide +kernel); (case o3f => first | k_is | kit_is | rfl | decide +kernel); (case o4a => first | k_is | kit_is | rfl | decide +kernel); (case o4b => first | k_is | kit_is | rfl | decide +kernel); (case o4c => first | k_is | kit_is | rfl | decide +kernel); (case o4d => first | k_is | kit_is | rfl | decide +kernel); (case o4e => first | k_is | kit_is | rfl | decide +kernel); (case o4f => first | k_is | kit_is | rfl | decide +kernel); (case o5a => first | k_is | kit_is | rfl | decide +kernel); (case o5b => first | k_is | kit_is | rfl | decide +kernel); (case o5c => first | k_is | kit_is | rfl | decide +kernel); (case o5d => first | k_is | kit_is | rfl | decide +kernel); (case o5e => first | k_is | kit_is | rfl | decide +kernel); (case o5f => first | k_is | kit_is | rfl | decide +kernel); (case o6a => first | k_is | kit_is | rfl | decide +kernel); (case o6b => first | k_is | kit_is | rfl | decide +kernel); (case o6c => first | k_is | kit_is | rfl | decide +kernel); (case o6d => first | k_is | kit_is | rfl | decide +kernel); (case o6e => first | k_is | kit_is | rfl | decide +kernel); (case o6f => first | k_is | kit_is | rfl | decide +kernel); (case b0 => first | kit_is | k_is | rfl | decide +kernel); (case b1 => first | kit_is | k_is | rfl | decide +kernel); (case b2 => first | kit_is | k_is | rfl | decide +kernel); (case b3 => first | kit_is | k_is | rfl | decide +kernel); (case mk => intro mg h KX G; refine' ⟨_, _, _, Pc.bad_of KX G ?ff ?aC ?aF ?cl ?sa ?ga ?gg ?nN ?iC ?tC ?kC ?exC ?tyC ?hdC ?isC ?sC ?rF ?sF ?cF ?fn ?cd ?hlin⟩; (case ff => first | exact .inl rfl | exact .inr rfl); (case aC => first | k_is | rfl | decide +kernel); (case aF => first | k_is | rfl | decide +kernel); (case cl => first | k_is | rfl | decide +kernel); (case sa => first | k_is | rfl | decide +kernel); (case ga => first | k_is | rfl | decide +kernel); (case gg => first | k_is | rfl | decide +kernel); (case nN => first | k_is | rfl | decide +kernel); (case iC => first | k_is | rfl | decide +kernel); (case tC => first | k_is | rfl | decide +kernel); (case kC => first | k_is | rfl | decide +kernel); (case exC => first | k_is | rfl | decide +kernel); (case tyC => first | k_is | rfl | decide +kernel); (case hdC => first | k_is | rfl | decide +kernel); (case isC => first | k_is | rfl | decide +kernel); (case sC => first | k_is | rfl | decide +kernel); (case rF => first | k_is | rfl | decide +kernel); (case sF => first | k_is | rfl | decide +kernel); (case cF => first | k_is | rfl | decide +kernel); (case fn => first | k_is | rfl | decide +kernel); (case cd => first | k_is | rfl | decide +kernel); (case hlin => first | rfl | decide)))
    (case C3 => refine' Pc.con_fn ?a; (case a => k_is))
    (case C4 => refine' Pc.con_cls ⟨⟨?hg, ?hk, ?hs, ?hd, ?ha, ?hn, ?ht, ?hm⟩, ⟨⟨_, ?o0a, ?o0b, ?o0c, ?o0d, ?o0e, ?o0f⟩, ⟨_, ?o1a, ?o1b, ?o1c, ?o1d, ?o1e, ?o1f⟩, ⟨_, ?o2a, ?o2b, ?o2c, ?o2d, ?o2e, ?o2f⟩, ⟨_, ?o3a, ?o3b, ?o3c, ?o3d, ?o3e, ?o3f⟩, ⟨_, ?o4a, ?o4b, ?o4c, ?o4d, ?o4e, ?o4f⟩, ⟨_, ?o5a, ?o5b, ?o5c, ?o5d, ?o5e, ?o5f⟩, ⟨_, ?o6a, ?o6b, ?o6c, ?o6d, ?o6e, ?o6f⟩, trivial⟩, ⟨?b0, ?b1, ?b2, ?b3, trivial⟩, ?gC, ?mk⟩; (case gC => k_is); (case hg => first | k_is | rfl | decide +kernel); (case hk => first | k_is | rfl | decide +kernel); (case hs => first | k_is | rfl | decide +kernel); (case hd => first | k_is | rfl | decide +kernel); (case ha => first | k_is | rfl | decide +kernel); (case hn => first | k_is | rfl | decide +kernel); (case ht => first | k_is | rfl | decide +kernel); (case hm => first | k_is | rfl | decide +kernel); (case o0a => first | k_is | kit_is | rfl | decide +kernel); (case o0b => first | k_is | kit_is | rfl | decide +kernel); (case o0c => first | k_is | kit_is | rfl | decide +kernel); (case o0d => first | k_is | kit_is | rfl | decide +kernel); (case o0e => first | k_is | kit_is | rfl | decide +kernel); (case o0f => first | k_is | kit_is | rfl | decide +kernel); (case o1a => first | k_is | kit_is | rfl | decide +kernel); (case o1b => first | k_is | kit_is | rfl | decide +kernel); (case o1c => first | k_is | kit_is | rfl | decide +kernel); (case o1d => first | k_is | kit_is | rfl | decide +kernel); (case o1e => first | k_is | kit_is | rfl | decide +kernel); (case o1f => first | k_is | kit_is | rfl | decide +kernel); (case o2a => first | k_is | kit_is | rfl | decide +kernel); (case o2b => first | k_is | kit_is | rfl | decide +kernel); (case o2c => first | k_is | kit_is | rfl | decide +kernel); (case o2d => first | k_is | kit_is | rfl | decide +kernel); (case o2e => first | k_is | kit_is | rfl | decide +kernel); (case o2f => first | k_is | kit_is | rfl | decide +kernel); (case o3a => first | k_is | kit_is | rfl | decide +kernel); (case o3b => first | k_is | kit_is | rfl | decide +kernel); (case o3c => first | k_is | kit_is | rfl | decide +kernel); (case o3d => first | k_is | kit_is | rfl | decide +kernel); (case o3e => first | k_is | kit_is | rfl | decide +kernel); (case o3f => first | k_is | kit_is | rfl | decide +kernel); (case o4a => first | k_is | kit_is | rfl | decide +kernel); (case o4b => first | k_is | kit_is | rfl | decide +kernel); (case o4c => first | k_is | kit_is | rfl | decide +kernel); (case o4d => first | k_is | kit_is | rfl | decide +kernel); (case o4e => first | k_is | kit_is | rfl | decide +kernel); (case o4f => first | k_is | kit_is | rfl | decide +kernel); (case o5a => first | k_is | kit_is | rfl | decide +kernel); (case o5b => first | k_is | kit_is | rfl | decide +kernel); (case o5c => first | k_is | kit_is | rfl | decide +kernel); (case o5d => first | k_is | kit_is | rfl | decide +kernel); (case o5e => first | k_is | kit_is | rfl | decide +kernel); (case o5f => first | k_is | kit_is | rfl | decide +kernel); (case o6a => first | k_is | kit_is | rfl | decide +kernel); (case o6b => first | k_is | kit_is | rfl | decide +kernel); (case o6c => first | k_is | kit_is | rfl | decide +kernel); (case o6d => first | k_is | kit_is | rfl | decide +kernel); (case o6e => first | k_is | kit_is | rfl | decide +kernel); (case o6f => first | k_is | kit_is | rfl | decide +kernel); (case b0 => first | kit_is | k_is | rfl | decide +kernel); (case b1 => first | kit_is | k_is | rfl | decide +kernel); (case b2 => first | kit_is | k_is | rfl | decide +kernel); (case b3 => first | kit_is | k_is | rfl | decide +kernel); (case mk => intro mg h KX G; refine' ⟨_, _, _, Pc.bad_of KX G ?ff ?aC ?aF ?cl ?sa ?ga ?gg ?nN ?iC ?tC ?kC ?exC ?tyC ?hdC ?isC ?sC ?rF ?sF ?cF ?fn ?cd ?hlin⟩; (case ff => first | exact .inl rfl | exact .inr rfl); (case aC => first | k_is | rfl | decide +kernel); (case aF => first | k_is | rfl | decide +kernel); (case cl => first | k_is | rfl | decide +kernel); (case sa => first | k_is | rfl | decide +kernel); (case ga => first | k_is | rfl | decide +kernel); (case gg => first | k_is | rfl | decide +kernel); (case nN => first | k_is | rfl | decide +kernel); (case iC => first | k_is | rfl | decide +kernel); (case tC => first | k_is | rfl | decide +kernel); (case kC => first | k_is | rfl | decide +kernel); (case exC => first | k_is | rfl | decide +kernel); (case tyC => first | k_is | rfl | decide +kernel); (case hdC => first | k_is | rfl | decide +kernel); (case isC => first | k_is | rfl | decide +kernel); (case sC => first | k_is | rfl | decide +kernel); (case rF => first | k_is | rfl | decide +kernel); (case sF => first | k_is | rfl | decide +kernel); (case cF => first | k_is | rfl | decide +kernel); (case fn => first | k_is | rfl | decide +kernel); (case cd => first | k_is | rfl | decide +kernel); (case hlin => first | rfl | decide)))
    (case C5 => refine' Pc.con_cls ⟨⟨?hg, ?hk, ?hs, ?hd, ?ha, ?hn, ?ht, ?hm⟩, ⟨⟨_, ?o0a, ?o0b, ?o0c, ?o0d, ?o0e, ?o0f⟩, ⟨_, ?o1a, ?o1b, ?o1c, ?o1d, ?o1e, ?o1f⟩, ⟨_, ?o2a, ?o2b, ?o2c, ?o2d, ?o2e, ?o2f⟩, ⟨_, ?o3a, ?o3b, ?o3c, ?o3d, ?o3e, ?o3f⟩, ⟨_, ?o4a, ?o4b, ?o4c, ?o4d, ?o4e, ?o4f⟩, ⟨_, ?o5a, ?o5b, ?o5c, ?o5d, ?o5e, ?o5f⟩, ⟨_, ?o6a, ?o6b, ?o6c, ?o6d, ?o6e, ?o6f⟩, trivial⟩, ⟨?b0, ?b1, ?b2, ?b3, trivial⟩, ?gC, ?mk⟩; (case gC => k_is); (case hg => first | k_is | rfl | decide +kernel); (case hk => first | k_is | rfl | decide +kernel); (case hs => first | k_is | rfl | decide +kernel); (case hd => first | k_is | rfl | decide +kernel); (case ha => first | k_is | rfl | decide +kernel); (case hn => first | k_is | rfl | decide +kernel); (case ht => first | k_is | rfl | decide +kernel); (case hm => first | k_is | rfl | decide +kernel); (case o0a => first | k_is | kit_is | rfl | decide +kernel); (case o0b => first | k_is | kit_is | rfl | decide +kernel); (case o0c => first | k_is | kit_is | rfl | decide +kernel); (case o0d => first | k_is | kit_is | rfl | decide +kernel); (case o0e => first | k_is | kit_is | rfl | decide +kernel); (case o0f => first | k_is | kit_is | rfl | decide +kernel); (case o1a => first | k_is | kit_is | rfl | decide +kernel); (case o1b => first | k_is | kit_is | rfl | decide +kernel); (case o1c => first | k_is | kit_is | rfl | decide +kernel); (case o1d => first | k_is | kit_is | rfl | decide +kernel); (case o1e => first | k_is | kit_is | rfl | decide +kernel); (case o1f => first | k_is | kit_is | rfl | decide +kernel); (case o2a => first | k_is | kit_is | rfl | decide +kernel); (case o2b => first | k_is | kit_is | rfl | decide +kernel); (case o2c => first | k_is | kit_is | rfl | decide +kernel); (case o2d => first | k_is | kit_is | rfl | decide +kernel); (case o2e => first | k_is | kit_is | rfl | decide +kernel); (case o2f => first | k_is | kit_is | rfl | decide +kernel); (case o3a => first | k_is | kit_is | rfl | decide +kernel); (case o3b => first | k_is | kit_is | rfl | decide +kernel); (case o3c => first | k_is | kit_is | rfl | decide +kernel); (case o3d => first | k_is | kit_is | rfl | decide +kernel); (case o3e => first | k_is | kit_is | rfl | decide +kernel); (case o3f => first | k_is | kit_is | rfl | decide +kernel); (case o4a => first | k_is | kit_is | rfl | decide +kernel); (case o4b => first | k_is | kit_is | rfl | decide +kernel); (case o4c => first | k_is | kit_is | rfl | decide +kernel); (case o4d => first | k_is | kit_is | rfl | decide +kernel); (case o4e => first | k_is | kit_is | rfl | decide +kernel); (case o4f => first | k_is | kit_is | rfl | decide +kernel); (case o5a => first | k_is | kit_is | rfl | decide +kernel); (case o5b => first | k_is | kit_is | rfl | decide +kernel); (case o5c => first | k_is | kit_is | rfl | decide +kernel); (case o5d => first | k_is | kit_is | rfl | decide +kernel); (case o5e => first | k_is | kit_is | rfl | decide +kernel); (case o5f => first | k_is | kit_is | rfl | decide +kernel); (case o6a => first | k_is | kit_is | rfl | decide +kernel); (case o6b => first | k_is | kit_is | rfl | decide +kernel); (case o6c => first | k_is | kit_is | rfl | decide +kernel); (case o6d => first | k_is | kit_is | rfl | decide +kernel); (case o6e => first | k_is | kit_is | rfl | decide +kernel); (case o6f => first | k_is | kit_is | rfl | decide +kernel); (case b0 => first | kit_is | k_is | rfl | decide +kernel); (case b1 => first | kit_is | k_is | rfl | decide +kernel); (case b2 => first | kit_is | k_is | rfl | decide +kernel); (case b3 => first | kit_is | k_is | rfl | decide +kernel); (case mk => intro mg h KX G; refine' ⟨_, _, _, Pc.bad_of KX G ?ff ?aC ?aF ?cl ?sa ?ga ?gg ?nN ?iC ?tC ?kC ?exC ?tyC ?hdC ?isC ?sC ?rF ?sF ?cF ?fn ?cd ?hlin⟩; (case ff => first | exact .inl rfl | exact .inr rfl); (case aC => first | k_is | rfl | decide +kernel); (case aF => first | k_is | rfl | decide +kernel); (case cl => first | k_is | rfl | decide +kernel); (case sa => first | k_is | rfl | decide +kernel); (case ga => first | k_is | rfl | decide +kernel); (case gg => first | k_is | rfl | decide +kernel); (case nN => first | k_is | rfl | decide +kernel); (case iC => first | k_is | rfl | decide +kernel); (case tC => first | k_is | rfl | decide +kernel); (case kC => first | k_is | rfl | decide +kernel); (case exC => first | k_is | rfl | decide +kernel); (case tyC => first | k_is | rfl | decide +kernel); (case hdC => first | k_is | rfl | decide +kernel); (case isC => first | k_is | rfl | decide +kernel); (case sC => first | k_is | rfl | decide +kernel); (case rF => first | k_is | rfl | decide +kernel); (case sF => first | k_is | rfl | decide +kernel); (case cF => first | k_is | rfl | decide +kernel); (case fn => first | k_is | rfl | decide +kernel); (case cd => first | k_is | rfl | decide +kernel); (case hlin => first | rfl | decide)))
    (case C6 => refine' Pc.con_cls ⟨⟨?hg, ?hk, ?hs, ?hd, ?ha, ?hn, ?ht, ?hm⟩, ⟨⟨_, ?o0a, ?o0b, ?o0c, ?o0d, ?o0e, ?o0f⟩, ⟨_, ?o1a, ?o1b, ?o1c, ?o1d, ?o1e, ?o1f⟩, ⟨_, ?o2a, ?o2b, ?o2c, ?o2d, ?o2e, ?o2f⟩, ⟨_, ?o3a, ?o3b, ?o3c, ?o3d, ?o3e, ?o3f⟩, ⟨_, ?o4a, ?o4b, ?o4c, ?o4d, ?o4e, ?o4f⟩, ⟨_, ?o5a, ?o5b, ?o5c, ?o5d, ?o5e, ?o5f⟩, ⟨_, ?o6a, ?o6b, ?o6c, ?o6d, ?o6e, ?o6f⟩, trivial⟩, ⟨?b0, ?b1, ?b2, ?b3, trivial⟩, ?gC, ?mk⟩; (case gC => k_is); (case hg => first | k_is | rfl | decide +kernel); (case hk => first | k_is | rfl | decide +kernel); (case hs => first | k_is | rfl | decide +kernel); (case hd => first | k_is | rfl | decide +kernel); (case ha => first | k_is | rfl | decide +kernel); (case hn => first | k_is | rfl | decide +kernel); (case ht => first | k_is | rfl | decide +kernel); (case hm => first | k_is | rfl | decide +kernel); (case o0a => first | k_is | kit_is | rfl | decide +kernel); (case o0b => first | k_is | kit_is | rfl | decide +kernel); (case o0c => first | k_is | kit_is | rfl | decide +kernel); (case o0d => first | k_is | kit_is | rfl | decide +kernel); (case o0e => first | k_is | kit_is | rfl | decide +kernel); (case o0f => first | k_is | kit_is | rfl | decide +kernel); (case o1a => first | k_is | kit_is | rfl | decide +kernel); (case o1b => first | k_is | kit_is | rfl | decide +kernel); (case o1c => first | k_is | kit_is | rfl | decide +kernel); (case o1d => first | k_is | kit_is | rfl | decide +kernel); (case o1e => first | k_is | kit_is | rfl | decide +kernel); (case o1f => first | k_is | kit_is | rfl | decide +kernel); (case o2a => first | k_is | kit_is | rfl | decide +kernel); (case o2b => first | k_is | kit_is | rfl | decide +kernel); (case o2c => first | k_is | kit_is | rfl | decide +kernel); (case o2d => first | k_is | kit_is | rfl | decide +kernel); (case o2e => first | k_is | kit_is | rfl | decide +kernel); (case o2f => first | k_is | kit_is | rfl | decide +kernel); (case o3a => first | k_is | kit_is | rfl | decide +kernel); (case o3b => first | k_is | kit_is | rfl | decide +kernel); (case o3c => first | k_is | kit_is | rfl | decide +kernel); (case o3d => first | k_is | kit_is | rfl | decide +kernel); (case o3e => first | k_is | kit_is | rfl | decide +kernel); (case o3f => first | k_is | kit_is | rfl | decide +kernel); (case o4a => first | k_is | kit_is | rfl | decide +kernel); (case o4b => first | k_is | kit_is | rfl | decide +kernel); (case o4c => first | k_is | kit_is | rfl | decide +kernel); (case o4d => first | k_is | kit_is | rfl | decide +kernel); (case o4e => first | k_is | kit_is | rfl | decide +kernel); (case o4f => first | k_is | kit_is | rfl | decide +kernel); (case o5a => first | k_is | kit_is | rfl | decide +kernel); (case o5b => first | k_is | kit_is | rfl | decide +kernel); (case o5c => first | k_is | kit_is | rfl | decide +kernel); (case o5d => first | k_is | kit_is | rfl | decide +kernel); (case o5e => first | k_is | kit_is | rfl | decide +kernel); (case o5f => first | k_is | kit_is | rfl | decide +kernel); (case o6a => first | k_is | kit_is | rfl | decide +kernel); (case o6b => first | k_is | kit_is | rfl | decide +kernel); (case o6c => first | k_is | kit_is | rfl | decide +kernel); (case o6d => first | k_is | kit_is | rfl | decide +kernel); (case o6e => first | k_is | kit_is | rfl | decide +kernel); (case o6f => first | k_is | kit_is | rfl | decide +kernel); (case b0 => first | kit_is | k_is | rfl | decide +kernel); (case b1 => first | kit_is | k_is | rfl | decide +kernel); (case b2 => first | kit_is | k_is | rfl | decide +kernel); (case b3 => first | kit_is | k_is | rfl | decide +kernel); (case mk => intro mg h KX G; refine' ⟨_, _, _, Pc.no_of KX G ?aC ?aF ?cl ?iC ?tC ?kC ?exC ?tyC ?rF ?sF ?cF ?fn ?cd ?hlin⟩; (case aC => first | k_is | rfl | decide +kernel); (case aF => first | k_is | rfl | decide +kernel); (case cl => first | k_is | rfl | decide +kernel); (case iC => first | k_is | rfl | decide +kernel); (case tC => first | k_is | rfl | decide +kernel); (case kC => first | k_is | rfl | decide +kernel); (case exC => first | k_is | rfl | decide +kernel); (case tyC => first | k_is | rfl | decide +kernel); (case rF => first | k_is | rfl | decide +kernel); (case sF => first | k_is | rfl | decide +kernel); (case cF => first | k_is | rfl | decide +kernel); (case fn => first | k_is | rfl | decide +kernel); (case cd => first | k_is | rfl | decide +kernel); (case hlin => first | rfl | decide)))
    (case F0 => k_is)
    (case F1 => k_is)
    (case F2 => k_is)
    (case F3 => k_is)
    (case F4 => k_is)
    (case F5 => k_is)
    (case F6 => k_is)
    (case F7 => k_is)
    (case F8 => k_is)
    (case F9 => k_is)
    (case F10 => k_is)
    (case B0 => refine' ⟨_, _, _, _, Pc.bad_of KX G ?ff ?aC ?aF ?cl ?sa ?ga ?gg ?nN ?iC ?tC ?kC ?exC ?tyC ?hdC ?isC ?sC ?rF ?sF ?cF ?fn ?cd ?hlin⟩; (case ff => first | exact .inl rfl | exact .inr rfl); (case aC => first | k_is | rfl | decide +kernel); (case aF => first | k_is | rfl | decide +kernel); (case cl => first | k_is | rfl | decide +kernel); (case sa => first | k_is | rfl | decide +kernel); (case ga => first | k_is | rfl | decide +kernel); (case gg => first | k_is | rfl | decide +kernel); (case nN => first | k_is | rfl | decide +kernel); (case iC => first | k_is | rfl | decide +kernel); (case tC => first | k_is | rfl | decide +kernel); (case kC => first | k_is | rfl | decide +kernel); (case exC => first | k_is | rfl | decide +kernel); (case tyC => first | k_is | rfl | decide +kernel); (case hdC => first | k_is | rfl | decide +kernel); (case isC => first | k_is | rfl | decide +kernel); (case sC => first | k_is | rfl | decide +kernel); (case rF => first | k_is | rfl | decide +kernel); (case sF => first | k_is | rfl | decide +kernel); (case cF => first | k_is | rfl | decide +kernel); (case fn => first | k_is | rfl | decide +kernel); (case cd => first | k_is | rfl | decide +kernel); (case hlin => first | rfl | decide))
